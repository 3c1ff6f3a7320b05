import PyProof.Rows.All
import Wide.All
import OpenK.AllK
import Wide.FinOn
import Lean
import PyProof.EqAt
import PyProof.EqKinds
import PyProof.TupleCall
import PyProof.NeKinds
import PySem.Syntax
import PySem.Builtin.Str.Common
import PyProof.ReprReads
import PyProof.StrLaws
import PyProof.ReprRoads
import PyProof.FitsInt
import KE.KIsAll
import PyProof.DictTable
import PyProof.Rows.SetFrom
import PyProof.SetRoads
import PyProof.ZipIter
import PyProof.StrWalks
import PyProof.EnumFor
import PyProof.EnumStmt
import PyProof.ListNew
import PyProof.CollectIter
import PyProof.Rows.SortWalk
import PySem.Challenge.RW_handpromise_k65_tracks_apart
set_option genSizeOf false
set_option genInjectivity false
set_option bootstrap.genMatcherCode false
set_option genSizeOf false
set_option genInjectivity false
set_option bootstrap.genMatcherCode false
set_option Elab.async false
set_option linter.all false
theorem nf{p:Prop}(h:false=true):p:=absurd h Bool.false_ne_true
def gS:=@List.getElem?_cons_succ.{0}
def gZ:=@List.getElem?_cons_zero.{0}
def lS:=@List.set_cons_succ.{0}
def lZ:=@List.set_cons_zero.{0}
def bF:=@Bool.false_eq_true
def lC:=@List.length_cons.{0}
def lN:=@List.length_nil.{0}
def lA:=@List.length_append.{0}
def mC:=@List.map_cons.{0,0}
def mN:=@List.map_nil.{0,0}
def lM:=@List.length_map.{0,0}
def mG:=@List.mem_of_getElem?.{0}
def bN:=@Bool.false_ne_true
def bA:=@Bool.and_eq_true
noncomputable section
set_option maxRecDepth 100000
namespace L2
open PySem PySem.Spec PyProof.Rows
abbrev Key:=Sum Int Str
def oQ:Key->Value->Bool
 | .inl k,v=>Value.isInt k v
 | .inr x,v=>Value.isStrOf x v
def aLI(w:World):Key->Int
 | .inl k=>hashInt k
 | .inr x=>hashStr w x
theorem keyIs_shape:∀{k:Key} {v:Value},oQ k v=true->(∃i t,k=Sum.inl i/\v=Value.int i t)\/(∃x t,k=Sum.inr x/\v=Value.str x t)
 | .inl i,v,h=>by
  obtain⟨t,e⟩:=Value.isInt_shape (k:=i) (v:=v) h
  exact .inl ⟨i,t,rfl,e⟩
 | .inr x,v,h=>by
  obtain⟨t,e⟩:=Value.isStrOf_shape (x:=x) (v:=v) h
  exact .inr ⟨x,t,rfl,e⟩
theorem aAP(i:Int)(t:Tok):oQ (.inl i) (.int i t)=true:=by simp[oQ,Value.isInt]
theorem mK(x:Str)(t:Tok):oQ (.inr x) (.str x t)=true:=by simp[oQ,Value.isStrOf]
theorem aGt(a b:Int):decide ((Sum.inl a:Key)=Sum.inl b)=(a==b):=by
 by_cases e:a=b
 . subst e;simp
 . have h:¬ (Sum.inl a:Key)=Sum.inl b:=λq=>e (Sum.inl.inj q)
   rw[decide_eq_false h]
   exact(beq_eq_false_iff_ne.mpr e).symm
theorem aGu(a b:Str):decide ((Sum.inr a:Key)=Sum.inr b)=decide (a=b):=by
 by_cases e:a=b
 . subst e;simp
 . have h:¬ (Sum.inr a:Key)=Sum.inr b:=λq=>e (Sum.inr.inj q)
   rw[decide_eq_false h,decide_eq_false e]
theorem aGv(a:Int)(b:Str):decide ((Sum.inl a:Key)=Sum.inr b)=false:=decide_eq_false (λq=>nomatch q)
theorem aGw(a:Str)(b:Int):decide ((Sum.inr a:Key)=Sum.inl b)=false:=decide_eq_false (λq=>nomatch q)
def bS(prog:Program)(w:World):PySem.KeyKind prog w Key where
 is:=oQ
 hash:=aLI w
 inj:=λv a b ha hb=>by
  rcases keyIs_shape ha with⟨i,t,rfl,rfl⟩|⟨x,t,rfl,rfl⟩
  . rcases keyIs_shape hb with⟨j,u,rfl,e⟩|⟨y,u,rfl,e⟩
    . injection e with e1 _;rw[e1]
    . exact nomatch e
  . rcases keyIs_shape hb with⟨j,u,rfl,e⟩|⟨y,u,rfl,e⟩
    . exact nomatch e
    . injection e with e1 _;rw[e1]
 byValue:=λk v h=>by
  rcases keyIs_shape h with⟨i,t,rfl,rfl⟩|⟨x,t,rfl,rfl⟩ <;> rfl
 pyHash:=λhv h=>by
  rcases keyIs_shape hv with⟨i,t,rfl,rfl⟩|⟨x,t,rfl,rfl⟩
  . exact wpAny_pyHash_int h
  . exact wpAny_pyHash_str h
 eqBool:=λhu hv h=>by
  rcases keyIs_shape hu with⟨i,t,rfl,rfl⟩|⟨x,t,rfl,rfl⟩
  . rcases keyIs_shape hv with⟨j,u,rfl,rfl⟩|⟨y,u,rfl,rfl⟩
    . rw[aGt] at h;exact wpAny_eqBool_int h
    . rw[aGv] at h;exact SeqAt.EqAt.int_str i t y u _ _ _ _ h
  . rcases keyIs_shape hv with⟨j,u,rfl,rfl⟩|⟨y,u,rfl,rfl⟩
    . rw[aGw] at h;exact SeqAt.EqAt.str_int x t j u _ _ _ _ h
    . rw[aGu] at h;exact wpAny_eqBool_str h
 «strs»:=λk x t v h=>by
  rcases keyIs_shape h with⟨i,u,rfl,e⟩|⟨y,u,rfl,e⟩
  . exact nomatch e
  . injection e with e1 _
    subst e1
    cases v <;> rfl
theorem uW(prog:Program)(w:World)(i:Int)(t:Tok):(bS prog w).is (.inl i) (.int i t)=true:=aAP i t
theorem uX(prog:Program)(w:World)(x:Str)(t:Tok):(bS prog w).is (.inr x) (.str x t)=true:=mK x t
end L2
namespace L2
open PySem PySem.Spec PyProof.Rows
inductive V where
 | non|bl (b:Bool)|int (i:Int)|str (x:Str)|byt (b:Array UInt8)|flt (b:UInt64)|ref (a:Addr)|ty (n:String)
 deriving DecidableEq
def bQ:V->Value->Prop
 | .non,u=>u=Value.none
 | .bl b,u=>u=Value.bool b
 | .int i,u=>∃t,u=Value.int i t
 | .str x,u=>∃t,u=Value.str x t
 | .byt b,u=>∃t,u=Value.bytes b t
 | .flt b,u=>∃t,u=Value.float b t
 | .ref a,u=>u=Value.ref a
 | .ty n,u=>u=Value.type n
abbrev bC:List V->List Value->Prop:=Paired bQ
theorem bC.length{xs:List V}{us:List Value}(r:bC xs us):xs.length=us.length:=Paired.length r
theorem bC.get:∀{xs:List V} {us:List Value} {i:Nat} {x:V},bC xs us->xs[i]? = some x->∃u,us[i]? = some u/\bQ x u
 | _,_,_,_,.nil,e=>by simp at e
 | _,_,0,_,.cons r _,e=>by simp at e;subst e;exact⟨_,rfl,r⟩
 | _,_,i+1,x,.cons _ t,e=>by
  obtain⟨u,h1,h2⟩:=bC.get (i:=i) (x:=x) t (by simpa using e)
  exact⟨u,by simpa using h1,h2⟩
theorem bC.set{x:V}{u:Value}(r:bQ x u):∀{xs:List V} {us:List Value} (i:Nat),bC xs us->bC (xs.set i x) (us.set i u)
 | _,_,_,.nil=>.nil
 | _,_,0,.cons _ t=>.cons r t
 | _,_,i+1,.cons q t=>.cons q (bC.set r i t)
theorem bC.append:∀{xs ys:List V} {us ws:List Value},bC xs us->bC ys ws->bC (xs++ys) (us++ws)
 | _,_,_,_,.nil,s=>s
 | _,_,_,_,.cons r t,s=>.cons r (bC.append t s)
theorem bC.take:∀{xs:List V} {us:List Value} (n:Nat),bC xs us->bC (xs.take n) (us.take n)
 | _,_,0,_=>.nil
 | _,_,_+1,.nil=>.nil
 | _,_,n+1,.cons r t=>.cons r (bC.take n t)
theorem bC.drop:∀{xs:List V} {us:List Value} (n:Nat),bC xs us->bC (xs.drop n) (us.drop n)
 | _,_,0,r=>r
 | _,_,_+1,.nil=>.nil
 | _,_,n+1,.cons _ t=>bC.drop n t
def aIP:Option V->Option Value->Prop
 | some v,some u=>bQ v u
 | none,none=>True
 | _,_=>False
def KV{κ:Type}:List (κ×V)->List (κ×Value)->Prop:=Paired λ(p:κ×V) (q:κ×Value)=>p.1=q.1/\bQ p.2 q.2
def kV:Key->V
 | .inl i=>.int i
 | .inr x=>.str x
inductive HO where
 | lst (xs:List V)
 | tup (xs:List V)
 | dK (kvs:List (Key×V))|dT (kvs:List (List Key×V))
 | set (S:Int->Bool) (n:Nat)
 | ins (C dx:Addr) (fs:List (Str×V))
 | own (x:Addr)
 | xd (fs:List (Str×V))
 | met (f x:Addr)
 | rng (lo hi:Int)
 | frz (o:Obj) (u:HO)
 | tbl (ps:Array Value)
 | ext (φ:Heap->Prop)
abbrev Hp:=Addr->Option HO
def upd(H:Hp)(a:Addr)(o:HO):Hp:=λb=>if b=a then some o else H b
theorem cU{H:Hp}{a:Addr}{o:HO}:upd H a o a=some o:=by unfold upd;rw[if_pos rfl]
theorem aV{H:Hp}{a b:Addr}{o:HO}(h:b≠a):upd H a o b=H b:=by unfold upd;rw[if_neg h]
theorem bP{H:Hp}{a b:Addr}{o:HO}(h:H a=some o)(h':H b=none):a≠b:=by
 intro e;subst e;rw[h] at h';cases h'
section
variable (P:Program) (w:World)
def fC(H:Hp)(h:Heap)(a:Addr):HO->Prop
 | .lst xs=>xs.length<=sizeLine/\∃(its:List Value) (n:Nat),bC xs its/\h.get? a=some { cls:=.type "list",data:=.seq its.toArray n }
 | .tup xs=>xs.length<=sizeLine/\∃its:List Value,bC xs its/\IsTup h a its.toArray
 | .dK kvs=>kvs.length<=sizeLine/\(a==sysModules)=false/\∃vs,KV kvs vs/\h.DictOf (bS P w) a vs
 | .dT kvs=>kvs.length<=sizeLine/\(a==sysModules)=false/\∃xs:List (List Key×Addr×Value),
  Paired (λ(p:List Key×V) (q:List Key×Addr×Value)=>p.1=q.1/\H q.2.1=some (.tup (p.1.map kV))/\bQ p.2 q.2.2) kvs xs /\
  ∃o es ep,h.get? a=some o/\o.ExactDict/\o.data=.dict es ep/\es.toList=xs.map (entryOfKey (tupleKind (bS P w)))/\(xs.map (·.1)).Nodup
 | .set S n=>h.SetOf (intKind P w) a S n
 | .ins C dx fs=>H dx=some (.own a)/\fs.length<=1000/\dx≠a/\h.get? a=some (PySem.W.instObj C dx) /\
  ∃mA,h.Ns1 dx mA/\(∀f,aIP (fs.lookup f) (mA f))/\PySem.Within mA (fs.map (·.1))
 | .own _=>∃o,h.get? a=some o
 | .xd fs=>∃mA,h.Ns1 a mA/\∀f,aIP (fs.lookup f) (mA f)
 | .rng lo hi=>∃t u v,h.get? a=some { cls:=.type "range",data:=.fields #[.int lo t,.int hi u,.int 1 v] }
 | .frz o u=>h.get? a=some o/\fC H h a u
 | .tbl ps=>h.get? a=some { cls:=.none,data:=.fields ps }
 | .met f x=>h.get? a=some (PySem.W.methodObj (.ref f) (.ref x))
 | .ext φ=>φ h/\(∃o,h.get? a=some o)/\∀h1 h2:Heap,φ h1->(∀o,h1.get? a=some o->h2.get? a=some o)->φ h2
def HOk(H:Hp)(h:Heap):Prop:=∀a o,H a=some o->fC P w H h a o
end
section
variable {P:Program} {w:World} {H H':Hp} {h h':Heap} {a:Addr} {o:HO}
theorem fC.lt(x:fC P w H h a o):a<h.objs.size:=by
 cases o with
 | lst xs=>obtain⟨_,_,_,_,e⟩:=x;exact Heap.lt_size e
 | tup xs=>obtain⟨_,_,_,p⟩:=x;exact p.lt
 | dK kvs=>obtain⟨_,_,_,_,o,_,_,e,_⟩:=x;exact Heap.lt_size e
 | dT kvs=>obtain⟨_,_,_,_,o,_,_,e,_⟩:=x;exact Heap.lt_size e
 | set S n=>obtain⟨o,_,_,_,e,_⟩:=x;exact Heap.lt_size e
 | ins C dx fs=>obtain⟨_,_,_,e,_⟩:=x;exact Heap.lt_size e
 | own y=>obtain⟨_,e⟩:=x;exact Heap.lt_size e
 | xd fs=>obtain⟨_,⟨_,_,_,e,_⟩,_⟩:=x;exact Heap.lt_size e
 | rng lo hi=>obtain⟨_,_,_,e⟩:=x;exact Heap.lt_size e
 | frz ob u=>obtain⟨e,_⟩:=x;exact Heap.lt_size e
 | tbl ps=>exact Heap.lt_size (show h.get? a=some _ from x)
 | met f y=>exact Heap.lt_size (show h.get? a=some _ from x)
 | ext φ=>obtain⟨_,⟨_,e⟩,_⟩:=x;exact Heap.lt_size e
theorem Paired.mapP{α β:Type}{F G:α->β->Prop}:∀{l₁:List α} {l₂:List β},Paired F l₁ l₂->(∀a b,F a b->G a b)->Paired G l₁ l₂
 | _,_,.nil,_=>.nil
 | _,_,.cons r t,f=>.cons (f _ _ r) (Paired.mapP t f)
theorem fC.stay(x:fC P w H h a o)(k:∀b u,(b=a\/H b=some (.own a))->h.get? b=some u->h'.get? b=some u)
 (ho:∀b,H b=some (.own a)->H' b=some (.own a)) (ht:∀b xs,H b=some (.tup xs)->H' b=some (.tup xs)):fC P w H' h' a o:=by
 induction o with
 | lst xs=>obtain⟨z,its,n,r,e⟩:=x;exact⟨z,its,n,r,k _ _ (.inl rfl) e⟩
 | tup xs=>obtain⟨z,its,r,ob,e,c⟩:=x;exact⟨z,its,r,ob,k _ _ (.inl rfl) e,c⟩
 | dK kvs=>obtain⟨z,y,vs,r,ob,es,ep,e,c⟩:=x;exact⟨z,y,vs,r,ob,es,ep,k _ _ (.inl rfl) e,c⟩
 | dT kvs=>
  obtain⟨z,y,xs,r,ob,es,ep,e,c⟩:=x
  exact⟨z,y,xs,Paired.mapP r λp q z=>⟨z.1,ht _ _ z.2.1,z.2.2⟩,ob,es,ep,k _ _ (.inl rfl) e,c⟩
 | set S n=>obtain⟨ob,es,ep,t,e,c⟩:=x;exact⟨ob,es,ep,t,k _ _ (.inl rfl) e,c⟩
 | ins C dx fs=>
  obtain⟨d,z,ne,e,mA,⟨od,es,ep,e2,c⟩,r⟩:=x
  exact⟨ho _ d,z,ne,k _ _ (.inl rfl) e,mA,⟨od,es,ep,k _ _ (.inr d) e2,c⟩,r⟩
 | own y=>obtain⟨ob,e⟩:=x;exact⟨ob,k _ _ (.inl rfl) e⟩
 | xd fs=>obtain⟨mA,⟨od,es,ep,e,c⟩,r⟩:=x;exact⟨mA,⟨od,es,ep,k _ _ (.inl rfl) e,c⟩,r⟩
 | rng lo hi=>obtain⟨t,u,v,e⟩:=x;exact⟨t,u,v,k _ _ (.inl rfl) e⟩
 | frz ob u ih=>obtain⟨e,q⟩:=x;exact⟨k _ _ (.inl rfl) e,ih q⟩
 | tbl ps=>
  have e:h.get? a=some { cls:=.none,data:=.fields ps }:=x
  show h'.get? a=some { cls:=.none,data:=.fields ps }
  exact k a _ (.inl rfl) e
 | met f y=>
  have e:h.get? a=some (PySem.W.methodObj (.ref f) (.ref y)):=x
  show h'.get? a=some (PySem.W.methodObj (.ref f) (.ref y))
  exact k a _ (.inl rfl) e
 | ext φ=>obtain⟨p,⟨o,e⟩,st⟩:=x;exact⟨st _ _ p λo q=>k _ _ (.inl rfl) q,⟨o,k _ _ (.inl rfl) e⟩,st⟩
theorem HOk.lt(x:HOk P w H h)(e:H a=some o):a<h.objs.size:=(x a o e).lt
theorem HOk.fresh(x:HOk P w H h)(e:h.objs.size<=a):H a=none:=by
 cases q:H a with
 | none=>rfl
 | some u=>exact absurd (Nat.lt_of_lt_of_le (x.lt q) e) (Nat.lt_irrefl _)
theorem HOk.kept(x:HOk P w H h)(k:∀b u,h.get? b=some u->h'.get? b=some u):HOk P w H h':=λa o e=>
 (x a o e).stay (λb u _ q=>k b u q) (λ_ q=>q) λ_ _ q=>q
theorem HOk.laid(x:HOk P w H h)(k:∀b u,h.get? b=some u->h'.get? b=some u)(hp:h.objs.size<=a)(new:fC P w (upd H a o) h' a o):HOk P w (upd H a o) h':=λb u e=>by
 have hn:=x.fresh hp
 by_cases hb:b=a
 . subst hb;rw[cU] at e;cases e;exact new
 . rw[aV hb] at e
   exact(x b u e).stay (λc v _ q=>k c v q) (λc q=>by rw[aV (bP q hn)];exact q) λc xs q=>by rw[aV (bP q hn)];exact q
end
def Rd(H:Hp)(a:Addr)(u:HO):Prop:=H a=some u\/∃o,H a=some (.frz o u)
theorem Rd.ok{P:Program}{w:World}{H:Hp}{h:Heap}{a:Addr}{u:HO}(r:Rd H a u)(x:HOk P w H h):fC P w H h a u:=by
 rcases r with r|⟨o,r⟩
 . exact x a u r
 . obtain⟨_,q⟩:=x a _ r
   exact q
def Mut:Option HO->Prop
 | some (.lst _)=>True
 | some (.dK _)=>True
 | some (.dT _)=>True
 | some (.set _ _)=>True
 | some (.ins _ _ _)=>True
 | some (.ext _)=>True
 | _=>False
section
variable {P:Program} {w:World} {H:Hp} {h h':Heap} {x e:Addr} {o':HO}
theorem HOk.write(ok:HOk P w H h)(mu:Mut (H x))(he:e=x\/H e=some (.own x))(k:∀b u,b≠e->h.get? b=some u->h'.get? b=some u)(heo:∃u,h'.get? e=some u)
 (new:fC P w (upd H x o') h' x o'):HOk P w (upd H x o') h':=λb u q=>by
 have nown:∀c y,H c=some (.own y)->c≠x:=λc y r z=>by subst z;rw[r] at mu;exact mu
 have ntup:∀c xs,H c=some (.tup xs)->c≠x:=λc xs r z=>by subst z;rw[r] at mu;exact mu
 by_cases hb:b=x
 . subst hb;rw[cU] at q;cases q;exact new
 . rw[aV hb] at q
   by_cases hbe:b=e
   . have q':H b=some (.own x):=by
      rcases he with z|z
      . exact absurd (hbe.trans z) hb
      . rw[hbe];exact z
     rw[q] at q';cases q'
     obtain⟨v,hv⟩:=heo
     exact⟨v,by rw[hbe];exact hv⟩
   . refine(ok b u q).stay (λc v hc r=>k c v ?_ r) (λc r=>by rw[aV (nown c b r)];exact r) λc xs r=>by rw[aV (ntup c xs r)];exact r
     rcases hc with rfl|hc
     . exact hbe
     . rintro rfl
       rcases he with z|z
       . exact nown c b hc z
       . rw[hc] at z;cases z;exact hb rfl
end
structure Un (fs ex:List Addr) (H H':Hp) (h h':Heap):Prop where
 keep:∀b o,h.get? b=some o->H b=none->b∉fs->b∉ex->h'.get? b=some o
 slot:∀b o,h.get? b=some o->H b=none->b∈fs->b∉ex->∃sl,h'.get? b=some { o with slots:=sl }
 free:∀b o,h.get? b=some o->H b=none->b∉ex->H' b=none
 there:∀b o,h.get? b=some o->b∉ex->∃o',h'.get? b=some o'
 tups:∀b xs,H b=some (.tup xs)->H' b=some (.tup xs)
 frzs:∀b o u,H b=some (.frz o u)->H' b=some (.frz o u)
 tbls:∀b ps,H b=some (.tbl ps)->∃more,H' b=some (.tbl (ps++more))
section
variable {fs fs' ex ex':List Addr} {H H1 H2:Hp} {h h1 h2 h':Heap} {a x e:Addr} {o:HO}
theorem Un.any(u:Un fs ex H H1 h h1){b:Addr}{ob:Obj}(q:h.get? b=some ob)(n:H b=none)(hx:b∉ex):∃sl,h1.get? b=some { ob with slots:=sl }:=by
 by_cases hb:b∈fs
 . exact u.slot b ob q n hb hx
 . exact⟨ob.slots,u.keep b ob q n hb hx⟩
theorem Un.kept(k:∀b u,h.get? b=some u->h'.get? b=some u):Un fs ex H H h h':=
 ⟨λb ob q _ _ _=>k b ob q,λb ob q _ _ _=>⟨ob.slots,k b ob q⟩,λ_ _ _ n _=>n,λb ob q _=>⟨ob,k b ob q⟩,λ_ _ q=>q,λ_ _ _ q=>q,λ_ ps q=>⟨#[],by rw[q];simp⟩⟩
theorem Un.refl:Un fs ex H H h h:=Un.kept λ_ _ q=>q
theorem Un.laid(k:∀b u,h.get? b=some u->h'.get? b=some u)(hp:h.objs.size<=a)(hn:H a=none):Un fs ex H (upd H a o) h h' where
 keep:=λb u q _ _ _=>k b u q
 slot:=λb u q _ _ _=>⟨u.slots,k b u q⟩
 free:=λb u q n _=>by rw[aV (Nat.ne_of_lt (Nat.lt_of_lt_of_le (Heap.lt_size q) hp))];exact n
 there:=λb u q _=>⟨u,k b u q⟩
 tups:=λb xs q=>by rw[aV (bP q hn)];exact q
 frzs:=λb u xs q=>by rw[aV (bP q hn)];exact q
 tbls:=λb ps q=>⟨#[],by rw[aV (bP q hn),q];simp⟩
theorem Un.write(mu:Mut (H x))(he:e=x\/H e=some (.own x))(k:∀b u,b≠e->h.get? b=some u->h'.get? b=some u)(heo:∃u,h'.get? e=some u):Un fs ex H (upd H x o) h h':=by
 have hx:∀b,H b=none->b≠x:=λb n z=>by subst z;rw[n] at mu;exact mu
 have hb:∀b,H b=none->b≠e:=λb n z=>by
  subst z
  rcases he with r|r
  . exact hx b n r
  . rw[n] at r;cases r
 have hm:∀b u,H b=some u->¬ Mut (some u)->b≠x:=λb u q nm z=>by subst z;rw[q] at mu;exact nm mu
 refine⟨λb u q n _ _=>k b u (hb b n) q,λb u q n _ _=>⟨u.slots,k b u (hb b n) q⟩,λb u q n _=>by rw[aV (hx b n)];exact n,λb u q _=>?_,
  λb xs q=>by rw[aV (hm b _ q λz=>z)];exact q,λb u xs q=>by rw[aV (hm b _ q λz=>z)];exact q,λb ps q=>⟨#[],by rw[aV (hm b _ q λz=>z),q];simp⟩⟩
 by_cases hbe:b=e
 . subst hbe;exact heo
 . exact⟨u,k b u hbe q⟩
end
def trk(h:Heap)(H:Hp):List Addr:=(List.range h.objs.size).filter λa=>(H a).isSome
def sU(h:Heap)(H:Hp):Heap:=PySem.W.hideAll h (trk h H)
theorem aAQ(h:Heap)(H:Hp):(sU h H).objs.size=h.objs.size:=PySem.W.hideAll_size _ _
theorem aCa{h:Heap}{H:Hp}{b:Addr}{o:Obj}(e:h.get? b=some o)(n:H b=none):(sU h H).get? b=some o:=
 PySem.W.hideAll_get _ e λhm=>by
  have q:(H b).isSome=true:=(List.mem_filter.mp hm).2
  rw[n] at q;simp at q
theorem aEs{h:Heap}{H:Hp}{b:Addr}{o:Obj}(e:(sU h H).get? b=some o):h.get? b=some o/\H b=none:=by
 have e':h.get? b=some o:=PySem.W.of_hideAll (trk h H) e
 refine⟨e',?_⟩
 cases q:H b with
 | none=>rfl
 | some x=>
  have hm:b∈trk h H:=List.mem_filter.mpr ⟨List.mem_range.mpr (Heap.lt_size e'),by simp[q]⟩
  have z:(sU h H).get? b=none:=PySem.W.hideAll_none (trk h H) hm
  rw[z] at e;cases e
def aEt(g h:Heap)(L:Addr):List (Addr×Obj):=(List.range h.objs.size).filterMap λa=>if a=L\/(g.get? a).isSome=true then none else (h.get? a).map λo=>(a,o)
def rest(g h:Heap)(L d:Addr):List (Addr×Obj):=(aEt g h L).filter λp=>decide (p.1≠d)
end L2
namespace L2
open PySem PySem.Spec PyProof.Rows
structure Mod (K:PySem.W.Frag) (mg:Str->Option Value) (base:Heap):Prop where
 kin:K.In base
 glob:base.Ns mainGlobals mg
 blt:∃mb,base.Ns builtinsNs mb/\∀x:Str,x ≠ "__name__" -> mb x=bootBuiltins x
 nolimit:base.NoLimit
set_option genInjectivity true in
set_option genInjectivity true in
structure Cx where
 prog:Program
 w:World
 K:PySem.W.Frag
 mg:Str->Option Value
 base:Heap
 A:Around
 N:List Str
 s₀:Shared
 H₀:Hp
 env:Env
 outer:List Env
 stack:List Env
 ex:List Addr
 fn:Str->Bool
 calm:Bool
 pn:List (Addr×Obj)
 xe:Value->Shared->Prop
def frs(l:List Env):List Addr:=l.filterMap (·.frame)
abbrev Cx.fs(X:Cx):List Addr:=frs X.outer
def Vis(sc:Scope)(x:Str):Prop:=sc.names.lookup x=some .local\/sc.names.lookup x=some .cell\/sc.names.lookup x=some .free
def Loc(sc:Scope)(x:Str):Prop:=sc.names.lookup x=some .local\/sc.names.lookup x=some .cell
def aLJ(env:Env)(h:Heap)(m:Str->Option Value)(x:Str)(u:Value):Prop:=
 (env.kindOf x=some .local/\m x=some u)\/((env.kindOf x=some .cell\/env.kindOf x=some .free)/\∃c,env.cells.lookup x=some c/\h.IsCell c (some u))
structure Cx.Ok (X:Cx):Prop where
 mod:Mod X.K X.mg X.base
 kind:X.env.scope.kind=.function
 glob:X.env.globals=mainGlobals
 blt:X.env.builtins=builtinsNs
 above:X.s₀.heap.objs.size<=X.env.locals
 inj:∀x y c,X.env.cells.lookup x=some c->X.env.cells.lookup y=some c->x=y
 has:∀x,(X.env.kindOf x=some .cell\/X.env.kindOf x=some .free)->∃c,X.env.cells.lookup x=some c
 cab:∀x c,X.fn x=true->X.env.cells.lookup x=some c->X.s₀.heap.objs.size<=c
 hd:X.calm=true->X.A.handled=none
 frames:X.A.frames=some X.stack
 stk:X.stack=X.outer\/(X.stack=X.env::X.outer/\X.env.frame=some X.env.locals)
 exf:∀b∈X.ex,b≠X.env.locals/\∀x c,X.env.cells.lookup x=some c->c≠b
 bs:∀b o,X.base.get? b=some o->X.s₀.heap.get? b=some o/\X.H₀ b=none
 bsz:X.base.objs.size<=X.s₀.heap.objs.size
 noex:∀b o,X.base.get? b=some o->b∉X.ex
 exfs:∀b∈X.ex,b∉X.fs
 funs:X.s₀.heap.FunFrames X.base X.outer
 frf:∀b∈X.fs,X.H₀ b=none
structure Inv (X:Cx) (pins:List (Addr×Obj)) (σ:List (Option V)) (H:Hp) (s:Shared):Prop where
 ok:X.Ok
 os:s.os=X.s₀.os
 bare:AllBare s.gens
 base:Un X.fs X.ex X.H₀ H X.s₀.heap s.heap
 loc:∃m,s.heap.Ns X.env.locals m/\∀(i:Nat) (x:Str) (v:V),X.N[i]? = some x->σ[i]? = some (some v)->Vis X.env.scope x->∃u,bQ v u/\aLJ X.env s.heap m x u
 cell:∀x c,X.env.cells.lookup x=some c->∃v,s.heap.IsCell c v
 free:H X.env.locals=none
 freeC:∀x c,X.env.cells.lookup x=some c->H c=none
 pin:∀p∈X.pn++pins,s.heap.get? p.1=some p.2/\H p.1=none/\p.1≠X.env.locals/\p.1∉X.fs/\∀v,p.2.data≠.cell v
 hok:HOk X.prog X.w H s.heap
 len:σ.length=X.N.length
section
variable {X:Cx} {pins:List (Addr×Obj)} {σ:List (Option V)} {H H':Hp} {s:Shared} {h':Heap}
theorem Cx.Ok.nofr(ok:X.Ok){b:Addr}{o:Obj}(e:X.base.get? b=some o):b∉X.fs:=λhb=>by
 have:=(ok.funs.mem hb).1
 rw[e] at this;cases this
theorem Inv.bs(I:Inv X pins σ H s):∀b o,X.base.get? b=some o->s.heap.get? b=some o/\H b=none:=λb o e=>
 ⟨I.base.keep b o (I.ok.bs b o e).1 (I.ok.bs b o e).2 (I.ok.nofr e) (I.ok.noex b o e),I.base.free b o (I.ok.bs b o e).1 (I.ok.bs b o e).2 (I.ok.noex b o e)⟩
theorem Inv.bk(I:Inv X pins σ H s):∀b o,X.base.get? b=some o->s.heap.get? b=some o:=λb o e=>(I.bs b o e).1
theorem Inv.mod(I:Inv X pins σ H s):Mod X.K X.mg X.base:=I.ok.mod
theorem Inv.kIn(I:Inv X pins σ H s):X.K.In s.heap:=I.ok.mod.kin.keeps I.bk
theorem Inv.lt(I:Inv X pins σ H s):X.env.locals<s.heap.objs.size:=let ⟨_,hn,_⟩:=I.loc;hn.lt
theorem Inv.sz(I:Inv X pins σ H s):X.s₀.heap.objs.size<=s.heap.objs.size:=Nat.le_trans I.ok.above (Nat.le_of_lt I.lt)
theorem Inv.nofs(I:Inv X pins σ H s){a:Addr}(h:s.heap.objs.size<=a):a∉X.fs:=λhb=>by
 obtain⟨_,o,ho,_⟩:=I.ok.funs.mem hb
 exact absurd (Nat.lt_of_lt_of_le (Heap.lt_size ho) (Nat.le_trans I.sz h)) (Nat.lt_irrefl _)
theorem Inv.cne(I:Inv X pins σ H s):∀x c,X.env.cells.lookup x=some c->c≠X.env.locals:=λx c e z=>by
 obtain⟨v,o,ho,hd⟩:=I.cell x c e
 obtain⟨m,⟨o',es,ep,ho',hd',_⟩,_⟩:=I.loc
 rw[z,ho'] at ho;cases ho;rw[hd'] at hd;cases hd
theorem Inv.funs(I:Inv X pins σ H s):s.heap.FunFrames X.base X.outer:=by
 have all:∀(l:List Env),(∀b∈frs l,b∈X.fs)->X.s₀.heap.FunFrames X.base l->s.heap.FunFrames X.base l:=by
  intro l
  induction l with
  | nil=>intro _ _;trivial
  | cons env r ih=>
   intro hs hl
   obtain⟨hk,⟨L,o,hf,hn,ho,hd⟩,hr⟩:=hl
   have hL:L∈X.fs:=hs L (by unfold frs;rw[List.filterMap_cons,hf];exact List.mem_cons_self)
   obtain⟨sl,e⟩:=I.base.slot L o ho (I.ok.frf L hL) hL λz=>I.ok.exfs L z hL
   exact⟨hk,⟨L,_,hf,hn,e,hd⟩,ih (λb hb=>hs b (by unfold frs;rw[List.filterMap_cons,hf];exact List.mem_cons_of_mem _ hb)) hr⟩
 exact all X.outer (λ_ hb=>hb) I.ok.funs
theorem Inv.stack(I:Inv X pins σ H s):s.heap.FunFrames X.base X.stack:=by
 rcases I.ok.stk with e|⟨e,hf⟩
 . rw[e];exact I.funs
 . rw[e]
   obtain⟨m,hn,_⟩:=I.loc
   refine .cons (by rw[I.ok.kind];decide) hf hn ?_ I.funs
   exact Heap.get?_none_of_le (Nat.le_trans I.ok.bsz I.ok.above)
theorem Inv.stkSub(I:Inv X pins σ H s):∀b∈frs X.stack,b∈X.env.locals::X.fs:=λb hb=>by
 rcases I.ok.stk with e|⟨e,hf⟩
 . rw[e] at hb;exact List.mem_cons_of_mem _ hb
 . rw[e] at hb
   unfold frs at hb
   rw[List.filterMap_cons,hf] at hb
   exact hb
theorem Inv.stkFree(I:Inv X pins σ H s):∀b∈frs X.stack,H b=none:=λb hb=>by
 rcases List.mem_cons.mp (I.stkSub b hb) with e|hb
 . rw[e];exact I.free
 . obtain⟨_,o,ho,_⟩:=I.ok.funs.mem hb
   exact I.base.free b o ho (I.ok.frf b hb) λz=>I.ok.exfs b z hb
theorem Inv.step{g':Array GenState}{t':Nat}{d':Drawn}{ch:List Addr}(I:Inv X pins σ H s)
 (hch:∀b∈ch,(b∈X.ex\/X.s₀.heap.objs.size<=b)/\b≠X.env.locals/\(∀x c,X.env.cells.lookup x=some c->c≠b)/\∀p∈X.pn++pins,p.1≠b)
 (keep:∀b o,b≠X.env.locals->b∉X.fs->b∉ch->s.heap.get? b=some o->H b=none->h'.get? b=some o)
 (slot:∀b o,b≠X.env.locals->b∈X.fs->b∉ch->s.heap.get? b=some o->H b=none->∃sl,h'.get? b=some { o with slots:=sl }) (free:∀b o,b∉ch->s.heap.get? b=some o->H b=none->H' b=none)
 (there:∀b o,b∉ch->s.heap.get? b=some o->∃o',h'.get? b=some o')
 (tups:∀b xs,H b=some (.tup xs)->H' b=some (.tup xs)) (frzs:∀b o u,H b=some (.frz o u)->H' b=some (.frz o u)) (tbls:∀b ps,H b=some (.tbl ps)->∃more,H' b=some (.tbl (ps++more)))
 (ns:∀m,s.heap.Ns X.env.locals m->h'.Ns X.env.locals m) (hok:HOk X.prog X.w H' h') (hg:AllBare g') :
 Inv X pins σ H' { s with heap:=h',gens:=g',drawn:=d',toks:=t' }:=by
 have neL:∀b o,X.s₀.heap.get? b=some o->b≠X.env.locals:=λb o e=>Nat.ne_of_lt (Nat.lt_of_lt_of_le (Heap.lt_size e) I.ok.above)
 have neC:∀b o,X.s₀.heap.get? b=some o->b∉X.ex->b∉ch:=λb o e hx hb=>by
  rcases(hch b hb).1 with z|z
  . exact hx z
  . exact absurd (Nat.lt_of_lt_of_le (Heap.lt_size e) z) (Nat.lt_irrefl _)
 have cellK:∀x c,X.env.cells.lookup x=some c->∀v,s.heap.IsCell c v->h'.IsCell c v:=λx c e v ⟨o,ho,hd⟩=>by
  have nch:c∉ch:=λz=>(hch c z).2.2.1 x c e rfl
  by_cases hc:c∈X.fs
  . obtain⟨sl,q⟩:=slot c o (I.cne x c e) hc nch ho (I.freeC x c e)
    exact⟨_,q,hd⟩
  . exact⟨o,keep c o (I.cne x c e) hc nch ho (I.freeC x c e),hd⟩
 refine⟨I.ok,I.os,hg,⟨λb o e n hb hx=>?_,λb o e n hb hx=>?_,λb o e n hx=>?_,λb o e hx=>?_,λb xs e=>tups b xs (I.base.tups b xs e),λb o xs e=>frzs b o xs (I.base.frzs b o xs e),λb ps e=>?_⟩,?_,λx c e=>?_,?_,λx c e=>?_,λp hp=>?_,hok,I.len⟩
 . exact keep b o (neL b o e) hb (neC b o e hx) (I.base.keep b o e n hb hx) (I.base.free b o e n hx)
 . obtain⟨sl,e1⟩:=I.base.slot b o e n hb hx
   obtain⟨sl',e2⟩:=slot b _ (neL b o e) hb (neC b o e hx) e1 (I.base.free b o e n hx)
   exact⟨sl',e2⟩
 . obtain⟨o',e1⟩:=I.base.there b o e hx
   exact free b o' (neC b o e hx) e1 (I.base.free b o e n hx)
 . obtain⟨o',e1⟩:=I.base.there b o e hx
   exact there b o' (neC b o e hx) e1
 . obtain⟨m1,e1⟩:=I.base.tbls b ps e
   obtain⟨m2,e2⟩:=tbls b _ e1
   exact⟨m1++m2,by rw[e2,Array.append_assoc]⟩
 . obtain⟨m,hn,hl⟩:=I.loc
   refine⟨m,ns m hn,λi x v e1 e2 e3=>?_⟩
   obtain⟨u,r,l⟩:=hl i x v e1 e2 e3
   refine⟨u,r,?_⟩
   rcases l with l|⟨k,c,e,z⟩
   . exact .inl l
   . exact .inr ⟨k,c,e,cellK x c e _ z⟩
 . obtain⟨v,z⟩:=I.cell x c e
   exact⟨v,cellK x c e v z⟩
 . obtain⟨m,⟨o,_,_,ho,_⟩,_⟩:=I.loc
   exact free _ o (λz=>(hch _ z).2.1 rfl) ho I.free
 . obtain⟨v,o,ho,hd⟩:=I.cell x c e
   exact free c o (λz=>(hch c z).2.2.1 x c e rfl) ho (I.freeC x c e)
 . obtain⟨e,n,ne,nf,d⟩:=I.pin p hp
   have nch:p.1∉ch:=λz=>(hch p.1 z).2.2.2 p hp rfl
   exact⟨keep p.1 p.2 ne nf nch e n,free p.1 p.2 nch e n,ne,nf,d⟩
theorem Inv.un{t':Nat}(I:Inv X pins σ H s)(u:Un X.fs [] H H' s.heap h')(hok:HOk X.prog X.w H' h'):Inv X pins σ H' { s with heap:=h',toks:=t' }:=by
 obtain⟨m,⟨o,es,ep,ho,r⟩,_⟩:=id I.loc
 obtain⟨sl,hL⟩:=u.any ho I.free (by simp)
 exact I.step (g':=s.gens) (d':=s.drawn) (ch:=[]) (λ_ z=>nomatch z) (λb o _ hb _ e n=>u.keep b o e n hb (by simp)) (λb o _ hb _ e n=>u.slot b o e n hb (by simp)) (λb o _ e n=>u.free b o e n (by simp)) (λb o _ e=>u.there b o e (by simp)) u.tups u.frzs u.tbls (λm' hm=>by
  obtain⟨o',es',ep',ho',r'⟩:=hm
  rw[ho] at ho';cases ho'
  exact⟨_,es',ep',hL,r'⟩) hok I.bare
theorem Inv.call{g':Array GenState}{t':Nat}{d':Drawn}{ch:List Addr}(I:Inv X pins σ H s)(u:Un (frs X.stack) ch H H' s.heap h')(hok:HOk X.prog X.w H' h')(hg:AllBare g')
 (hch:∀b∈ch,(b∈X.ex\/X.s₀.heap.objs.size<=b)/\b≠X.env.locals/\(∀x c,X.env.cells.lookup x=some c->c≠b)/\∀p∈X.pn++pins,p.1≠b) :
 Inv X pins σ H' { s with heap:=h',gens:=g',drawn:=d',toks:=t' }:=by
 obtain⟨m,⟨o,es,ep,ho,r⟩,_⟩:=id I.loc
 obtain⟨sl,hL⟩:=u.any ho I.free λz=>(hch _ z).2.1 rfl
 exact I.step (ch:=ch) hch (λb o hL hb hc e n=>u.keep b o e n (λz=>(List.mem_cons.mp (I.stkSub b z)).elim hL hb) hc) (λb o _ _ hc e n=>u.any e n hc) (λb o hc e n=>u.free b o e n hc) (λb o hc e=>u.there b o e hc) u.tups u.frzs u.tbls (λm' hm=>by
  obtain⟨o',es',ep',ho',r'⟩:=hm
  rw[ho] at ho';cases ho'
  exact⟨_,es',ep',hL,r'⟩) hok hg
theorem Inv.turned{t':Nat}{it:Addr}(I:Inv X pins σ H s)(k:∀b o,b≠it->s.heap.get? b=some o->h'.get? b=some o)(hn:H it=none)(hL:it≠X.env.locals)
 (h1:it∈X.ex\/X.s₀.heap.objs.size<=it) (h2:∀x c,X.env.cells.lookup x=some c->c≠it) (h3:∀p∈X.pn++pins,p.1≠it):Inv X pins σ H { s with heap:=h',toks:=t' }:=by
 have nit:∀b u,H b=some u->b≠it:=λb u e z=>by rw[z,hn] at e;cases e
 refine I.step (g':=s.gens) (d':=s.drawn) (ch:=[it]) (λb hb=>?_) (λb o _ _ hc e _=>k b o (λz=>hc (by simp[z])) e) (λb o _ _ hc e _=>⟨o.slots,k b o (λz=>hc (by simp[z])) e⟩) (λ_ _ _ _ n=>n)
  (λb o hc e=>⟨o,k b o (λz=>hc (by simp[z])) e⟩) (λ_ _ e=>e) (λ_ _ _ e=>e) (λb ps e=>⟨#[],by rw[e];simp⟩) (λm hm=>?_) (λb u e=>?_) I.bare
 . have e:b=it:=by simpa using hb
   subst e
   exact⟨h1,hL,h2,h3⟩
 . obtain⟨o,es,ep,ho,r⟩:=hm
   exact⟨o,es,ep,k _ o (Ne.symm hL) ho,r⟩
 . refine(I.hok b u e).stay (λc v hc q=>k c v ?_ q) (λ_ q=>q) λ_ _ q=>q
   rcases hc with z|z
   . rw[z];exact nit b u e
   . exact nit c _ z
theorem Inv.tok(I:Inv X pins σ H s)(t:Nat):Inv X pins σ H { s with toks:=t }:=I.un (h':=s.heap) (t':=t) Un.refl I.hok
theorem Inv.kept{t':Nat}(I:Inv X pins σ H s)(k:∀b u,s.heap.get? b=some u->h'.get? b=some u):Inv X pins σ H { s with heap:=h',toks:=t' }:=I.un (Un.kept k) (I.hok.kept k)
theorem Inv.laid{a:Addr}{o:HO}{t':Nat}(I:Inv X pins σ H s)(k:∀b u,s.heap.get? b=some u->h'.get? b=some u)(hp:s.heap.objs.size<=a)(new:fC X.prog X.w (upd H a o) h' a o) :
 Inv X pins σ (upd H a o) { s with heap:=h',toks:=t' }:=I.un (Un.laid k hp (I.hok.fresh hp)) (I.hok.laid k hp new)
theorem Inv.write{x e:Addr}{o:HO}{t':Nat}(I:Inv X pins σ H s)(mu:Mut (H x))(he:e=x\/H e=some (.own x))(k:∀b u,b≠e->s.heap.get? b=some u->h'.get? b=some u)(heo:∃u,h'.get? e=some u)
 (new:fC X.prog X.w (upd H x o) h' x o):Inv X pins σ (upd H x o) { s with heap:=h',toks:=t' }:=I.un (Un.write mu he k heo) (I.hok.write mu he k heo new)
theorem Inv.pins_of{pins':List (Addr×Obj)}(I:Inv X pins σ H s)(h:∀p∈pins',s.heap.get? p.1=some p.2/\H p.1=none/\p.1≠X.env.locals/\p.1∉X.fs/\∀v,p.2.data≠.cell v):Inv X pins' σ H s:=
 ⟨I.ok,I.os,I.bare,I.base,I.loc,I.cell,I.free,I.freeC,λp hp=>(List.mem_append.mp hp).elim (λz=>I.pin p (List.mem_append_left _ z)) (h p),I.hok,I.len⟩
theorem uY{N:List Str}(hN:N.Nodup){i j:Nat}{x:Str}(a:N[i]? = some x)(b:N[j]? = some x):i=j:=by
 obtain⟨h1,e1⟩:=List.getElem?_eq_some_iff.mp a
 obtain⟨h2,e2⟩:=List.getElem?_eq_some_iff.mp b
 exact(List.getElem_inj hN).mp (e1.trans e2.symm)
theorem rF{M:Model}{A:Around}{E:Value->Shared->Prop}{i:Nat}{x:Str}{v:V}{u:Value}{Q:Unit->Shared->Prop}(I:Inv X pins σ H s)(hN:X.N.Nodup)(hi:X.N[i]? = some x)(hx:Loc X.env.scope x)(r:bQ v u)
 (h:∀s',Inv X pins (σ.set i (some v)) H s'->(∃a,Heap.SameBut a s.heap s'.heap/\(a=X.env.locals\/X.env.cells.lookup x=some a))->Q () s') (hf:X.fn x=true\/X.env.scope.names.lookup x=some .local:=by first|exact .inl rfl|exact .inr rfl|assumption):wpAny M A (storeName X.env x u) Q E s:=by
 obtain⟨m,hn,hl⟩:=id I.loc
 have hcls:(X.env.scope.kind==.class||(X.env.scope.kind==.module&&X.env.locals != X.env.globals))=false:=by rw[I.ok.kind];rfl
 have hiσ:i<σ.length:=by rw[I.len];exact(List.getElem?_eq_some_iff.mp hi).1
 have cne:=I.cne
 have tracked:∀{a:Addr} {h':Heap},(∃o,s.heap.get? a=some o/\H a=none)->Heap.SameBut a s.heap h'->HOk X.prog X.w H h':=λ{a h'} ha hs b ob e=>by
  obtain⟨_,_,hfree⟩:=ha
  refine(I.hok b ob e).stay (λc w' hc q=>(hs.2 c ?_).trans q) (λ_ q=>q) λ_ _ q=>q
  rintro rfl
  rcases hc with rfl|hc
  . rw[hfree] at e;cases e
  . rw[hfree] at hc;cases hc
 rcases hx with hk|hk
 . refine wpAny_storeName_local hk hn (λh' hn' hs=>?_) hcls
   obtain⟨oL,_,_,hoL,_⟩:=id hn
   refine h _ ⟨I.ok,I.os,I.bare,⟨λb o e n hb hx=>?_,λb o e n hb hx=>?_,I.base.free,λb o e hx=>?_,I.base.tups,I.base.frzs,I.base.tbls⟩,⟨_,hn',λj y v' e1 e2 e3=>?_⟩,λy c e=>?_,I.free,I.freeC,λp hp=>?_,tracked ⟨oL,hoL,I.free⟩ hs,by simpa using I.len⟩ ⟨_,hs,.inl rfl⟩
   . exact(hs.2 b (Nat.ne_of_lt (Nat.lt_of_lt_of_le (Heap.lt_size e) I.ok.above))).trans (I.base.keep b o e n hb hx)
   . obtain⟨sl,e1⟩:=I.base.slot b o e n hb hx
     exact⟨sl,(hs.2 b (Nat.ne_of_lt (Nat.lt_of_lt_of_le (Heap.lt_size e) I.ok.above))).trans e1⟩
   . obtain⟨o',e1⟩:=I.base.there b o e hx
     exact⟨o',(hs.2 b (Nat.ne_of_lt (Nat.lt_of_lt_of_le (Heap.lt_size e) I.ok.above))).trans e1⟩
   . by_cases hj:j=i
     . subst hj
       rw[hi] at e1;cases e1
       rw[List.getElem?_set_self hiσ] at e2
       cases e2
       exact⟨u,r,.inl ⟨hk,by simp⟩⟩
     . rw[List.getElem?_set_ne (Ne.symm hj)] at e2
       obtain⟨u',r',q⟩:=hl j y v' e1 e2 e3
       refine⟨u',r',?_⟩
       rcases q with⟨k,e⟩|⟨k,c,e,z⟩
       . refine .inl ⟨k,?_⟩
         have:y≠x:=λe=>hj (uY hN e1 (e▸hi))
         simp[this,e]
       . exact .inr ⟨k,c,e,z.sameBut hs (cne y c e)⟩
   . obtain⟨w',z⟩:=I.cell y c e
     exact⟨w',z.sameBut hs (cne y c e)⟩
   . obtain⟨e,n,ne,nf,d⟩:=I.pin p hp
     exact⟨(hs.2 p.1 ne).trans e,n,ne,nf,d⟩
 . have hfn:X.fn x=true:=by
    rcases hf with z|z
    . exact z
    . rw[z] at hk;cases hk
   obtain⟨c,hc⟩:=I.ok.has x (.inl hk)
   obtain⟨w',z⟩:=I.cell x c hc
   refine wpAny_storeName_cell I.ok.kind hk hc z (λh' hc' hs=>?_)
   obtain⟨oc,hoc,hocd⟩:=id z
   refine h { s with heap:=h' } ⟨I.ok,I.os,I.bare,⟨λb o e n hb hx=>?_,λb o e n hb hx=>?_,I.base.free,λb o e hx=>?_,I.base.tups,I.base.frzs,I.base.tbls⟩,⟨m,hn.sameBut hs (Ne.symm (cne x c hc)),λj y v' e1 e2 e3=>?_⟩,λy c' e=>?_,I.free,I.freeC,λp hp=>?_,tracked ⟨oc,hoc,I.freeC x c hc⟩ hs,by simpa using I.len⟩ ⟨c,hs,.inr hc⟩
   . exact(hs.2 b (Nat.ne_of_lt (Nat.lt_of_lt_of_le (Heap.lt_size e) (I.ok.cab x c hfn hc)))).trans (I.base.keep b o e n hb hx)
   . obtain⟨sl,e1⟩:=I.base.slot b o e n hb hx
     exact⟨sl,(hs.2 b (Nat.ne_of_lt (Nat.lt_of_lt_of_le (Heap.lt_size e) (I.ok.cab x c hfn hc)))).trans e1⟩
   . obtain⟨o',e1⟩:=I.base.there b o e hx
     exact⟨o',(hs.2 b (Nat.ne_of_lt (Nat.lt_of_lt_of_le (Heap.lt_size e) (I.ok.cab x c hfn hc)))).trans e1⟩
   . by_cases hj:j=i
     . subst hj
       rw[hi] at e1;cases e1
       rw[List.getElem?_set_self hiσ] at e2
       cases e2
       exact⟨u,r,.inr ⟨.inl hk,c,hc,hc'⟩⟩
     . rw[List.getElem?_set_ne (Ne.symm hj)] at e2
       obtain⟨u',r',q⟩:=hl j y v' e1 e2 e3
       refine⟨u',r',?_⟩
       rcases q with q|⟨k,c',e,z'⟩
       . exact .inl q
       . refine .inr ⟨k,c',e,z'.sameBut hs ?_⟩
         rintro rfl
         exact hj (uY hN e1 (I.ok.inj _ _ _ e hc▸hi))
   . by_cases hcc:c'=c
     . subst hcc;exact⟨_,hc'⟩
     . obtain⟨w2,z2⟩:=I.cell y c' e
       exact⟨w2,z2.sameBut hs hcc⟩
   . obtain⟨e,n,ne,nf,d⟩:=I.pin p hp
     refine⟨(hs.2 p.1 ?_).trans e,n,ne,nf,d⟩
     intro q
     rw[q,hoc] at e
     have q':oc=p.2:=Option.some.inj e
     exact d w' (by rw[<-q'];exact hocd)
theorem uZ{M:Model}{A:Around}{E:Value->Shared->Prop}{i:Nat}{x:Str}{v:V}{u:Value}{Q:Unit->Shared->Prop}(I:Inv X pins σ H s)(hN:X.N.Nodup)(hi:X.N[i]? = some x)(hx:Loc X.env.scope x)(r:bQ v u)
 (h:∀s',Inv X pins (σ.set i (some v)) H s'->Q () s') (hf:X.fn x=true\/X.env.scope.names.lookup x=some .local:=by first|exact .inl rfl|exact .inr rfl|assumption):wpAny M A (storeName X.env x u) Q E s:=
 rF I hN hi hx r (λs' I' _=>h s' I') hf
theorem Inv.call'{s':Shared}{ch:List Addr}(I:Inv X pins σ H s)(ho:s'.os=s.os)(u:Un (frs X.stack) ch H H' s.heap s'.heap)(hok:HOk X.prog X.w H' s'.heap)(hg:AllBare s'.gens)
 (hch:∀b∈ch,(b∈X.ex\/X.s₀.heap.objs.size<=b)/\b≠X.env.locals/\(∀x c,X.env.cells.lookup x=some c->c≠b)/\∀p∈X.pn++pins,p.1≠b):Inv X pins σ H' s':=by
 obtain⟨h',g',d',t',o'⟩:=s'
 have e:o'=s.os:=ho
 subst e
 exact I.call (g':=g') (t':=t') (d':=d') u hok hg hch
end
abbrev XK:=Value->Option Addr->Hp->Prop
abbrev St:=List (Option V)
abbrev VK:=V->Hp->Prop
abbrev TE:=St->Hp->VK->Prop
abbrev TT:=St->Hp->(Bool->Hp->Prop)->Prop
abbrev TA:=St->Hp->(List V->Hp->Prop)->Prop
structure Ends where
 nx:St->Hp->Prop
 rt:VK
 bk:St->Hp->Prop:=λ_ _=>False
 ct:St->Hp->Prop:=λ_ _=>False
abbrev TS:=Ends->St->Hp->Prop
def EP(X:Cx)(pins:List (Addr×Obj))(σ:St)(Q:VK)(u:Value)(s':Shared):Prop:=∃v H',Inv X pins σ H' s'/\bQ v u/\Q v H'
def TP(X:Cx)(pins:List (Addr×Obj))(σ:St)(Q:Bool->Hp->Prop)(b:Bool)(s':Shared):Prop:=∃H',Inv X pins σ H' s'/\Q b H'
def AP(X:Cx)(pins:List (Addr×Obj))(σ:St)(Q:List V->Hp->Prop)(us:List Value)(s':Shared):Prop:=∃vs H',Inv X pins σ H' s'/\bC vs us/\Q vs H'
def SP(X:Cx)(pins:List (Addr×Obj))(D:Ends)(f:Flow)(s':Shared):Prop:=
 match f with
 | .next=>∃σ' H',Inv X pins σ' H' s'/\D.nx σ' H'
 | .brk=>∃σ' H',Inv X pins σ' H' s'/\D.bk σ' H'
 | .cont=>∃σ' H',Inv X pins σ' H' s'/\D.ct σ' H'
 | .ret u=>∃v σ' H',Inv X pins σ' H' s'/\bQ v u/\D.rt v H'
def PE(X:Cx)(e:Expr)(t:TE):Prop:=
 ∀(pins:List (Addr×Obj)) (s:Shared) (σ:St) (H:Hp) (Q:VK),Inv X pins σ H s->t σ H Q->wpAny (model X.prog X.w) X.A (eval e X.env) (EP X pins σ Q) X.xe s
def PT(X:Cx)(e:Expr)(t:TT):Prop:=
 ∀(pins:List (Addr×Obj)) (s:Shared) (σ:St) (H:Hp) (Q:Bool->Hp->Prop),Inv X pins σ H s->t σ H Q->wpAny (model X.prog X.w) X.A (isTrue e X.env (eval e X.env)) (TP X pins σ Q) X.xe s
def PW(X:Cx)(e:Expr)(t:TT):Prop:=
 ∀(whole:Sem Value) (pins:List (Addr×Obj)) (s:Shared) (σ:St) (H:Hp) (Q:Bool->Hp->Prop),Inv X pins σ H s->t σ H Q->wpAny (model X.prog X.w) X.A (isTrue e X.env whole) (TP X pins σ Q) X.xe s
theorem PW.pt{X:Cx}{e:Expr}{t:TT}(h:PW X e t):PT X e t:=h _
def PA(X:Cx)(es:List Expr)(t:TA):Prop:=
 ∀(pos:Pos) (pins:List (Addr×Obj)) (s:Shared) (σ:St) (H:Hp) (Q:List V->Hp->Prop),Inv X pins σ H s->t σ H Q->wpAny (model X.prog X.w) X.A (spliced (backTo pos (starEach es X.env))) (AP X pins σ Q) X.xe s
def PS(X:Cx)(st:Stmt)(t:TS):Prop:=
 ∀(pins:List (Addr×Obj)) (s:Shared) (σ:St) (H:Hp) (D:Ends),Inv X pins σ H s->t D σ H->wpAny (model X.prog X.w) X.A (exec st X.env) (SP X pins D) X.xe s
def PSs(X:Cx)(st:List Stmt)(t:TS):Prop:=
 ∀(pins:List (Addr×Obj)) (s:Shared) (σ:St) (H:Hp) (D:Ends),Inv X pins σ H s->t D σ H->wpAny (model X.prog X.w) X.A (execs st X.env) (SP X pins D) X.xe s
theorem thn{α:Type}{t:Sem α}{Q Q':α->Shared->Prop}{M:Model}{A:Around}{E:Value->Shared->Prop}{s:Shared}(h:wpAny M A t Q E s)(hQ:∀a s,Q a s->Q' a s):wpAny M A t Q' E s:=wpAny_mono h hQ λ_ _ x=>x
end L2
namespace L2
open PySem PySem.Spec PyProof.Rows
section
variable {X:Cx}
def aGx(i:Nat):TE:=λσ H Q=>∃v,σ[i]? = some (some v)/\Q v H
def tC(v:V):TE:=λ_ H Q=>Q v H
theorem xT{i:Nat}{x:Str}{pos:Pos}(hN:X.N[i]? = some x)(hv:Vis X.env.scope x)(hd:(x==("__debug__" : Str))=false:=by decide)(hcd:(x==("__classdict__" : Str))=false:=by decide):PE X (.Name x pos) (aGx i):=by
 intro pins s σ H Q I h
 obtain⟨v,e,h⟩:=h
 obtain⟨m,hn,hl⟩:=I.loc
 obtain⟨u,r,l⟩:=hl i x v hN e hv
 have fin:EP X pins σ Q u s:=⟨v,H,I,r,h⟩
 rcases l with⟨hk,hm⟩|⟨hk,c,hc,hcell⟩
 . exact wpAny_Name (wpAny_loadName_local I.ok.kind hk hn hm fin) hd
 . rcases hk with hk|hk
   . exact wpAny_Name (wpAny_loadName_cell I.ok.kind hk hc hcell fin) hd
   . exact wpAny_Name (wpAny_loadName_free I.ok.kind hk hc hcell fin hcd) hd
theorem aGy{i j pos}:PE X (.Constant (.int i) j pos) (tC (.int i)):=λ_ _ _ H _ I h=>wpAny_Constant_int ⟨.int i,H,I.tok _,⟨_,rfl⟩,h⟩
theorem aIQ{b j pos}:PE X (.Constant (.bool b) j pos) (tC (.bl b)):=λ_ _ _ H _ I h=>Constant_bool ⟨.bl b,H,I,rfl,h⟩
theorem aGz{j pos}:PE X (.Constant .none j pos) (tC .non):=λ_ _ _ H _ I h=>Constant_none ⟨.non,H,I,rfl,h⟩
theorem aGA{x j pos}:PE X (.Constant (.str x) j pos) (tC (.str x)):=λ_ _ _ H _ I h=>Calls.Constant_str ⟨.str x,H,I.tok _,⟨_,rfl⟩,h⟩
def Gl(X:Cx)(x:Str):Prop:=X.env.kindOf x=some .globalImplicit
theorem sV{E:Value->Shared->Prop}{pins:List (Addr×Obj)}{s:Shared}{σ:St}{H:Hp}{x:Str}{u:Value}{pos:Pos}{Q:Value->Shared->Prop}(I:Inv X pins σ H s)(hg:Gl X x)(hm:X.mg x=some u)(h:Q u s)
 (hd:(x==("__debug__" : Str))=false:=by decide):wpAny (model X.prog X.w) X.A (eval (.Name x pos) X.env) Q E s:=
 Calls.Name_function_global I.ok.kind hg (Calls.loadGlobal_global (by rw[I.ok.glob];exact I.mod.glob.keeps I.bk) hm h) hd
theorem fF{E:Value->Shared->Prop}{pins:List (Addr×Obj)}{s:Shared}{σ:St}{H:Hp}{x:Str}{u:Value}{pos:Pos}{Q:Value->Shared->Prop}(I:Inv X pins σ H s)(hg:Gl X x)(hm:X.mg x=none)(hv:bootBuiltins x=some u)(h:Q u s)
 (hn:x ≠ "__name__" := by decide) (hd:(x==("__debug__" : Str))=false:=by decide):wpAny (model X.prog X.w) X.A (eval (.Name x pos) X.env) Q E s:=by
 obtain⟨mb,h1,h2⟩:=I.mod.blt
 exact Calls.Name_function_global I.ok.kind hg (Calls.loadGlobal_builtin (by rw[I.ok.glob];exact I.mod.glob.keeps I.bk) hm (by rw[I.ok.blt];exact h1.keeps I.bk) ((h2 x hn).trans hv) h) hd
theorem zX{x:Str}{v:V}{u:Value}{pos:Pos}(hg:Gl X x)(hm:X.mg x=some u)(r:bQ v u)(hd:(x==("__debug__" : Str))=false:=by decide):PE X (.Name x pos) (tC v):=
 λ_ _ _ H _ I h=>sV I hg hm ⟨v,H,I,r,h⟩ hd
variable {a b:Expr} {ta tb:TE} {pos:Pos}
variable {tA tB':TT} {rest:List Expr}
def aLK(t u:TT):TT:=λσ H Q=>t σ H λc H1=>if c=true then u σ H1 Q else Q false H1
def tOr(t u:TT):TT:=λσ H Q=>t σ H λc H1=>if c=true then Q true H1 else u σ H1 Q
def aLL(t:TT):TT:=λσ H Q=>t σ H λc H1=>Q (!c) H1
theorem aEu(ha:PT X a tA):PW X (.BoolOp .And [a] pos) tA:=by
 intro wh pins s σ H Q I h
 refine isTrue_and (thn (ha pins s σ H Q I h) λc s1 e=>?_)
 cases c with
 | true=>exact isTrue_and_nil e
 | false=>exact e
theorem aGB(ha:PT X a tA):PW X (.BoolOp .Or [a] pos) tA:=by
 intro wh pins s σ H Q I h
 refine isTrue_or (thn (ha pins s σ H Q I h) λc s1 e=>?_)
 cases c with
 | false=>exact isTrue_or_nil e
 | true=>exact e
theorem aGC(ha:PT X a tA)(hb:PW X (.BoolOp .And (b::rest) pos) tB'):PW X (.BoolOp .And (a::b::rest) pos) (aLK tA tB'):=by
 intro wh pins s σ H Q I h
 refine isTrue_and (thn (ha pins s σ H _ I h) λc s1 ⟨H1,I1,q1⟩=>?_)
 cases c with
 | true=>exact hb wh pins s1 σ H1 Q I1 q1
 | false=>exact⟨H1,I1,q1⟩
theorem aIR(ha:PT X a tA)(hb:PW X (.BoolOp .Or (b::rest) pos) tB'):PW X (.BoolOp .Or (a::b::rest) pos) (tOr tA tB'):=by
 intro wh pins s σ H Q I h
 refine isTrue_or (thn (ha pins s σ H _ I h) λc s1 ⟨H1,I1,q1⟩=>?_)
 cases c with
 | true=>exact⟨H1,I1,q1⟩
 | false=>exact hb wh pins s1 σ H1 Q I1 q1
theorem aGD(ha:PT X a tA):PT X (.UnaryOp .Not a pos) (aLL tA):=by
 intro pins s σ H Q I h
 exact isTrue_not (ha pins s σ H (λc H1=>Q (!c) H1) I h)
def aIS(ta tb:TE):TE:=λσ H Q=>ta σ H λx H1=>∃c,x=.bl c/\if c=true then tb σ H1 Q else Q (.bl false) H1
def aLM(ta tb:TE):TE:=λσ H Q=>ta σ H λx H1=>∃c,x=.bl c/\if c=true then Q (.bl true) H1 else tb σ H1 Q
theorem aCb{op}{t:TE}(h:PE X a t):PE X (.BoolOp op [a] pos) t:=λpins s σ H Q I hw=>BoolOp_one (h pins s σ H Q I hw)
theorem aGE(ha:PE X a ta)(hb:PE X (.BoolOp .And (b::rest) pos) tb):PE X (.BoolOp .And (a::b::rest) pos) (aIS ta tb):=by
 intro pins s σ H Q I h
 refine BoolOp_and (thn (ha pins s σ H _ I h) λv s1 ⟨x,H1,I1,r1,q1⟩=>?_)
 obtain⟨c,rfl,q1⟩:=q1
 cases r1
 refine wpAny_truthy_bool ?_
 cases c with
 | true=>exact hb pins s1 σ H1 Q I1 q1
 | false=>exact⟨.bl false,H1,I1,rfl,q1⟩
theorem aIT(ha:PE X a ta)(hb:PE X (.BoolOp .Or (b::rest) pos) tb):PE X (.BoolOp .Or (a::b::rest) pos) (aLM ta tb):=by
 intro pins s σ H Q I h
 refine BoolOp_or (thn (ha pins s σ H _ I h) λv s1 ⟨x,H1,I1,r1,q1⟩=>?_)
 obtain⟨c,rfl,q1⟩:=q1
 cases r1
 refine wpAny_truthy_bool ?_
 cases c with
 | false=>exact hb pins s1 σ H1 Q I1 q1
 | true=>exact⟨.bl true,H1,I1,rfl,q1⟩
def tIf(t:TT)(ta tb:TE):TE:=λσ H Q=>t σ H λc H1=>if c=true then ta σ H1 Q else tb σ H1 Q
theorem aCc{c:Expr}(hc:PT X c tA)(ha:PE X a ta)(hb:PE X b tb):PE X (.IfExp c a b pos) (tIf tA ta tb):=by
 intro pins s σ H Q I h
 refine wpAny_IfExp (thn (hc pins s σ H _ I h) λd s1 ⟨H1,I1,q1⟩=>?_)
 cases d with
 | true=>exact ha pins s1 σ H1 Q I1 q1
 | false=>exact hb pins s1 σ H1 Q I1 q1
end
end L2
namespace L2
open PySem PySem.Spec PyProof.Rows
def SqL(K:PySem.W.Frag)(H:Hp)(a:Addr)(xs:List V):Prop:=
 Rd H a (.lst xs) \/
  ∃(o:Obj) (its:Array Value) (n:Nat),K.lookup a=some o/\o.cls=.type "list" /\ o.dict=none/\o.data=.seq its n/\its.size<=sizeLine/\bC xs its.toList
def SqT(K:PySem.W.Frag)(H:Hp)(a:Addr)(xs:List V):Prop:=
 Rd H a (.tup xs) \/
  ∃(o:Obj) (its:Array Value) (n:Nat),K.lookup a=some o/\o.cls=.type "tuple" /\ o.data=.seq its n/\its.size<=sizeLine/\bC xs its.toList
def aLN:Value->Option V
 | .none=>some .non
 | .bool b=>some (.bl b)
 | .int i _=>some (.int i)
 | .str x _=>some (.str x)
 | .bytes b _=>some (.byt b)
 | .float b _=>some (.flt b)
 | .ref a=>some (.ref a)
 | .type n=>some (.ty n)
 | _=>none
theorem bQ.abs{x:V}{u:Value}(r:bQ x u):aLN u=some x:=by
 cases x with
 | non=>cases r;rfl
 | bl _=>cases r;rfl
 | int _=>obtain⟨t,rfl⟩:=r;rfl
 | str _=>obtain⟨t,rfl⟩:=r;rfl
 | byt _=>obtain⟨t,rfl⟩:=r;rfl
 | flt _=>obtain⟨t,rfl⟩:=r;rfl
 | ref _=>cases r;rfl
 | ty _=>cases r;rfl
theorem bQ.inj{x y:V}{u:Value}(r:bQ x u)(q:bQ y u):x=y:=Option.some.inj (r.abs.symm.trans q.abs)
theorem bC.inj:∀{xs ys:List V} {us:List Value},bC xs us->bC ys us->xs=ys
 | _,_,_,.nil,.nil=>rfl
 | _,_,_,.cons r t,.cons r' t'=>by rw[r.inj r',bC.inj t t']
section
variable {X:Cx} {pins:List (Addr×Obj)} {σ:St} {H:Hp} {s:Shared} {a:Addr} {xs ys:List V}
theorem SqL.of{K:PySem.W.Frag}(h:H a=some (.lst xs)):SqL K H a xs:=.inl (.inl h)
theorem SqT.of{K:PySem.W.Frag}(h:H a=some (.tup xs)):SqT K H a xs:=.inl (.inl h)
theorem Inv.list(I:Inv X pins σ H s)(h:SqL X.K H a xs):∃its:List Value,bC xs its/\PlainL s.heap a its.toArray/\xs.length<=sizeLine:=by
 rcases h with h|⟨o,its,n,hk,hc,hd,hs,hz,r⟩
 . obtain⟨z,its,n,r,e⟩:=h.ok I.hok
   exact⟨its,r,⟨_,n,e,rfl,rfl,rfl⟩,z⟩
 . refine⟨its.toList,r,⟨o,n,I.kIn a o hk,hc,hd,by simpa using hs⟩,?_⟩
   have e:=r.length
   simp only[Array.length_toList] at e
   omega
theorem Inv.tuple(I:Inv X pins σ H s)(h:SqT X.K H a xs):∃its:List Value,bC xs its/\IsTup s.heap a its.toArray/\xs.length<=sizeLine:=by
 rcases h with h|⟨o,its,n,hk,hc,hs,hz,r⟩
 . obtain⟨z,its,r,p⟩:=h.ok I.hok
   exact⟨its,r,p,z⟩
 . refine⟨its.toList,r,⟨o,I.kIn a o hk,hc,n,by simpa using hs⟩,?_⟩
   have e:=r.length
   simp only[Array.length_toList] at e
   omega
theorem Inv.list_inj(I:Inv X pins σ H s)(h:SqL X.K H a xs)(h':SqL X.K H a ys):xs=ys:=by
 obtain⟨its,r,⟨o,n,e,_,_,d⟩,_⟩:=I.list h
 obtain⟨its',r',⟨o',n',e',_,_,d'⟩,_⟩:=I.list h'
 rw[e] at e';cases e'
 rw[d] at d'
 injection d' with d1 _
 have:its=its':=by simpa using congrArg Array.toList d1
 subst this
 exact r.inj r'
theorem Inv.tuple_inj(I:Inv X pins σ H s)(h:SqT X.K H a xs)(h':SqT X.K H a ys):xs=ys:=by
 obtain⟨its,r,⟨o,e,_,n,d⟩,_⟩:=I.tuple h
 obtain⟨its',r',⟨o',e',_,n',d'⟩,_⟩:=I.tuple h'
 rw[e] at e';cases e'
 rw[d] at d'
 injection d' with d1 _
 have:its=its':=by simpa using congrArg Array.toList d1
 subst this
 exact r.inj r'
end
abbrev Cx.wish(X:Cx)(E:Value->Shared->Prop):Cx:={ X with xe:=E }
abbrev Cx.nox(X:Cx):Cx:=X.wish λ_ _=>False
theorem Cx.Ok.wish{X:Cx}(ok:X.Ok)(E:Value->Shared->Prop):(X.wish E).Ok:=
 ⟨ok.mod,ok.kind,ok.glob,ok.blt,ok.above,ok.inj,ok.has,ok.cab,ok.hd,ok.frames,ok.stk,ok.exf,ok.bs,ok.bsz,ok.noex,ok.exfs,ok.funs,ok.frf⟩
theorem Cx.Ok.unwish{X:Cx}{E:Value->Shared->Prop}(ok:(X.wish E).Ok):X.Ok:=
 ⟨ok.mod,ok.kind,ok.glob,ok.blt,ok.above,ok.inj,ok.has,ok.cab,ok.hd,ok.frames,ok.stk,ok.exf,ok.bs,ok.bsz,ok.noex,ok.exfs,ok.funs,ok.frf⟩
section
variable {X:Cx} {pins:List (Addr×Obj)} {σ:St} {H:Hp} {s:Shared} {E:Value->Shared->Prop}
theorem Inv.wish(I:Inv X pins σ H s)(E:Value->Shared->Prop):Inv (X.wish E) pins σ H s:=⟨I.ok.wish E,I.os,I.bare,I.base,I.loc,I.cell,I.free,I.freeC,I.pin,I.hok,I.len⟩
theorem Inv.unwish(I:Inv (X.wish E) pins σ H s):Inv X pins σ H s:=⟨I.ok.unwish,I.os,I.bare,I.base,I.loc,I.cell,I.free,I.freeC,I.pin,I.hok,I.len⟩
theorem SP.unwish{D:Ends}{f:Flow}{s':Shared}(h:SP (X.wish E) pins D f s'):SP X pins D f s':=by
 cases f with
 | next=>obtain⟨σ',H',I,q⟩:=h;exact⟨σ',H',I.unwish,q⟩
 | brk=>obtain⟨σ',H',I,q⟩:=h;exact⟨σ',H',I.unwish,q⟩
 | cont=>obtain⟨σ',H',I,q⟩:=h;exact⟨σ',H',I.unwish,q⟩
 | ret u=>obtain⟨v,σ',H',I,r,q⟩:=h;exact⟨v,σ',H',I.unwish,r,q⟩
theorem PSs.nox{st:List Stmt}{t:TS}(h:PSs X.nox st t):PSs X st t:=λpins s σ H D I hw=>
 wpAny_mono (h pins s σ H D (I.wish _) hw) (λ_ _ q=>q.unwish) λ_ _ z=>False.elim z
end
section
variable {X:Cx} {st:Stmt} {rest:List Stmt} {t u:TS} {e:Expr} {te:TE} {pos:Pos}
def aFP:TS:=λD σ H=>D.nx σ H
def aLO(t u:TS):TS:=λD σ H=>t { D with nx:=u D } σ H
theorem aEv:PSs X [] aFP:=λ_ _ σ H _ I h=>wpAny_execs_nil ⟨σ,H,I,h⟩
theorem aCd(h1:PS X st t)(h2:PSs X rest u):PSs X (st::rest) (aLO t u):=by
 intro pins s σ H D I h
 refine wpAny_execs_cons (thn (h1 pins s σ H { D with nx:=u D } I h) λf s1 q=>?_)
 cases f with
 | next=>
  obtain⟨σ',H',I',q⟩:=q
  exact h2 pins s1 σ' H' D I' q
 | ret v=>exact q
 | brk=>exact q
 | cont=>exact q
def aGF:TS:=λD σ H=>D.bk σ H
def aIU:TS:=λD σ H=>D.ct σ H
theorem aEw:PS X (.Pass pos) aFP:=λ_ _ σ H _ I h=>wpAny_Pass ⟨σ,H,I,h⟩
theorem aCe:PS X (.Break pos) aGF:=λ_ _ σ H _ I h=>wpAny_Break ⟨σ,H,I,h⟩
theorem vA:PS X (.Continue pos) aIU:=λ_ _ σ H _ I h=>wpAny_Continue ⟨σ,H,I,h⟩
theorem Inv.quiet{pins:List (Addr×Obj)}{σ:St}{H:Hp}{s:Shared}(I:Inv X pins σ H s):interactive X.env=false:=by simp[interactive,I.ok.kind]
def aIV(te:TE):TS:=λD σ H=>te σ H λ_ H1=>D.nx σ H1
theorem sW(he:PE X e te)(hs:swapsWith e none pos.line X.env=pure false:=by rfl):PS X (.Expr e pos) (aIV te):=by
 intro pins s σ H D I h
 exact wpAny_Expr_any (thn (he pins s σ H _ I h) λv s1 ⟨x,H1,I1,r1,q1⟩=>⟨σ,H1,I1,q1⟩) I.quiet hs
def aLP(te:TE):TS:=λD σ H=>te σ H D.rt
theorem aCf(he:PE X e te):PS X (.Return (some e) pos) (aLP te):=by
 intro pins s σ H D I h
 exact wpAny_Return_some (thn (he pins s σ H _ I h) λv s1 ⟨x,H1,I1,r1,q1⟩=>⟨x,σ,H1,I1,r1,q1⟩)
def aIW:TS:=λD _ H=>D.rt .non H
theorem aEx:PS X (.Return none pos) aIW:=λ_ _ σ H _ I h=>wpAny_Return_none ⟨.non,σ,H,I,rfl,h⟩
def aLQ(c:TT)(t u:TS):TS:=λD σ H=>c σ H λb H1=>if b=true then t D σ H1 else u D σ H1
theorem aIX{c:Expr}{a b:List Stmt}{tc:TT}(hc:PT X c tc)(ha:PSs X a t)(hb:PSs X b u):PS X (.If c a b pos) (aLQ tc t u):=by
 intro pins s σ H D I h
 refine wpAny_If (thn (hc pins s σ H _ I h) λd s1 ⟨H1,I1,q1⟩=>?_)
 cases d with
 | true=>exact ha pins s1 σ H1 D I1 q1
 | false=>exact hb pins s1 σ H1 D I1 q1
def aGG:TS:=λ_ _ _=>False
theorem aCg:PS X st aGG:=λ_ _ _ _ _ _ h=>h.elim
end
abbrev TG:=V->St->Hp->(St->Hp->Prop)->Prop
abbrev TGs:=List V->St->Hp->(St->Hp->Prop)->Prop
def PG(X:Cx)(target:Expr)(t:TG):Prop:=
 ∀(pins:List (Addr×Obj)) (s:Shared) (σ:St) (H:Hp) (v:V) (u:Value) (Q:St->Hp->Prop),Inv X pins σ H s->bQ v u->t v σ H Q ->
  wpAny (model X.prog X.w) X.A (assign target X.env u) (λ_ s'=>∃σ' H',Inv X pins σ' H' s'/\Q σ' H') X.xe s
def PGs(X:Cx)(ts:List Expr)(t:TGs):Prop:=
 ∀(pins:List (Addr×Obj)) (s:Shared) (σ:St) (H:Hp) (vs:List V) (us:List Value) (Q:St->Hp->Prop),Inv X pins σ H s->bC vs us->t vs σ H Q ->
  wpAny (model X.prog X.w) X.A (assignInOrder ((assignEach ts X.env).map (·.2)) us) (λ_ s'=>∃σ' H',Inv X pins σ' H' s'/\Q σ' H') X.xe s
abbrev aGH:=V->V->V->Hp->(Hp->Prop)->Prop
def aIY(X:Cx)(t:aGH):Prop:=
 ∀(pins:List (Addr×Obj)) (s:Shared) (σ:St) (H:Hp) (o i v:V) (ov iv u:Value) (Q:Hp->Prop),Inv X pins σ H s->bQ o ov->bQ i iv->bQ v u->t o i v H Q ->
  wpAny (model X.prog X.w) X.A (setItem ov iv u) (λ_ s'=>∃H',Inv X pins σ H' s'/\Q H') X.xe s
section
variable {X:Cx} {pos:Pos}
def rG(i:Nat):TG:=λv σ H Q=>Q (σ.set i (some v)) H
theorem zY{i:Nat}{x:Str}(hN:X.N.Nodup)(hi:X.N[i]? = some x)(hx:Loc X.env.scope x)(hf:X.fn x=true\/X.env.scope.names.lookup x=some .local:=by first|exact .inl rfl|exact .inr rfl|assumption):PG X (.Name x pos) (rG i):=by
 intro pins s σ H v u Q I r h
 exact wpAny_assign_Name (uZ I hN hi hx r (λs' I'=>⟨_,H,I',h⟩) hf)
def aIZ:TGs:=λvs σ H Q=>vs=[]/\Q σ H
def aFQ(t:TG)(u:TGs):TGs:=λvs σ H Q=>∃v r,vs=v::r/\t v σ H λσ' H'=>u r σ' H' Q
theorem aEy:PGs X [] aIZ:=by
 intro pins s σ H vs us Q I r h
 obtain⟨e,h⟩:=h
 subst e
 cases r
 exact assignInOrder_nil ⟨σ,H,I,h⟩
theorem aCh{e:Expr}{es:List Expr}{t:TG}{u:TGs}(h1:PG X e t)(h2:PGs X es u)
 (hs:(assignEach (e::es) X.env).map (·.2)=assign e X.env::(assignEach es X.env).map (·.2):=by rfl):PGs X (e::es) (aFQ t u):=by
 intro pins s σ H vs us Q I r h
 obtain⟨v,vr,e1,h⟩:=h
 subst e1
 cases r with
 | cons r rr=>
  rw[hs]
  refine assignInOrder_cons (thn (h1 pins s σ H _ _ _ I r h) λ_ s1 ⟨σ1,H1,I1,q1⟩=>?_)
  exact h2 pins s1 σ1 H1 _ _ Q I1 rr q1
def aJa(K:PySem.W.Frag)(n:Nat)(t:TGs):TG:=λv σ H Q=>∃a xs,v=.ref a/\SqT K H a xs/\xs.length=n/\t xs σ H Q
theorem aGI{es:List Expr}{k:Nat}{t:TGs}{n:Nat}(hc:X.calm=true)(h:PGs X es t)
 (hn:(assignEach es X.env).length=n:=by rfl) (hst:(assignEach es X.env).findIdx? (·.1)=none:=by rfl):PG X (.Tuple es k pos) (aJa X.K n t):=by
 intro pins s σ H v u Q I r hw
 obtain⟨a,xs,e1,hq,hl,hw⟩:=hw
 subst e1
 cases r
 obtain⟨its,rv,ht,hz⟩:=I.tuple hq
 refine assign_Tuple_tuple (I.ok.hd hc) ht (by simp[hn,<-hl,rv.length]) hst λh' hx=>?_
 have I1:Inv X pins σ H { s with heap:=h' }:=I.kept (t':=s.toks) λb o e=>hx b o (Nat.ne_of_lt (Heap.lt_size e)) e
 exact h pins _ σ H xs _ Q I1 (by simpa using rv) hw
def aLR(to ti:TE)(t:aGH):TG:=λv σ H Q=>to σ H λo H1=>ti σ H1 λi H2=>t o i v H2 λH3=>Q σ H3
theorem aGJ{o i:Expr}{to ti:TE}{t:aGH}(ho:PE X o to)(hi:PE X i ti)(hs:aIY X t)
 (ha:∀v,assign (.Subscript o i pos) X.env v=(do
  let ov<-holding [v] (eval o X.env)
  let iv<-holding [v,ov] (eval i X.env)
  standAt pos
  holding [v,ov,iv] (setItem ov iv v)
  release [v,ov,iv] []):=by intro _;rfl):PG X (.Subscript o i pos) (aLR to ti t):=by
 intro pins s σ H v u Q I r h
 rw[ha]
 refine wpAny_bind (wpAny_holding (thn (ho pins s σ H _ I h) λov s1 ⟨x,H1,I1,r1,q1⟩=>?_))
 refine wpAny_bind (wpAny_holding (thn (hi pins s1 σ H1 _ I1 q1) λiv s2 ⟨y,H2,I2,r2,q2⟩=>?_))
 refine wpAny_bind (wpAny_standAt (wpAny_bind (wpAny_holding (thn (hs pins s2 σ H2 x y v ov iv u _ I2 r1 r2 r q2) λ_ s3 ⟨H3,I3,q3⟩=>?_))))
 exact wpAny_release ⟨σ,H3,I3,q3⟩
def aGK(te:TE)(g:TG):TS:=λD σ H=>te σ H λx H1=>g x σ H1 D.nx
theorem aCi{tg e:Expr}{te:TE}{g:TG}(he:PE X e te)(hg:PG X tg g)(hs:swapsWithSole [tg] e pos.line X.env=pure false:=by rfl)(hw:swappedStores [tg] e X.env=pure none:=by rfl)
 (h1:(assignEach [tg] X.env).map (·.2)=[assign tg X.env]:=by rfl):PS X (.Assign [tg] e pos) (aGK te g):=by
 intro pins s σ H D I h
 refine wpAny_Assign_stores (thn (he pins s σ H _ I h) λv s1 ⟨x,H1,I1,r1,q1⟩=>?_) hs hw
 rw[h1]
 exact thn (hg pins s1 σ H1 x v _ I1 r1 q1) λ_ s2 q=>q
theorem xU{i:Nat}{x:Str}{e:Expr}{te:TE}{pos':Pos}(hN:X.N.Nodup)(hi:X.N[i]? = some x)(hx:Loc X.env.scope x)(he:PE X e te)(hs:swapsWith e (some (.Name x pos')) pos.line X.env=pure false:=by rfl)(hf:X.fn x=true\/X.env.scope.names.lookup x=some .local:=by first|exact .inl rfl|exact .inr rfl|assumption) :
 PS X (.Assign [.Name x pos'] e pos) (aGK te (rG i)):=by
 intro pins s σ H D I h
 refine wpAny_Assign_Name (thn (he pins s σ H _ I h) λv s1 ⟨y,H1,I1,r1,q1⟩=>?_) hs
 exact uZ I1 hN hi hx r1 (λs2 I2=>⟨_,H1,I2,q1⟩) hf
end
section
variable {X:Cx} {pos:Pos}
end
structure It where
 go:Nat->Hp->Prop
 yld:Nat->Hp->V->Hp->Prop
 stop:Nat->Hp->Prop
def kZ(X:Cx)(pins:List (Addr×Obj))(H:Hp)(b:Addr):Prop:=
 H b=none/\b≠X.env.locals/\b∉X.fs/\(b∈X.ex\/X.s₀.heap.objs.size<=b)/\(∀x c,X.env.cells.lookup x=some c->c≠b)/\∀p∈X.pn++pins,p.1≠b
theorem Inv.fpOk{X:Cx}{pins:List (Addr×Obj)}{σ:St}{H H':Hp}{s:Shared}{b:Addr}(I:Inv X pins σ H s)(hb:s.heap.objs.size<=b)(hn:H' b=none):kZ X pins H' b:=by
 refine⟨hn,Nat.ne_of_gt (Nat.lt_of_lt_of_le I.lt hb),I.nofs hb,.inr (Nat.le_trans I.sz hb),λx c e z=>?_,λp hp z=>?_⟩
 . obtain⟨v,q⟩:=I.cell x c e
   exact absurd (Nat.lt_of_lt_of_le q.lt (by rw[z];exact hb)) (Nat.lt_irrefl _)
 . exact absurd (Nat.lt_of_lt_of_le (Heap.lt_size (I.pin p hp).1) (by rw[z];exact hb)) (Nat.lt_irrefl _)
structure vB (P:Program) (w:World) (K:PySem.W.Frag) (tg:Expr) (J:It) (fp:List Addr) (it:Addr) (tn:Nat->Heap->Prop):Prop where
 mem:it∈fp
 obj:∀i h,tn i h->∀b∈fp,∃o,h.get? b=some o/\∀v,o.data≠.cell v
 keep:∀i h h',tn i h->(∀b∈fp,∀o,h.get? b=some o->h'.get? b=some o)->tn i h'
 item:∀(X:Cx),X.prog=P->X.w=w->X.K=K->X.calm=true->∀(i:Nat) (pins:List (Addr×Obj)) (s:Shared) (σ:St) (H:Hp) (E:Value->Shared->Prop),Inv X pins σ H s->(∀b∈fp,kZ X pins H b)->tn i s.heap->J.go i H ->
  wpAny (model P w) X.A (pyNext (.ref it)) (λr s1=>∃u,r=some u /\
   wpAny (model P w) X.A (letOwnedTupleGo tg (.ref it) u) (λ_ s2=>∃x H',Inv X pins σ H' s2/\bQ x u/\J.yld i H x H'/\tn (i+1) s2.heap/\∀b∈fp,H' b=none) E s1) E s
 done:∀(X:Cx),X.prog=P->X.w=w->X.K=K->X.calm=true->∀(i:Nat) (pins:List (Addr×Obj)) (s:Shared) (σ:St) (H:Hp) (E:Value->Shared->Prop),Inv X pins σ H s->(∀b∈fp,kZ X pins H b)->tn i s.heap->J.stop i H ->
  wpAny (model P w) X.A (pyNext (.ref it)) (λr s1=>r=none/\Inv X pins σ H s1) E s
 self:∀(A:Around) (i:Nat) (s:Shared) (Q:Value->Shared->Prop) (E:Value->Shared->Prop),tn i s.heap->Q (.ref it) s->wpAny (model P w) A (pyIter (.ref it)) Q E s
abbrev TI:=St->Hp->(It->Hp->Prop)->Prop
def PIE(X:Cx)(pins:List (Addr×Obj))(σ:St)(tg:Expr)(R:It->Hp->Prop)(itv:Value)(s2:Shared):Prop:=
 ∃(it:Addr) (fp:List Addr) (tn:Nat->Heap->Prop) (J:It) (H':Hp),itv=.ref it/\Inv X pins σ H' s2/\vB X.prog X.w X.K tg J fp it tn/\tn 0 s2.heap/\(∀b∈fp,kZ X pins H' b)/\R J H'
def PI(X:Cx)(tg iter:Expr)(wi:TI):Prop:=
 ∀(pins:List (Addr×Obj)) (s:Shared) (σ:St) (H:Hp) (R:It->Hp->Prop),Inv X pins σ H s->wi σ H R ->
  wpAny (model X.prog X.w) X.A (eval iter X.env) (λv s1=>wpAny (model X.prog X.w) X.A (pyIter v) (PIE X pins σ tg R) X.xe s1) X.xe s
theorem oR{M:Model}{A:Around}{E:Value->Shared->Prop}{s:Shared}{tg:Expr}{it:Addr}{u:Value}{o:Obj}{n:String}{vs:Array Value}{Q:Unit->Shared->Prop}(ho:s.heap.get? it=some o)(hc:o.cls=.type n)(hd:o.data=.fields vs)
 (hn:["enumerate", "zip", "dict_itemiterator", "dict_reverseitemiterator", "odict_iterator", "itertools.zip_longest", "itertools.pairwise"].contains n=false) (hQ:Q () s):wpAny M A (letOwnedTupleGo tg (.ref it) u) Q E s:=by
 unfold letOwnedTupleGo
 cases tg <;> first
  | exact wpAny_pure hQ
  | (cases u <;> first
   | exact wpAny_pure hQ
   | (refine wpAny_bind (wpAny_load ho ?_)
      rw[hc,hd]
      show wpAny M A (if (["enumerate", "zip", "dict_itemiterator", "dict_reverseitemiterator", "odict_iterator", "itertools.zip_longest", "itertools.pairwise"].contains n&&vs[0]?==some (rawInt _))=true then _ else _) Q E s
      rw[if_neg (by intro h;rw[hn,Bool.false_and] at h;cases h)]
      exact wpAny_pure hQ))
def Itl(K:PySem.W.Frag)(a:Addr):It:=
 ⟨λi H=>∃xs x,SqL K H a xs/\xs[i]? = some x,λi H x H'=>H'=H/\∀xs,SqL K H a xs->xs[i]? = some x,λi H=>∃xs,SqL K H a xs/\xs.length<=i⟩
def Itt(K:PySem.W.Frag)(a:Addr):It:=
 ⟨λi H=>∃xs x,SqT K H a xs/\xs[i]? = some x,λi H x H'=>H'=H/\∀xs,SqT K H a xs->xs[i]? = some x,λi H=>∃xs,SqT K H a xs/\xs.length<=i⟩
def Itr(lo:Int)(n:Nat):It:=⟨λi _=>i<n,λi H x H'=>H'=H/\x=.int (lo+i),λi _=>n<=i⟩
theorem aAR{P:Program}{w:World}{K:PySem.W.Frag}{tg:Expr}(a it:Addr):vB P w K tg (Itl K a) [it] it (λi h=>h.IsListIter it a i) where
 mem:=by simp
 obj:=λi h st b hb=>by
  have e:b=it:=by simpa using hb
  subst e
  obtain⟨o,e,c,d⟩:=st
  exact⟨o,e,λv z=>by rw[d] at z;cases z⟩
 keep:=λi h h' st k=>st.at λo e=>k it (by simp) o e
 item:=by
  intro X hP hw hK hc i pins s σ H E I hf st hg
  subst hP hw hK
  obtain⟨xs,x,hq,hx⟩:=hg
  obtain⟨its,rv,p,hz⟩:=I.list hq
  obtain⟨u,hu,ru⟩:=rv.get hx
  obtain⟨f0,f1,f2,f3,f4,f5⟩:=hf it (by simp)
  refine wpAny_pyNext_list_item st p.isList (x:=u) (by simpa using hu) λh' st' sb=>?_
  have I1:Inv X pins σ H { s with heap:=h' }:=I.turned (t':=s.toks) (λb o hb e=>(sb.2 b hb).trans e) f0 f1 f3 f4 f5
  obtain⟨o,e,c,d⟩:=id st'
  exact⟨u,rfl,oR (s:={ s with heap:=h' }) e c d (by decide) ⟨x,H,I1,ru,⟨rfl,λys hy=>by rw[I.list_inj hy hq];exact hx⟩,st',λb hb=>(hf b hb).1⟩⟩
 done:=by
  intro X hP hw hK hc i pins s σ H E I hf st hg
  subst hP hw hK
  obtain⟨xs,hq,hx⟩:=hg
  obtain⟨its,rv,p,hz⟩:=I.list hq
  obtain⟨f0,f1,f2,f3,f4,f5⟩:=hf it (by simp)
  have hl:=rv.length
  exact wpAny_pyNext_list_end (I.ok.hd hc) st p.isList (by simp;omega) λh' eb=>⟨rfl,I.turned (t':=s.toks) (λb o hb e=>eb b o hb e) f0 f1 f3 f4 f5⟩
 self:=λ_ _ _ _ _ st h=>wpAny_pyIter_listiter st h
theorem xV{P:Program}{w:World}{K:PySem.W.Frag}{tg:Expr}(a it:Addr):vB P w K tg (Itt K a) [it] it (λi h=>h.IsTupleIter it a i) where
 mem:=by simp
 obj:=λi h st b hb=>by
  have e:b=it:=by simpa using hb
  subst e
  obtain⟨o,e,c,d⟩:=st
  exact⟨o,e,λv z=>by rw[d] at z;cases z⟩
 keep:=λi h h' st k=>st.at λo e=>k it (by simp) o e
 item:=by
  intro X hP hw hK hc i pins s σ H E I hf st hg
  subst hP hw hK
  obtain⟨xs,x,hq,hx⟩:=hg
  obtain⟨its,rv,p,hz⟩:=I.tuple hq
  obtain⟨u,hu,ru⟩:=rv.get hx
  obtain⟨f0,f1,f2,f3,f4,f5⟩:=hf it (by simp)
  refine wpAny_pyNext_tuple_item st (show s.heap.IsTuple a its.toArray from p) (x:=u) (by simpa using hu) λh' st' sb=>?_
  have I1:Inv X pins σ H { s with heap:=h' }:=I.turned (t':=s.toks) (λb o hb e=>(sb.2 b hb).trans e) f0 f1 f3 f4 f5
  obtain⟨o,e,c,d⟩:=id st'
  exact⟨u,rfl,oR (s:={ s with heap:=h' }) e c d (by decide) ⟨x,H,I1,ru,⟨rfl,λys hy=>by rw[I.tuple_inj hy hq];exact hx⟩,st',λb hb=>(hf b hb).1⟩⟩
 done:=by
  intro X hP hw hK hc i pins s σ H E I hf st hg
  subst hP hw hK
  obtain⟨xs,hq,hx⟩:=hg
  obtain⟨its,rv,p,hz⟩:=I.tuple hq
  obtain⟨f0,f1,f2,f3,f4,f5⟩:=hf it (by simp)
  have hl:=rv.length
  exact wpAny_pyNext_tuple_end (I.ok.hd hc) st (show s.heap.IsTuple a its.toArray from p) (by simp;omega) λh' eb=>⟨rfl,I.turned (t':=s.toks) (λb o hb e=>eb b o hb e) f0 f1 f3 f4 f5⟩
 self:=λ_ _ _ _ _ st h=>wpAny_pyIter_tupleiter st h
theorem xW{P:Program}{w:World}{K:PySem.W.Frag}{tg:Expr}(it:Addr)(lo:Int)(n:Nat):vB P w K tg (Itr lo n) [it] it (λi h=>IsRangeIter h it (lo+(i:Nat)*1) ((n:Int)-(i:Nat)) 1) where
 mem:=by simp
 obj:=λi h st b hb=>by
  have e:b=it:=by simpa using hb
  subst e
  exact⟨_,st,λv z=>by
   have z':Data.fields _=Data.cell v:=z
   cases z'⟩
 keep:=λi h h' st k=>k it (by simp) _ st
 item:=by
  intro X hP hw hK hc i pins s σ H E I hf st hg
  subst hP hw hK
  obtain⟨f0,f1,f2,f3,f4,f5⟩:=hf it (by simp)
  have W:=Walks.range (prog:=X.prog) (w:=X.w) (I.ok.hd hc) it lo 1 n
  refine W.item i s _ _ hg st λv h' tk hv st' kk=>?_
  obtain⟨t,rfl⟩:=hv
  have I1:Inv X pins σ H { s with heap:=h',toks:=tk }:=I.turned (λb o hb e=>kk b o (by simpa using hb) e) f0 f1 f3 f4 f5
  refine⟨_,rfl,oR (s:={ s with heap:=h',toks:=tk }) (n:= "range_iterator") st' rfl rfl (by decide) ⟨.int (lo+i),H,I1,⟨t,?_⟩,⟨rfl,rfl⟩,st',λb hb=>(hf b hb).1⟩⟩
  rw[Int.mul_one]
 done:=by
  intro X hP hw hK hc i pins s σ H E I hf st hg
  subst hP hw hK
  obtain⟨f0,f1,f2,f3,f4,f5⟩:=hf it (by simp)
  exact wpAny_pyNext_range_end (I.ok.hd hc) st (by have:n<=i:=hg;omega) λh' eb=>⟨rfl,I.turned (t':=s.toks) (λb o hb e=>eb b o hb e) f0 f1 f3 f4 f5⟩
 self:=λ_ _ _ _ _ st h=>wpAny_pyIter_rangeiter st h
end L2
namespace L2
open PySem PySem.Spec PyProof.Rows
section
variable {X:Cx} {tg:Expr}
theorem vC{pins:List (Addr×Obj)}{σ:St}{H:Hp}{s:Shared}{R:It->Hp->Prop}{E:Value->Shared->Prop}{lo hi:Int}{t u v:Tok}{tk:Nat}(I:Inv X pins σ H s)(h1:-(2 ^ 62)<=lo)(h2:lo<2 ^ 62)(h3:-(2 ^ 62)<=hi)(h4:hi<2 ^ 62)
 (q:R (Itr lo (hi-lo).toNat) H):wpAny (model X.prog X.w) X.A (pyIter (.ref s.heap.objs.size)) (PIE X pins σ tg R) E { s with heap:=s.heap.push { cls:=.type "range",data:=.fields #[.int lo t,.int hi u,.int 1 v] },toks:=tk }:=by
 refine wpAny_pyIter_range (IsRange.new ..) (small_one h1 h2 h3 h4) ?_
 have I1:Inv X pins σ H { s with heap:=s.heap.push { cls:=.type "range",data:=.fields #[.int lo t,.int hi u,.int 1 v] },toks:=tk }:=I.kept λb o e=>Heap.get?_push_of_some _ e
 refine⟨(s.heap.push { cls:=.type "range",data:=.fields #[.int lo t,.int hi u,.int 1 v] }).objs.size,[(s.heap.push { cls:=.type "range",data:=.fields #[.int lo t,.int hi u,.int 1 v] }).objs.size],_,_,H,rfl,
  I1.kept (t':=tk) λb o e=>Heap.get?_push_of_some _ e,xW _ lo (hi-lo).toNat,?_,λb hb=>?_,q⟩
 . have e1:lo+((0:Nat):Int)*1=lo:=by simp
   have e2:(((hi-lo).toNat:Nat):Int)-((0:Nat):Int)=Builtin.Range.rangeSize lo hi 1:=by rw[rangeSize_one];split <;> omega
   show IsRangeIter _ _ (lo+((0:Nat):Int)*1) ((((hi-lo).toNat:Nat):Int)-((0:Nat):Int)) 1
   rw[e1,e2]
   exact Heap.get?_push_size _ rfl
 . have e:b=(s.heap.push { cls:=.type "range",data:=.fields #[.int lo t,.int hi u,.int 1 v] }).objs.size:=by simpa using hb
   subst e
   exact I1.fpOk (Nat.le_refl _) (I1.hok.fresh (Nat.le_refl _))
def aJb(ta:TA):TI:=λσ H R=>ta σ H λvs H1=>∃j:Int,vs=[.int j]/\-(2 ^ 62)<=j/\j<2 ^ 62/\R (Itr 0 j.toNat) H1
def aJc(ta:TA):TI:=λσ H R=>ta σ H λvs H1=>∃i j:Int,vs=[.int i,.int j]/\(-(2 ^ 62)<=i/\i<2 ^ 62/\-(2 ^ 62)<=j/\j<2 ^ 62)/\R (Itr i (j-i).toNat) H1
theorem aAS{a:Expr}{ta:TA}{p pos:Pos}(hg:Gl X "range")(hm:X.mg "range" = none)(ha:PA X [a] ta)(hs:starEach [a] X.env=[(false,eval a X.env)]:=by rfl):PI X tg (.Call (.Name "range" p) [a] [] pos) (aJb ta):=by
 intro pins s σ H R I h
 refine Call_ (fF I hg hm boot_range (PyProof.Rows.callWith_type1 (thn (ha pos pins s σ H _ I h) λus s1 ⟨vs,H1,I1,r1,q1⟩=>?_) hs rfl))
 obtain⟨j,e,q1,q2,q⟩:=q1
 subst e
 cases r1 with
 | cons r rr=>
  cases rr
  obtain⟨t,rfl⟩:=r
  exact call_range_1 (vC I1 (by omega) (by omega) q1 q2 (by simpa using q))
theorem aAT{a b:Expr}{ta:TA}{p pos:Pos}(hg:Gl X "range")(hm:X.mg "range" = none)(ha:PA X [a,b] ta)(hs:starEach [a,b] X.env=[(false,eval a X.env),(false,eval b X.env)]:=by rfl)(hs2:starEach [b] X.env=[(false,eval b X.env)]:=by rfl) :
 PI X tg (.Call (.Name "range" p) [a,b] [] pos) (aJc ta):=by
 intro pins s σ H R I h
 refine Call_ (fF I hg hm boot_range (PyProof.Rows.callWith_type1 (thn (ha pos pins s σ H _ I h) λus s1 ⟨vs,H1,I1,r1,q1⟩=>?_) (by rw[hs,hs2]) (by rw[hs2];rfl)))
 obtain⟨i,j,e,⟨q1,q2,q3,q4⟩,q⟩:=q1
 subst e
 cases r1 with
 | cons r rr=>
  cases rr with
  | cons r' rr=>
   cases rr
   obtain⟨t,rfl⟩:=r
   obtain⟨t',rfl⟩:=r'
   exact call_range_2 (vC I1 q1 q2 q3 q4 q)
def aLS(wi:TI)(g:TG)(tb:TS):TS:=λD σ H=>wi σ H λJ H1=>∃W:Nat->Nat->St->Hp->Prop,(∃m,W 0 m σ H1)/\∀i m σ H,W i m σ H ->
 (J.stop i H/\D.nx σ H)\/(J.go i H/\∃N:St->Hp->Prop,(∀σ' H',N σ' H'->∃m',m'<m/\W (i+1) m' σ' H')/\∀x H',J.yld i H x H'->g x σ H' λσ2 H2=>tb { D with nx:=N,ct:=N,bk:=D.nx } σ2 H2)
def oT(fp:List Addr)(h:Heap):List (Addr×Obj):=fp.filterMap λb=>(h.get? b).map λo=>(b,o)
theorem iD{fp:List Addr}{h:Heap}{b:Addr}{o:Obj}(hb:b∈fp)(e:h.get? b=some o):(b,o)∈oT fp h:=List.mem_filterMap.mpr ⟨b,hb,by rw[e];rfl⟩
theorem aAU{fp:List Addr}{h:Heap}{p:Addr×Obj}(hp:p∈oT fp h):p.1∈fp/\h.get? p.1=some p.2:=by
 obtain⟨b,hb,e⟩:=List.mem_filterMap.mp hp
 cases q:h.get? b with
 | none=>rw[q] at e;cases e
 | some o=>
  rw[q] at e
  have e':(b,o)=p:=Option.some.inj e
  subst e'
  exact⟨hb,q⟩
theorem Inv.pinned{pins:List (Addr×Obj)}{σ:St}{H:Hp}{s:Shared}{fp:List Addr}(I:Inv X pins σ H s)(hf:∀b∈fp,kZ X pins H b)(ho:∀b∈fp,∃o,s.heap.get? b=some o/\∀v,o.data≠.cell v):Inv X (pins++oT fp s.heap) σ H s:=
 I.pins_of λp hp=>(List.mem_append.mp hp).elim (λz=>I.pin p (List.mem_append_right _ z)) λz=>by
  obtain⟨hb,e⟩:=aAU z
  obtain⟨f0,f1,f2,_⟩:=hf p.1 hb
  obtain⟨o,e',d⟩:=ho p.1 hb
  rw[e] at e';cases e'
  exact⟨e,f0,f1,f2,d⟩
theorem Inv.unpinned{pins pl:List (Addr×Obj)}{σ:St}{H:Hp}{s:Shared}(I:Inv X (pins++pl) σ H s):Inv X pins σ H s:=I.pins_of λp hp=>I.pin p (List.mem_append_right _ (List.mem_append_left _ hp))
theorem aGL{iter:Expr}{body:List Stmt}{wi:TI}{g:TG}{tb:TS}{pos:Pos}(hp:PassesOwn (model X.prog X.w) X.A X.env X.xe)(hc:X.calm=true)(hi:PI X tg iter wi)(hg:PG X tg g)(hb:PSs X body tb)
 (hs:∀x,foldedSetIterable iter X.env x=pure x:=by intro _;rfl):PS X (.For tg iter body [] pos) (aLS wi g tb):=by
 intro pins s σ H D I h
 refine wpAny_For (thn (hi pins s σ H _ I h) λv s1 h1=>thn h1 λitv s2 h2=>?_) hs
 obtain⟨it,fp,tn,J,H2,e,I2,T,st2,f2,W,⟨m0,w0⟩,turn⟩:=h2
 subst e
 have stat:∀{H':Hp},(∀b∈fp,H' b=none)->∀b∈fp,kZ X pins H' b:=λhn b hb=>⟨hn b hb,(f2 b hb).2⟩
 refine codeAny_forLoop_any (λn s'=>∃i σ' H',Inv X pins σ' H' s'/\tn i s'.heap/\(∀b∈fp,H' b=none)/\W i n σ' H') ?_ m0 ⟨0,σ,H2,I2,st2,λb hb=>(f2 b hb).1,w0⟩
 rintro n s3 ⟨i,σ3,H3,I3,st3,fr3,w3⟩
 rcases turn i n σ3 H3 w3 with⟨stop,qn⟩|⟨go,N,hN,step⟩
 . refine wpAny_passesOwn hp (thn (T.done X rfl rfl rfl hc i pins s3 σ3 H3 X.xe I3 (stat fr3) st3 stop) λr s4 ⟨hr,I4⟩=>?_)
   subst hr
   exact wpAny_execs_nil ⟨σ3,H3,I4,qn⟩
 . refine wpAny_passesOwn hp (thn (T.item X rfl rfl rfl hc i pins s3 σ3 H3 X.xe I3 (stat fr3) st3 go) λr s4 ⟨u,hr,h4⟩=>?_)
   subst hr
   refine wpAny_passesOwn hp (thn h4 λ_ s5 ⟨x,H5,I5,r5,y5,st5,fr5⟩=>?_)
   have I5':=I5.pinned (stat fr5) (T.obj _ _ st5)
   refine wpAny_passesOwn hp (thn (hg _ s5 σ3 H5 x u _ I5' r5 (step x H5 y5)) λ_ s6 ⟨σ6,H6,I6,q6⟩=>?_)
   refine wpAny_passesOwn hp (thn (hb _ s6 σ6 H6 _ I6 q6) λf s7 q7=>?_)
   have again:∀{σ7:St} {H7:Hp},Inv X (pins++oT fp s5.heap) σ7 H7 s7->N σ7 H7->∃m,m<n/\∃i σ' H',Inv X pins σ' H' s7/\tn i s7.heap/\(∀b∈fp,H' b=none)/\W i m σ' H':=λ{σ7 H7} I7 n7=>by
    obtain⟨m',hm,w7⟩:=hN σ7 H7 n7
    refine⟨m',hm,i+1,σ7,H7,I7.unpinned,T.keep _ _ _ st5 λb hb o e=>(I7.pin (b,o) (List.mem_append_right _ (List.mem_append_right _ (iD hb e)))).1,λb hb=>?_,w7⟩
    obtain⟨o,e,d⟩:=T.obj _ _ st5 b hb
    exact(I7.pin (b,o) (List.mem_append_right _ (List.mem_append_right _ (iD hb e)))).2.1
   cases f with
   | next=>obtain⟨σ7,H7,I7,n7⟩:=q7;exact again I7 n7
   | cont=>obtain⟨σ7,H7,I7,n7⟩:=q7;exact again I7 n7
   | brk=>obtain⟨σ7,H7,I7,q7⟩:=q7;exact⟨σ7,H7,I7.unpinned,q7⟩
   | ret v=>obtain⟨x7,σ7,H7,I7,r7,q7⟩:=q7;exact⟨x7,σ7,H7,I7.unpinned,r7,q7⟩
end
end L2
namespace L2
open PySem PySem.Spec PyProof.Rows
abbrev R2:=V->V->Hp->VK->Prop
def OpR(X:Cx)(f:Value->Value->Sem Value)(r:R2):Prop:=
 ∀(pins:List (Addr×Obj)) (s:Shared) (σ:St) (H:Hp) (x y:V) (v u:Value) (Q:VK),Inv X pins σ H s->bQ x v->bQ y u->r x y H Q ->
  wpAny (model X.prog X.w) X.A (f v u) (EP X pins σ Q) X.xe s
def UnR(X:Cx)(f:Value->Sem Value)(r:V->Hp->VK->Prop):Prop:=
 ∀(pins:List (Addr×Obj)) (s:Shared) (σ:St) (H:Hp) (x:V) (v:Value) (Q:VK),Inv X pins σ H s->bQ x v->r x H Q ->
  wpAny (model X.prog X.w) X.A (f v) (EP X pins σ Q) X.xe s
def fR(X:Cx)(f:Value)(r:List V->Hp->VK->Prop):Prop:=
 ∀(pins:List (Addr×Obj)) (s:Shared) (σ:St) (H:Hp) (xs:List V) (us:List Value) (Q:VK),Inv X pins σ H s->bC xs us->r xs H Q ->
  wpAny (model X.prog X.w) X.A (call f us) (EP X pins σ Q) X.xe s
def aLT(X:Cx)(r:V->Hp->(Bool->Hp->Prop)->Prop):Prop:=
 ∀(pins:List (Addr×Obj)) (s:Shared) (σ:St) (H:Hp) (x:V) (v:Value) (Q:Bool->Hp->Prop),Inv X pins σ H s->bQ x v->r x H Q ->
  wpAny (model X.prog X.w) X.A (truthy v) (TP X pins σ Q) X.xe s
def tOp(r:R2)(ta tb:TE):TE:=λσ H Q=>ta σ H λx H1=>tb σ H1 λy H2=>r x y H2 Q
def tUn(r:V->Hp->VK->Prop)(ta:TE):TE:=λσ H Q=>ta σ H λx H1=>r x H1 Q
def rI(C:Int->Int->Prop)(g:Int->Int->V):R2:=λx y H Q=>∃i j,x=.int i/\y=.int j/\C i j/\Q (g i j) H
def rI0(g:Int->Int->V):R2:=λx y H Q=>∃i j,x=.int i/\y=.int j/\Q (g i j) H
def rU(g:Int->V):V->Hp->VK->Prop:=λx H Q=>∃i,x=.int i/\Q (g i) H
section
variable {X:Cx} {a b c:Expr} {ta tb tc:TE} {pos:Pos}
theorem aJd(ha:PE X a ta)(hb:PE X b tb){pins:List (Addr×Obj)}{s:Shared}{σ:St}{H:Hp}{R:V->V->Hp->Prop}(I:Inv X pins σ H s)
 (h:ta σ H λx H1=>tb σ H1 λy H2=>R x y H2) {Q:Value->Shared->Prop} {f:Value->Value->Sem Value}
 (hf:∀v u s2 x y H2,Inv X pins σ H2 s2->bQ x v->bQ y u->R x y H2->wpAny (model X.prog X.w) X.A (f v u) Q X.xe s2) :
 wpAny (model X.prog X.w) X.A (eval a X.env) (λv s₁=>wpAny (model X.prog X.w) X.A (eval b X.env) (λu s₂=>wpAny (model X.prog X.w) X.A (f v u) Q X.xe s₂) X.xe s₁) X.xe s:=by
 refine thn (ha pins s σ H _ I h) λv s1 ⟨x,H1,I1,r1,q1⟩=>?_
 refine thn (hb pins s1 σ H1 _ I1 q1) λu s2 ⟨y,H2,I2,r2,q2⟩=>?_
 exact hf v u s2 x y H2 I2 r1 r2 q2
theorem aJe{op:UnaryOp}{r:V->Hp->VK->Prop}(ho:UnR X (unaryOp op) r)(ha:PE X a ta):PE X (.UnaryOp op a pos) (tUn r ta):=by
 intro pins s σ H Q I h
 exact UnaryOp_ (thn (ha pins s σ H _ I h) λv s1 ⟨x,H1,I1,r1,q1⟩=>ho pins s1 σ H1 x v Q I1 r1 q1)
theorem opI{f:Value->Value->Sem Value}{C:Int->Int->Prop}{g:Int->Int->Int}
 (rule:∀(i j:Int) (t u:Tok) (s:Shared) (Q:Value->Shared->Prop) (E:Value->Shared->Prop),C i j->Q (.int (g i j) s.toks) { s with toks:=s.toks+1 }->wpAny (model X.prog X.w) X.A (f (.int i t) (.int j u)) Q E s) :
 OpR X f (rI C λi j=>.int (g i j)):=by
 intro pins s σ H x y v u Q I rx ry h
 obtain⟨i,j,rfl,rfl,hc,q⟩:=h
 obtain⟨t,rfl⟩:=rx
 obtain⟨t',rfl⟩:=ry
 exact rule i j t t' s _ _ hc ⟨.int (g i j),H,I.tok _,⟨_,rfl⟩,q⟩
theorem aJf{f:Value->Value->Sem Value}{g:Int->Int->Int}
 (rule:∀(i j:Int) (t u:Tok) (s:Shared) (Q:Value->Shared->Prop) (E:Value->Shared->Prop),Q (.int (g i j) s.toks) { s with toks:=s.toks+1 }->wpAny (model X.prog X.w) X.A (f (.int i t) (.int j u)) Q E s) :
 OpR X f (rI0 λi j=>.int (g i j)):=by
 intro pins s σ H x y v u Q I rx ry h
 obtain⟨i,j,rfl,rfl,q⟩:=h
 obtain⟨t,rfl⟩:=rx
 obtain⟨t',rfl⟩:=ry
 exact rule i j t t' s _ _ ⟨.int (g i j),H,I.tok _,⟨_,rfl⟩,q⟩
theorem aEz{f:Value->Value->Sem Value}{g:Int->Int->Bool}
 (rule:∀(i j:Int) (t u:Tok) (s:Shared) (Q:Value->Shared->Prop) (E:Value->Shared->Prop),Q (.bool (g i j)) s->wpAny (model X.prog X.w) X.A (f (.int i t) (.int j u)) Q E s) :
 OpR X f (rI0 λi j=>.bl (g i j)):=by
 intro pins s σ H x y v u Q I rx ry h
 obtain⟨i,j,rfl,rfl,q⟩:=h
 obtain⟨t,rfl⟩:=rx
 obtain⟨t',rfl⟩:=ry
 exact rule i j t t' s _ _ ⟨.bl (g i j),H,I,rfl,q⟩
def aLU(i j:Int):Prop:=0<j/\j<1073741824
def aLV(i j:Int):Prop:=0<=j/\j<=1000000/\i.natAbs<2 ^ 64
def aGM(i j:Int):Prop:=(-(2 ^ 64)<i/\i<2 ^ 64)\/(-(2 ^ 64)<j/\j<2 ^ 64)
theorem aGM.ok{i j:Int}(h:aGM i j):IntMulOk i j:=by
 rcases h with⟨h1,h2⟩|⟨h1,h2⟩
 . exact .of_left (intBits_le_64 h1 h2)
 . exact .of_right (intBits_le_64 h1 h2)
theorem aGN:OpR X (binaryOp .Add) (rI0 λi j=>.int (i+j)):=aJf λ_ _ _ _ _ _ _ q=>add_int q
theorem aGO:OpR X (binaryOp .Sub) (rI0 λi j=>.int (i-j)):=aJf λ_ _ _ _ _ _ _ q=>sub_int q
theorem aGP:OpR X (binaryOp .Mult) (rI aGM λi j=>.int (i*j)):=opI λ_ _ _ _ _ _ _ hc q=>mul_int q hc.ok
theorem aEA:OpR X (binaryOp .FloorDiv) (rI aLU λi j=>.int (i / j)):=opI λi j _ _ _ _ _ hc q=>by
 have h1:(0:Int)<j:=hc.1
 have h2:j<1073741824:=hc.2
 exact floordiv_int (by omega) (by rw[Int.fdiv_eq_ediv_of_nonneg i (by omega)];exact q) (.inl (PyProof.noPylong_small (by omega)))
theorem aGQ:OpR X (binaryOp .Mod) (rI (λ_ j=>0<j) λi j=>.int (i % j)):=opI λi j _ _ _ _ _ hc q=>by
 have h1:(0:Int)<j:=hc
 exact mod_int' (by omega) (by rw[Int.fmod_eq_emod_of_nonneg i (by omega)];exact q)
theorem aGR:OpR X (binaryOp .Pow) (rI aLV λi j=>.int (i ^ j.toNat)):=opI λ_ _ _ _ _ _ _ hc q=>pow_int_small hc.1 hc.2.1 hc.2.2 q
theorem unI{f:Value->Sem Value}{g:Int->Int}
 (rule:∀(i:Int) (t:Tok) (s:Shared) (Q:Value->Shared->Prop) (E:Value->Shared->Prop),Q (.int (g i) s.toks) { s with toks:=s.toks+1 }->wpAny (model X.prog X.w) X.A (f (.int i t)) Q E s) :
 UnR X f (rU λi=>.int (g i)):=by
 intro pins s σ H x v Q I rx h
 obtain⟨i,rfl,q⟩:=h
 obtain⟨t,rfl⟩:=rx
 exact rule i t s _ _ ⟨.int (g i),H,I.tok _,⟨_,rfl⟩,q⟩
theorem aGS:UnR X (unaryOp .USub) (rU λi=>.int (-i)):=unI λ_ _ _ _ _ q=>neg_int q
end
section
variable {X:Cx} {a b c:Expr} {ta tb tc:TE} {pos:Pos}
theorem xX{pins:List (Addr×Obj)}{σ:St}{H:Hp}{s:Shared}{Q:VK}{k k':Bool}(I:Inv X pins σ H s)(q:Q (.bl k) H)(e:k=k'):EP X pins σ Q (.bool k') s:=by
 subst e
 exact⟨.bl k,H,I,rfl,q⟩
theorem aJg:OpR X (compareOp .Lt) (rI0 λi j=>.bl (decide (i<j))):=aEz λ_ _ _ _ _ _ _ q=>lt_int q
theorem aJh:OpR X (compareOp .LtE) (rI0 λi j=>.bl (decide (i<=j))):=aEz λ_ _ _ _ _ _ _ q=>le_int q
theorem aJi:OpR X (compareOp .Gt) (rI0 λi j=>.bl (decide (j<i))):=aEz λ_ _ _ _ _ _ _ q=>gt_int q
theorem aJj:OpR X (compareOp .GtE) (rI0 λi j=>.bl (decide (j<=i))):=aEz λ_ _ _ _ _ _ _ q=>ge_int q
theorem aAV:OpR X (compareOp .In) (λx y H Q=>∃i j,x=.str i/\y=.str j/\Q (.bl (!(Builtin.Str.occurrences j i 0 j.length 1).isEmpty)) H):=by
 intro pins s σ H x y v u Q I rx ry h
 obtain⟨i,j,rfl,rfl,q⟩:=h
 obtain⟨t,rfl⟩:=rx
 obtain⟨t',rfl⟩:=ry
 exact in_str (xX I q rfl)
theorem aGT:OpR X (compareOp .Is) (λx y H Q=>y=.non/\Q (.bl (decide (x=.non))) H):=by
 intro pins s σ H x y v u Q I rx ry h
 obtain⟨rfl,q⟩:=h
 cases ry
 refine is_none_gen (xX I q ?_)
 cases x <;> first
  | (cases rx;rfl)
  | (obtain⟨t,rfl⟩:=rx;rfl)
theorem aEB:OpR X (compareOp .IsNot) (λx y H Q=>y=.non/\Q (.bl (!decide (x=.non))) H):=by
 intro pins s σ H x y v u Q I rx ry h
 obtain⟨rfl,q⟩:=h
 cases ry
 refine isnot_none_gen (xX I q ?_)
 cases x <;> first
  | (cases rx;rfl)
  | (obtain⟨t,rfl⟩:=rx;rfl)
theorem aEC{op:CmpOp}{r:R2}(ho:OpR X (compareOp op) r)(ha:PE X a ta)(hb:PE X b tb)(hm:behindInMarks op b=false):PE X (.Compare a [op] [b] pos) (tOp r ta tb):=by
 intro pins s σ H Q I h
 exact wpAny_Compare1 (aJd ha hb I h λv u s2 x y H2 I2 rx ry q=>ho pins s2 σ H2 x y v u Q I2 rx ry q) hm
def aFR(t:TE):TT:=λσ H Q=>t σ H λx H'=>∃k,x=.bl k/\Q k H'
theorem aED{op:CmpOp}{r:R2}(ho:OpR X (compareOp op) r)(ha:PE X a ta)(hb:PE X b tb)(hm:behindInMarks op b=false):PT X (.Compare a [op] [b] pos) (aFR (tOp r ta tb)):=by
 intro pins s σ H Q I h
 refine wpAny_isTrue_Compare1 (thn (ha pins s σ H _ I h) λv s1 ⟨x,H1,I1,r1,q1⟩=>thn (hb pins s1 σ H1 _ I1 q1) λu s2 ⟨y,H2,I2,r2,q2⟩=>
  thn (ho pins s2 σ H2 x y v u _ I2 r1 r2 q2) λc s3 ⟨z,H3,I3,r3,k,e,q3⟩=>?_) hm
 subst e
 cases r3
 exact wpAny_truthy_bool ⟨H3,I3,q3⟩
def aCj(r r':R2)(ta tb tc:TE):TE:=λσ H Q=>ta σ H λx H1=>tb σ H1 λy H2=>r x y H2 λz H3=>∃k,z=.bl k /\
 (if k=true then tc σ H3 λw' H4=>r' y w' H4 Q else Q (.bl false) H3)
theorem aCk{op op':CmpOp}{r r':R2}(ho:OpR X (compareOp op) r)(ho':OpR X (compareOp op') r')(ha:PE X a ta)(hb:PE X b tb)(hc:PE X c tc)
 (hm:lastMarks [op,op'] [b,c]=false:=by with_unfolding_all rfl):PE X (.Compare a [op,op'] [b,c] pos) (aCj r r' ta tb tc):=by
 intro pins s σ H Q I h
 refine Compare_chain (thn (ha pins s σ H _ I h) λv s1 ⟨x,H1,I1,r1,q1⟩=>chain_link (thn (hb pins s1 σ H1 _ I1 q1) λu s2 ⟨y,H2,I2,r2,q2⟩=>
  thn (ho pins s2 σ H2 x y v u _ I2 r1 r2 q2) λd s3 ⟨z,H3,I3,r3,k,e,q3⟩=>?_)) hm
 subst e
 cases r3
 refine wpAny_truthy_bool ?_
 cases k with
 | false=>exact ite_ff ⟨.bl false,H3,I3,rfl,q3⟩
 | true=>exact ite_tt (chain_last (thn (hc pins s3 σ H3 _ I3 q3) λw' s4 ⟨z',H4,I4,r4,q4⟩=>ho' pins s4 σ H4 y z' u w' Q I4 r2 r4 q4))
theorem aCl{op op':CmpOp}{r r':R2}(ho:OpR X (compareOp op) r)(ho':OpR X (compareOp op') r')(ha:PE X a ta)(hb:PE X b tb)(hc:PE X c tc)
 (hm:lastMarks [op,op'] [b,c]=false:=by with_unfolding_all rfl):PT X (.Compare a [op,op'] [b,c] pos) (aFR (aCj r r' ta tb tc)):=by
 intro pins s σ H Q I h
 refine isTrue_chain (thn (ha pins s σ H _ I h) λv s1 ⟨x,H1,I1,r1,q1⟩=>test_link (thn (hb pins s1 σ H1 _ I1 q1) λu s2 ⟨y,H2,I2,r2,q2⟩=>
  thn (ho pins s2 σ H2 x y v u _ I2 r1 r2 q2) λd s3 ⟨z,H3,I3,r3,k,e,q3⟩=>?_)) hm
 subst e
 cases r3
 refine wpAny_truthy_bool ?_
 cases k with
 | false=>
  obtain⟨k',e',q'⟩:=q3
  cases e'
  exact ite_ff ⟨H3,I3,q'⟩
 | true=>
  refine ite_tt (test_last (thn (hc pins s3 σ H3 _ I3 q3) λw' s4 ⟨z',H4,I4,r4,q4⟩=>thn (ho' pins s4 σ H4 y z' u w' _ I4 r2 r4 q4) λd' s5 ⟨z2,H5,I5,r5,k2,e2,q5⟩=>?_))
  subst e2
  cases r5
  exact wpAny_truthy_bool ⟨H5,I5,q5⟩
def aEE(K:PySem.W.Frag)(x:V)(H:Hp)(k:Bool):Prop:=
 match x with
 | .non=>k=false
 | .bl b=>k=b
 | .int i=>k=(i != 0)
 | .str y=>y.length<=sizeLine/\k=((y.length:Int) != 0)
 | .byt y=>y.size<=sizeLine/\k=((y.size:Int) != 0)
 | .ref p=>(∃xs,SqL K H p xs/\k=!xs.isEmpty)\/(∃xs,SqT K H p xs/\k=!xs.isEmpty)\/∃kvs,H p=some (.dK kvs)/\k=!kvs.isEmpty
 | _=>False
theorem xY{κ:Type}{kvs:List (κ×V)}{vs:List (κ×Value)}(r:KV kvs vs):(!vs.isEmpty)=!kvs.isEmpty:=by
 cases r <;> rfl
theorem oU{xs:List V}{its:List Value}(r:bC xs its):(!its.toArray.isEmpty)=!xs.isEmpty:=by
 cases r <;> simp
theorem kJ:(sizeLine:Nat)<2 ^ 63:=by rw[sizeLine_eq];decide
theorem aCm:aLT X (λx H Q=>∃k,aEE X.K x H k/\Q k H):=by
 intro pins s σ H x v Q I rx h
 obtain⟨k,e,q⟩:=h
 have hl:=kJ
 have hs:sizeLine=16777216:=sizeLine_eq
 cases x with
 | non=>
  cases rx
  have e':k=false:=e
  subst e'
  exact truthy_none ⟨H,I,q⟩
 | bl b=>
  cases rx
  have e':k=b:=e
  subst e'
  exact wpAny_truthy_bool ⟨H,I,q⟩
 | int i=>
  obtain⟨t,rfl⟩:=rx
  have e':k=(i != 0):=e
  subst e'
  exact PySem.P.truthy_int ⟨H,I,q⟩
 | str y=>
  obtain⟨t,rfl⟩:=rx
  obtain⟨hy,e'⟩:y.length<=sizeLine/\k=((y.length:Int) != 0):=e
  subst e'
  exact PySem.P.truthy_str (by omega) ⟨H,I.tok _,q⟩
 | byt y=>
  obtain⟨t,rfl⟩:=rx
  obtain⟨hy,e'⟩:y.size<=sizeLine/\k=((y.size:Int) != 0):=e
  subst e'
  exact PySem.W.truthy_bytes (by omega) ⟨H,I.tok _,q⟩
 | ref p=>
  cases rx
  have e':(∃xs,SqL X.K H p xs/\k=!xs.isEmpty)\/(∃xs,SqT X.K H p xs/\k=!xs.isEmpty)\/∃kvs,H p=some (.dK kvs)/\k=!kvs.isEmpty:=e
  rcases e' with⟨xs,hx,e'⟩|⟨xs,hx,e'⟩|⟨kvs,hx,e'⟩
  . subst e'
    obtain⟨its,r,pl,hz⟩:=I.list hx
    have hlen:=r.length
    exact wpAny_truthy_list pl.isList (by simp only[List.size_toArray];omega) ⟨H,I.tok _,by rw[oU r];exact q⟩
  . subst e'
    obtain⟨its,r,pl,hz⟩:=I.tuple hx
    have hlen:=r.length
    exact truthy_tuple pl (by simp only[List.size_toArray];omega) ⟨H,I.tok _,by rw[oU r];exact q⟩
  . subst e'
    obtain⟨hz,hS,vs,r,m⟩:kvs.length<=sizeLine/\(p==sysModules)=false/\∃vs,KV kvs vs/\s.heap.DictOf (bS X.prog X.w) p vs:=I.hok p _ hx
    have hlen:kvs.length=vs.length:=Paired.length r
    exact wpAny_truthy_dict hS m (by omega) ⟨H,I.tok _,by rw[xY r];exact q⟩
 | _=>exact(show False from e).elim
theorem aCn(ha:PE X a ta)(he:∀whole,isTrue a X.env whole=(do let v<-whole;standAt a.pos;holding [v] (truthy v))) :
 PT X a (λσ H Q=>ta σ H λx H'=>∃k,aEE X.K x H' k/\Q k H'):=by
 intro pins s σ H Q I h
 exact isTrue_plain (thn (ha pins s σ H _ I h) λv s1 ⟨x,H1,I1,r1,q1⟩=>aCm pins s1 σ H1 x v Q I1 r1 q1) (he _)
theorem xZ:OpR X (binaryOp .Add) (λx y H Q=>∃i j,x=.str i/\y=.str j/\i.length+j.length<=sizeLine/\Q (.str (i++j)) H):=by
 intro pins s σ H x y v u Q I rx ry h
 obtain⟨i,j,rfl,rfl,hz,q⟩:=h
 obtain⟨t,rfl⟩:=rx
 obtain⟨t',rfl⟩:=ry
 exact add_str (λt' tk=>⟨.str (i++j),H,I.tok _,⟨_,rfl⟩,q⟩) hz
theorem nJ{x:V}{us:List Value}(r:bC [x] us):∃u,us=[u]/\bQ x u:=by
 cases r with
 | cons r1 r2=>cases r2;exact⟨_,rfl,r1⟩
theorem aJk{x y:V}{us:List Value}(r:bC [x,y] us):∃u w',us=[u,w']/\bQ x u/\bQ y w':=by
 cases r with
 | cons r1 r2=>
  cases r2 with
  | cons r3 r4=>cases r4;exact⟨_,_,rfl,r1,r3⟩
theorem aAW(hc:X.calm=true):fR X (.builtin "min") (λxs H Q=>∃i j,xs=[.int i,.int j]/\Q (.int (if j<i then j else i)) H):=by
 intro pins s σ H xs us Q I r h
 obtain⟨i,j,rfl,q⟩:=h
 obtain⟨u,w',rfl,⟨t,rfl⟩,⟨t',rfl⟩⟩:=aJk r
 refine min_two_ints (I.ok.hd hc) λh' tk k=>⟨_,H,I.kept k,?_,q⟩
 by_cases hj:j<i
 . rw[if_pos hj,if_pos hj];exact⟨_,rfl⟩
 . rw[if_neg hj,if_neg hj];exact⟨_,rfl⟩
theorem aAX:fR X (.type "int") (λxs H Q=>(∃i,xs=[.int i]/\Q (.int i) H)\/∃k,xs=[.bl k]/\Q (.int (if k then 1 else 0)) H):=by
 intro pins s σ H xs us Q I r h
 rcases h with⟨i,rfl,q⟩|⟨k,rfl,q⟩
 . obtain⟨u,rfl,t,rfl⟩:=nJ r
   exact call_int_int ⟨.int i,H,I,⟨_,rfl⟩,q⟩
 . obtain⟨u,rfl,r1⟩:=nJ r
   cases r1
   exact call_int_bool ⟨.int (if k then 1 else 0),H,I.tok _,⟨_,rfl⟩,q⟩
end
end L2
namespace L2
open PySem PySem.Spec PyProof.Rows
section
variable {prog:Program} {w:World} {A:Around} {E:Value->Shared->Prop} {s:Shared} {K:PySem.W.Frag} {x dx C f:Addr} {mA:Str->Option Value} {name:Str} {v:Value}
end
def putF(f:Str)(v:V):List (Str×V)->List (Str×V)
 | []=>[(f,v)]
 | (g,x)::r=>if g=f then (g,v)::r else (g,x)::putF f v r
section
variable {P:Program} {w:World} {H H':Hp} {h h':Heap} {a C dx:Addr} {fs fs':List (Str×V)}
end
section
variable {X:Cx} {pins:List (Addr×Obj)} {σ:St} {H:Hp} {s:Shared} {a C dx:Addr} {fs:List (Str×V)} {f:Str} {v:V} {A:Around} {E:Value->Shared->Prop}
end
section
variable {X:Cx} {o e value:Expr} {f:Str} {pos pos' tpos:Pos} {ta tv:TE}
end
section
variable {X:Cx} {pins:List (Addr×Obj)} {σ:St} {H:Hp} {s:Shared} {A:Around} {E:Value->Shared->Prop} {Q:Value->Shared->Prop} {c:Value} {b:Bool}
end
end L2
namespace L2
open PySem PySem.Spec PyProof.Rows
structure kK (k:Nat) (A:Around):Prop where
 hd:A.handled=none
 gd:A.guards=some []
 dp:A.depth+3*k+5<recursionLimit
 un:A.units+16*k+200<cLine
theorem kK.deeper{k:Nat}{A:Around}(r:kK (k+1) A)(env:Env):kK k (A.deeper env):=
 ⟨r.hd,r.gd,by have:=r.dp;show A.depth+1+3*k+5<_;omega,by have:=r.un;show A.units+3+16*k+200<_;omega⟩
theorem kK.depth{k:Nat}{A:Around}(r:kK k A):A.depth<recursionLimit:=by have:=r.dp;omega
def aJl:TA:=λ_ H Q=>Q [] H
def aJm(ta:TE)(tr:TA):TA:=λσ H Q=>ta σ H λx H1=>tr σ H1 λxs H2=>Q (x::xs) H2
section
variable {X:Cx} {e:Expr} {es:List Expr} {te:TE} {t:TA} {pos:Pos}
theorem mL:PA X [] aJl:=λ_ _ _ _ H Q I h=>Calls.spliced_nil ⟨[],H,I,.nil,h⟩
theorem jN(ha:PE X e te)(hr:PA X es t)(hs:starEach (e::es) X.env=(false,eval e X.env)::starEach es X.env:=by rfl):PA X (e::es) (aJm te t):=by
 intro pos pins s σ H Q I h
 rw[hs]
 show wpAny _ _ (spliced ((false,eval e X.env)::backTo pos (starEach es X.env))) _ _ s
 refine Calls.spliced_cons (thn (ha pins s σ H _ I h) λu s1 ⟨x,H1,I1,r1,q1⟩=>?_)
 exact thn (hr pos pins s1 σ H1 _ I1 q1) λus s2 ⟨xs,H2,I2,r2,q2⟩=>⟨x::xs,H2,I2,.cons r1 r2,q2⟩
def aLW(t:TA):TE:=λσ H Q=>t σ H λxs H1=>xs.length<=sizeLine/\∀p,H1 p=none->Q (.ref p) (upd H1 p (.tup xs))
def aLX(t:TA):TE:=λσ H Q=>t σ H λxs H1=>xs.length<=sizeLine/\∀p,H1 p=none->Q (.ref p) (upd H1 p (.lst xs))
theorem aGU{x1}(h:PA X es t):PE X (.Tuple es x1 pos) (aLW t):=by
 intro pins s σ H Q I hq
 refine wpAny_Tuple_spliced (thn (h pos pins s σ H _ I hq) λus s1 ⟨xs,H1,I1,r,z,q⟩=>⟨by rw[<-r.length];exact z,?_⟩)
 have hf:H1 s1.heap.objs.size=none:=I1.hok.fresh (Nat.le_refl _)
 refine⟨.ref s1.heap.objs.size,upd H1 s1.heap.objs.size (.tup xs),I1.laid (t':=s1.toks) (λb u e=>Heap.get?_push_of_some _ e) (Nat.le_refl _) ?_,rfl,q _ hf⟩
 exact⟨z,us,r,⟨_,Heap.get?_push_size _ rfl,rfl,_,rfl⟩⟩
theorem aGV(h:PA X es t):PE X (.List es pos) (aLX t):=by
 intro pins s σ H Q I hq
 refine wpAny_List_spliced (thn (h pos pins s σ H _ I hq) λus s1 ⟨xs,H1,I1,r,z,q⟩=>⟨by rw[<-r.length];exact z,?_⟩)
 have hf:H1 s1.heap.objs.size=none:=I1.hok.fresh (Nat.le_refl _)
 refine⟨.ref s1.heap.objs.size,upd H1 s1.heap.objs.size (.lst xs),I1.laid (t':=s1.toks) (λb u e=>Heap.get?_push_of_some _ e) (Nat.le_refl _) ?_,rfl,q _ hf⟩
 exact⟨z,us,0,r,Heap.get?_push_size _ rfl⟩
end
abbrev Sp:=List V->Hp->VK->XK->Prop
abbrev CXT:=List Env->Hp->Shared->XK->Value->Shared->Prop
structure aEF (P:Program) (w:World) (K:PySem.W.Frag) (mg:Str->Option Value) (base:Heap) (A:Around) (outer:List Env) (s:Shared) (H:Hp):Prop where
 frames:A.frames=some outer
 mod:Mod K mg base
 bs:∀b o,base.get? b=some o->s.heap.get? b=some o/\H b=none
 bsz:base.objs.size<=s.heap.objs.size
 funs:s.heap.FunFrames base outer
 frf:∀b∈frs outer,H b=none
 hok:HOk P w H s.heap
 bare:AllBare s.gens
def CE(outer:List Env)(P:Program)(w:World)(H:Hp)(s:Shared)(Q:VK)(u:Value)(s':Shared):Prop:=
 ∃v H',s'.os=s.os/\AllBare s'.gens/\Un (frs outer) [] H H' s.heap s'.heap/\HOk P w H' s'.heap/\bQ v u/\Q v H'
def CR(CX:CXT)(outer:List Env)(P:Program)(w:World)(H:Hp)(s:Shared)(Q:VK)(E:XK)(r:Result)(s':Shared):Prop:=
 match r with
 | .ok (.ret u)=>CE outer P w H s Q u s'
 | .ok _=>False
 | .error e=>CX outer H s E e s'
structure nQ (P:Program) (w:World) (K:PySem.W.Frag) (mg:Str->Option Value) (base:Heap) (CX:CXT) (k:Nat) (f:Addr) (fd:FuncData) (ps:List Str) (sp:Sp):Prop where
 len:∀vs H Q E,sp vs H Q E->vs.length=ps.length
 run:∀(A:Around) (outer:List Env) (s:Shared) (H:Hp) (args:Args) (us:List Value) (vs:List V) (Q:VK) (E:XK),kK k A->aEF P w K mg base A outer s H->BindsTo s fd args (ps.zip us)->bC vs us->sp vs H Q E ->
  codeAny (model P w) A (.call (.ref f) args) (CR CX outer P w H s Q E) s
section
variable {X:Cx} {pins:List (Addr×Obj)} {σ:St} {H:Hp} {s s':Shared}
theorem Inv.env0(I:Inv X pins σ H s):aEF X.prog X.w X.K X.mg X.base X.A X.stack s H:=
 ⟨I.ok.frames,I.ok.mod,I.bs,Nat.le_trans I.ok.bsz I.sz,I.stack,I.stkFree,I.hok,I.bare⟩
theorem Inv.after{Q:VK}{u:Value}(I:Inv X pins σ H s)(h:CE X.stack X.prog X.w H s Q u s'):EP X pins σ Q u s':=by
 obtain⟨v,H',os,bare,un,hok,r,q⟩:=h
 obtain⟨hh,g,d,t,os'⟩:=s'
 obtain rfl:os'=s.os:=os
 exact⟨v,H',I.call (h':=hh) (g':=g) (d':=d) (t':=t) (ch:=[]) un hok bare (λb z=>absurd z (by simp)),r,q⟩
end
def aFS(sp:Sp)(dvs:List V)(E:XK)(t:TA):TE:=λσ H Q=>t σ H λvs H1=>sp (vs++dvs) H1 Q E
def kB(K:PySem.W.Frag)(fd:FuncData)(ps:List Str)(ds:List Value):Prop:=
 ∀(s:Shared) (us:List Value),K.In s.heap->(us++ds).length=ps.length->BindsTo s fd ⟨us,[]⟩ (ps.zip (us++ds))
theorem kB.all{K:PySem.W.Frag}{fd:FuncData}{ps:List Str}(h:∀us:List Value,us.length=ps.length->bindArgs fd ⟨us,[]⟩=pure (ps.zip us)):kB K fd ps []:=λs us _ hl=>by
 rw[List.append_nil] at hl ⊢
 exact .of_eq (h us hl)
def sX(CX:CXT)(X:Cx)(E:XK):Prop:=∀(pins:List (Addr×Obj)) (σ:St) (H:Hp) (s:Shared) (e:Value) (s':Shared),Inv X pins σ H s->CX X.stack H s E e s'->X.xe e s'
section
variable {X:Cx} {CX:CXT} {k:Nat} {f C:Addr} {fd:FuncData} {ps:List Str} {sp:Sp} {dvs:List V} {ds:List Value} {E:XK} {x m:Str} {p pos apos:Pos} {e o:Expr} {es:List Expr} {ta:TE} {t:TA}
theorem aCo{pins:List (Addr×Obj)}{σ:St}{H:Hp}{s:Shared}{Q:VK}{us:List Value}{vs:List V}(F:nQ X.prog X.w X.K X.mg X.base CX k f fd ps sp)(hr:kK k X.A)(hb:kB X.K fd ps ds)(hd:bC dvs ds)(hx:sX CX X E)
 (I:Inv X pins σ H s) (r:bC vs us) (h:sp (vs++dvs) H Q E):wpAny (model X.prog X.w) X.A (call (.ref f) us) (EP X pins σ Q) X.xe s:=by
 have r2:bC (vs++dvs) (us++ds):=r.append hd
 have hl:(us++ds).length=ps.length:=by rw[<-r2.length];exact F.len _ _ _ _ h
 refine wpAny_call (codeAny_mono (F.run X.A X.stack s H ⟨us,[]⟩ (us++ds) (vs++dvs) Q E hr I.env0 (hb s us I.kIn hl) r2 h) λr s' hq=>?_)
 cases r with
 | error e=>exact hx pins σ H s e s' I hq
 | ok fl=>
  cases fl with
  | ret u=>exact I.after hq
  | next=>exact False.elim hq
  | brk=>exact False.elim hq
  | cont=>exact False.elim hq
theorem aEG(F:nQ X.prog X.w X.K X.mg X.base CX k f fd ps sp)(hr:kK k X.A)(hg:Gl X x)(hm:X.mg x=some (.ref f))(hk:PySem.W.keepIn X.K (.ref f)=true)(hb:kB X.K fd ps ds)(hd:bC dvs ds)(hx:sX CX X E)
 (ha:PA X (e::es) t) (hdb:(x==("__debug__" : Str))=false:=by decide) (he:starEach (e::es) X.env=(false,eval e X.env)::starEach es X.env:=by rfl) (hpl:(backTo pos (starEach es X.env)).any (·.1)=false:=by rfl) :
 PE X (.Call (.Name x p) (e::es) [] pos) (aFS sp dvs E t):=by
 intro pins s σ H Q I h
 refine wpAny_Call_Name_kw (sV I hg hm ?_ hdb)
 refine PySem.W.callWith_K (h₀:=X.base) I.ok.mod.kin hk (thn (ha pos pins s σ H _ I h) λus s1 ⟨vs,H1,I1,r,q⟩=>⟨I1.kIn,?_⟩) he hpl
 exact aCo F hr hb hd hx I1 r q
theorem aCp(F:nQ X.prog X.w X.K X.mg X.base CX k f fd ps sp)(hr:kK k X.A)(hg:Gl X x)(hm:X.mg x=some (.ref f))(hk:PySem.W.keepIn X.K (.ref f)=true)(hb:kB X.K fd ps ds)(hd:bC dvs ds)(hx:sX CX X E)
 (hdb:(x==("__debug__" : Str))=false:=by decide):PE X (.Call (.Name x p) [] [] pos) (aFS sp dvs E aJl):=by
 intro pins s σ H Q I h
 refine wpAny_Call_Name_kw (sV I hg hm ?_ hdb)
 exact PySem.W.callWith_K0 I.kIn hk (aCo (us:=[]) F hr hb hd hx I .nil h)
end
section
variable {X:Cx} {CX:CXT} {k:Nat} {f C:Addr} {fd:FuncData} {ps ks:List Str} {sp:Sp} {E:XK} {x m:Str} {p pos apos kpos:Pos} {e o:Expr} {es:List Expr} {kws:List Keyword} {te ta:TE} {t tk:TA} {nm:Option Str}
variable {g:List Value->List Value->List Value} {gV:List V->List V->List V}
end
structure nZ (N P:List Str) (sc:Scope):Prop where
 kind:sc.kind=.function
 co:sc.isCoroutine=false
 gen:sc.isGenerator=false
 nd:N.Nodup
 pre:N.take P.length=P
 par:∀x∈P,sc.names.lookup x=some .local\/sc.names.lookup x=some .cell
 nofree:∀y∈sc.names,y.2≠.free
theorem rH{kindOf:Str->Option NameKind}{x:Str}:∀{binds:List (Str×Value)} {m:Str->Option Value},(∀v,(x,v)∉binds)->bindL kindOf binds m x=m x
 | [],_,_=>rfl
 | (n,v)::r,m,h=>by
  unfold bindL
  rw[rH λw hw=>h w (List.mem_cons_of_mem _ hw)]
  split
  . have:x≠n:=by rintro rfl;exact h v List.mem_cons_self
    simp[this]
  . rfl
theorem rJ{kindOf:Str->Option NameKind}{x:Str}:∀{binds:List (Str×Value)} {m:Str->Option Value},(∀v,(x,v)∉binds)->bindC kindOf binds m x=m x
 | [],_,_=>rfl
 | (n,v)::r,m,h=>by
  unfold bindC
  rw[rJ λw hw=>h w (List.mem_cons_of_mem _ hw)]
  split
  . rfl
  . have:x≠n:=by rintro rfl;exact h v List.mem_cons_self
    simp[this]
theorem rK{kindOf:Str->Option NameKind}{x:Str}{v:Value}:∀{P:List Str} {vs:List Value} {i:Nat} {m:Str->Option Value},P.Nodup->P[i]? = some x->vs[i]? = some v->kindOf x=some .local ->
 bindL kindOf (P.zip vs) m x=some v
 | [],_,_,_,_,h,_,_=>by simp at h
 | _::_,[],_,_,_,_,h,_=>by simp at h
 | p::P,w::vs,0,m,nd,h1,h2,hk=>by
  simp at h1 h2;subst h1;subst h2
  show bindL kindOf ((p,w)::P.zip vs) m p=_
  unfold bindL
  rw[rH λv hv=>(List.nodup_cons.mp nd).1 (List.of_mem_zip hv).1,if_pos hk]
  simp
 | p::P,w::vs,i+1,m,nd,h1,h2,hk=>by
  show bindL kindOf ((p,w)::P.zip vs) m x=_
  unfold bindL
  exact rK (i:=i) (List.nodup_cons.mp nd).2 (by simpa using h1) (by simpa using h2) hk
theorem rL{kindOf:Str->Option NameKind}{x:Str}{v:Value}:∀{P:List Str} {vs:List Value} {i:Nat} {m:Str->Option Value},P.Nodup->P[i]? = some x->vs[i]? = some v->kindOf x≠some .local ->
 bindC kindOf (P.zip vs) m x=some v
 | [],_,_,_,_,h,_,_=>by simp at h
 | _::_,[],_,_,_,_,h,_=>by simp at h
 | p::P,w::vs,0,m,nd,h1,h2,hk=>by
  simp at h1 h2;subst h1;subst h2
  show bindC kindOf ((p,w)::P.zip vs) m p=_
  unfold bindC
  rw[rJ λv hv=>(List.nodup_cons.mp nd).1 (List.of_mem_zip hv).1,if_neg hk]
  simp
 | p::P,w::vs,i+1,m,nd,h1,h2,hk=>by
  show bindC kindOf ((p,w)::P.zip vs) m x=_
  unfold bindC
  exact rL (i:=i) (List.nodup_cons.mp nd).2 (by simpa using h1) (by simpa using h2) hk
def start(N:List Str)(vs:List V):St:=vs.map some++List.replicate (N.length-vs.length) none
def yA(CX:CXT)(P:Program)(w:World)(K:PySem.W.Frag)(mg:Str->Option Value)(base:Heap)(N:List Str)(qual:Str)(scope:Scope)(f:Addr)(cd:Value)(A:Around)(outer:List Env)(s:Shared)(H:Hp)(E:XK):Cx where
 prog:=P
 w:=w
 K:=K
 mg:=mg
 base:=base
 A:=A.deeper (envOfC qual scope s.heap.objs.size f cd)
 N:=N
 s₀:=s
 H₀:=H
 env:=envOfC qual scope s.heap.objs.size f cd
 outer:=outer
 stack:=envOfC qual scope s.heap.objs.size f cd::outer
 ex:=[]
 calm:=true
 fn:=λ_=>true
 pn:=[]
 xe:=λe s'=>wpAny (model P w) (A.deeper (envOfC qual scope s.heap.objs.size f cd)) (leaving (envOfC qual scope s.heap.objs.size f cd) e) (λ_ s''=>CX outer H s E e s'') (λe' s''=>CX outer H s E e' s'') s'
theorem vD{sc:Scope}{n:Nat}{x:Str}(h:sc.names.lookup x=some .cell):∃c,(cellsFrom n sc.names []).lookup x=some c:=by
 have q:=PySem.W.cellsFrom_some sc.names n [] (.inl h)
 exact Option.isSome_iff_exists.mp q
theorem aAY{CX:CXT}{P:Program}{w:World}{K:PySem.W.Frag}{mg:Str->Option Value}{base:Heap}{N ps:List Str}{qual:Str}{scope:Scope}{f:Addr}{cd:Value}{A:Around}{outer:List Env}{s s1:Shared}{H:Hp}{E:XK}{us:List Value}{vs:List V}
 (S:nZ N ps scope) (hd:A.handled=none) (e0:aEF P w K mg base A outer s H) (hl:vs.length=ps.length) (r:bC vs us)
 (x:InCallC s s.heap.objs.size (bindL (envOfC qual scope s.heap.objs.size f cd).kindOf (ps.zip us) λ_=>none) (cellsFrom (s.heap.objs.size+1) scope.names []) (bindC (envOfC qual scope s.heap.objs.size f cd).kindOf (ps.zip us) λ_=>none) s1) :
 Inv (yA CX P w K mg base N qual scope f cd A outer s H E) [] (start N vs) H s1:=by
 have hpl:ps.length<=N.length:=by have:=congrArg List.length S.pre;rw[List.length_take] at this;omega
 obtain⟨h1,tk,rfl,hk⟩:=x.done
 have noA:∀b:Addr,b∉(yA CX P w K mg base N qual scope f cd A outer s H E).ex:=λb z=>absurd (show b∈([]:List Addr) from z) (by simp)
 refine⟨⟨e0.mod,S.kind,rfl,rfl,Nat.le_refl _,λy z c h1 h2=>?_,λy hy=>?_,λy c _ h=>?_,λ_=>hd,Around.frames_deeper e0.frames,.inr ⟨rfl,rfl⟩,λb z=>absurd z (noA b),e0.bs,e0.bsz,λb _ _=>noA b,λb z=>absurd z (noA b),e0.funs,e0.frf⟩,
  rfl,e0.bare,Un.kept hk,⟨_,x.toInCall.ns,λi y v h1 h2 h3=>?_⟩,λy c h=>⟨_,x.cell y c h⟩,e0.hok.fresh (Nat.le_refl _),λy c h=>?_,λp hp=>absurd (show p∈([]:List (Addr×Obj)) from hp) (by simp),e0.hok.kept hk,?_⟩
 . exact name_of_addr x.apart (PySem.mem_of_lookup h1) (PySem.mem_of_lookup h2)
 . have hy:scope.names.lookup y=some .cell\/scope.names.lookup y=some .free:=hy
   rcases hy with hy|hy
   . exact vD hy
   . exact absurd rfl (S.nofree _ (PySem.mem_of_lookup hy))
 . exact Nat.le_of_lt (x.above y c (PySem.mem_of_lookup h))
 . have hi:i<vs.length:=by
    unfold start at h2
    by_cases hi:i<vs.length
    . exact hi
    . rw[List.getElem?_append_right (by simpa using hi)] at h2
      rw[List.getElem?_replicate] at h2
      split at h2 <;> cases h2
   have ha:vs[i]? = some v:=by
    unfold start at h2
    rw[List.getElem?_append_left (by simpa using hi),List.getElem?_map] at h2
    cases e:vs[i]? with
    | none=>rw[e] at h2;cases h2
    | some a=>rw[e] at h2;cases h2;rfl
   obtain⟨u,hu,rv⟩:=r.get ha
   have hp:ps[i]? = some y:=by
    rw[<-S.pre,List.getElem?_take_of_lt (by omega)];exact h1
   have ndP:ps.Nodup:=by rw[<-S.pre];exact S.nd.sublist (List.take_sublist _ _)
   refine⟨u,rv,?_⟩
   rcases S.par y (List.mem_of_getElem? hp) with k|k
   . exact .inl ⟨k,rK ndP hp hu k⟩
   . obtain⟨c,e⟩:=vD (n:=s.heap.objs.size+1) k
     refine .inr ⟨.inl k,c,e,?_⟩
     have q:=x.cell y c e
     rw[rL ndP hp hu (by show scope.names.lookup y≠_;rw[k];decide)] at q
     exact q
 . exact e0.hok.fresh (Nat.le_of_lt (x.above y c (PySem.mem_of_lookup h)))
 . unfold start
   show _=N.length
   rw[List.length_append,List.length_map,List.length_replicate]
   omega
theorem aJn{CX:CXT}{P:Program}{w:World}{K:PySem.W.Frag}{mg:Str->Option Value}{base:Heap}{k:Nat}{f:Addr}{name qual:Str}{params:Arguments}{body:List Stmt}{scope:Scope}{dV kV doc pm cdv ct oc:Value}{an od:Option Addr}
 {osl:Array (Option Value)} {N ps:List Str} {sp:Sp} (lk:K.lookup f=some ⟨oc,od,.func (PySem.W.fnOf name qual params body scope dV kV doc pm an cdv ct),osl⟩) (hcd:PySem.W.codeIn K cdv qual=true) (S:nZ N ps scope)
 (len:∀vs H Q E,sp vs H Q E->vs.length=ps.length)
 (hbody:∀(A:Around) (outer:List Env) (s:Shared) (H:Hp) (vs:List V) (Q:VK) (E:XK),kK k (A.deeper (envOfC qual scope s.heap.objs.size f cdv))->sp vs H Q E ->
  ∃t,PSs (yA CX P w K mg base N qual scope f cdv A outer s H E) body t/\t { nx:=λ_ H'=>Q .non H',rt:=Q } (start N vs) H) :
 nQ P w K mg base CX (k+1) f (PySem.W.fnOf name qual params body scope dV kV doc pm an cdv ct) ps sp:=by
 refine⟨len,λA outer s H args us vs Q E hr e0 hb r hsp=>?_⟩
 have hl:=len _ _ _ _ hsp
 have KX:K.In s.heap:=e0.mod.kin.keeps λb o e=>(e0.bs b o e).1
 have lim:s.heap.NoLimit:=e0.mod.nolimit.keeps λb o e=>(e0.bs b o e).1
 have hkind:∀y∈ps.zip us,scope.names.lookup y.1=some .local\/(scope.names.lookup y.1=some .cell/\((cellsFrom (s.heap.objs.size+1) scope.names []).lookup y.1).isSome=true):=λ⟨n,v⟩ hy=>by
  rcases S.par n (List.of_mem_zip hy).1 with q|q
  . exact .inl q
  . exact .inr ⟨q,PySem.W.cellsFrom_some _ _ _ (.inl q)⟩
 refine codeAny_call_function hr.depth (KX _ _ lk) rfl S.co S.gen rfl (PySem.W.codeRec_of KX hcd) (hb _ _ _ _ ?_)
 refine wpAny_newFunctionEnv_cells S.kind hkind λenv he s1 x=>?_
 subst he
 refine⟨lim.keeps x.toInCall.keep,codeAny_func ?_⟩
 obtain⟨t,ht,hq⟩:=hbody A outer s H vs Q E (hr.deeper _) hsp
 have I:Inv (yA CX P w K mg base N qual scope f cdv A outer s H E) [] (start N vs) H s1:=aAY S hr.hd e0 hl r x
 refine wpAny_mono (ht [] s1 (start N vs) H _ I hq) (λfl s' hs=>?_) λe s' hs=>hs
 have fin:∀{σ':St} {H':Hp} {v:V} {u:Value},Inv (yA CX P w K mg base N qual scope f cdv A outer s H E) [] σ' H' s'->bQ v u->Q v H'->CE outer P w H s Q u s':=
  λ{σ' H' v u} J rv q=>⟨v,H',J.os,J.bare,J.base,J.hok,rv,q⟩
 cases fl with
 | ret u=>
  obtain⟨v,σ',H',J,rv,q⟩:=hs
  exact fin J rv q
 | next=>
  obtain⟨σ',H',J,q⟩:=hs
  exact fin (v:=V.non) (u:=Value.none) J rfl q
 | brk=>
  obtain⟨_,_,_,q⟩:=hs
  exact False.elim q
 | cont=>
  obtain⟨_,_,_,q⟩:=hs
  exact False.elim q
end L2
namespace L2
open PySem PySem.Spec PyProof.Rows
section
variable {X:Cx} {x:Str} {p pos:Pos} {e:Expr} {es:List Expr} {t:TA} {id T:String} {r:List V->Hp->VK->Prop}
def tCB(r:List V->Hp->VK->Prop)(t:TA):TE:=λσ H Q=>t σ H λvs H1=>r vs H1 Q
theorem lB(hc:fR X (.builtin id) r)(hg:Gl X x)(hm:X.mg x=none)(hv:bootBuiltins x=some (.builtin id))(ha:PA X (e::es) t)(hn:x ≠ "__name__" := by decide)(hdb:(x==("__debug__" : Str))=false:=by decide)
 (he:starEach (e::es) X.env=(false,eval e X.env)::starEach es X.env:=by rfl) (hpl:(backTo pos (starEach es X.env)).any (·.1)=false:=by rfl):PE X (.Call (.Name x p) (e::es) [] pos) (tCB r t):=by
 intro pins s σ H Q I h
 refine wpAny_Call_Name_kw (fF I hg hm hv ?_ hn hdb)
 exact PyProof.Rows.callWith_builtin1 (thn (ha pos pins s σ H _ I h) λus s1 ⟨vs,H1,I1,r1,q1⟩=>hc pins s1 σ H1 vs us Q I1 r1 q1) he hpl
theorem mM(hc:fR X (.type T) r)(hg:Gl X x)(hm:X.mg x=none)(hv:bootBuiltins x=some (.type T))(ha:PA X (e::es) t)(hn:x ≠ "__name__" := by decide)(hdb:(x==("__debug__" : Str))=false:=by decide)
 (he:starEach (e::es) X.env=(false,eval e X.env)::starEach es X.env:=by rfl) (hpl:(backTo pos (starEach es X.env)).any (·.1)=false:=by rfl):PE X (.Call (.Name x p) (e::es) [] pos) (tCB r t):=by
 intro pins s σ H Q I h
 refine wpAny_Call_Name_kw (fF I hg hm hv ?_ hn hdb)
 exact PyProof.Rows.callWith_type1 (thn (ha pos pins s σ H _ I h) λus s1 ⟨vs,H1,I1,r1,q1⟩=>hc pins s1 σ H1 vs us Q I1 r1 q1) he hpl
end
end L2
namespace HT
open PySem PyProof.Rows
section
open PySem.SeqAt
open PySem.AutoSeq1 (wpAny_loadPart')
open PySem.MeetsSeq PySem.MeetsSeq2 PySem.MeetsSeq3
end
section
variable {prog:Program} {w:World} {A:Around} {E:Value->Shared->Prop} {s:Shared}
theorem cat_tup{t b:Addr}{vs ws:List Value}{Q:Value->Shared->Prop}(ht:IsTup s.heap t vs.toArray)(hb:IsTup s.heap b ws.toArray)(hv:vs≠[])
 (h1:ws=[]->Q (.ref t) s) (h2:ws≠[]->Q (.ref s.heap.objs.size) { s with heap:=s.heap.push { cls:=.type "tuple",data:=.seq (vs++ws).toArray } })
 (hsz:vs.length+ws.length<=sizeLine):wpAny (model prog w) A (binaryOp .Add (.ref t) (.ref b)) Q E s:=by
 obtain⟨⟨cls,dd,data,sl⟩,ho,hc,n,hd⟩:=id ht
 obtain⟨⟨cls2,dd2,data2,sl2⟩,ho2,hc2,n2,hd2⟩:=id hb
 simp only at hc hd hc2 hd2
 subst hc hd hc2 hd2
 have e:vs.toArray++ws.toArray=(vs++ws).toArray:=by simp
 by_cases hw:ws=[]
 . exact concat_meets ⟨_,ho,rfl⟩ ⟨_,ho2,rfl⟩ noFill_tuple_add seq_tuple_add PySem.F.slot_tuple_add PySem.F.entry_tuple_add (PySem.F.args_tuple_add_2 _ _)
    (tuple_addW1 t b vs.toArray ws.toArray n n2 dd dd2 sl sl2 (by simpa using hv) (by simp[hw])) ⟨ho,ho2,h1 hw⟩
 . refine concat_meets ⟨_,ho,rfl⟩ ⟨_,ho2,rfl⟩ noFill_tuple_add seq_tuple_add PySem.F.slot_tuple_add PySem.F.entry_tuple_add (PySem.F.args_tuple_add_2 _ _)
    (tuple_addW2 t b vs.toArray ws.toArray n n2 dd dd2 sl sl2 (by simpa using hv) (by simpa using hw) (by rw[List.size_toArray,List.size_toArray];exact hsz)) ⟨ho,ho2,?_⟩
   rw[e]
   exact h2 hw
def sIx(n d:Nat):Option Int->Nat
 | none=>d
 | some v=>if v<0 then (v+(n:Int)).toNat else min v.toNat n
theorem aGW(n d:Nat)(hd:d<=n)(o:Option Int):sIx n d o<=n:=by
 cases o with
 | none=>exact hd
 | some v=>
  show(if v<0 then (v+(n:Int)).toNat else min v.toNat n)<=n
  by_cases hv:v<0
  . rw[if_pos hv];omega
  . rw[if_neg hv];exact Nat.min_le_right _ _
theorem zZ(v:Int)(n d:Nat):(if v<0 then max (v+(n:Int)) 0 else min v (n:Int))=((sIx n d (some v):Nat):Int):=by
 show(if v<0 then max (v+(n:Int)) 0 else min v (n:Int))=(((if v<0 then (v+(n:Int)).toNat else min v.toNat n):Nat):Int)
 by_cases hv:v<0
 . simp only[if_pos hv];omega
 . simp only[if_neg hv];omega
theorem yB(lo hi:Option Int)(n:Nat):Builtin.Slice.sliceAdjust lo hi 1 (n:Int)=(((sIx n 0 lo:Nat):Int),((sIx n n hi:Nat):Int)):=by
 have h1:¬ ((1:Int)<0):=by omega
 unfold Builtin.Slice.sliceAdjust
 simp only[h1,if_false]
 refine Prod.ext ?_ ?_
 . cases lo with
   | none=>rfl
   | some v=>exact zZ v n 0
 . cases hi with
   | none=>rfl
   | some v=>exact zZ v n n
theorem yC(i j:Nat):Builtin.Slice.slicePlaces (i:Int) (j:Int) 1=j-i:=by
 unfold Builtin.Slice.slicePlaces
 have h1:(1:Int)>0:=by omega
 simp only[h1,if_true,Int.ediv_one]
 split <;> omega
theorem oV{v:Value}{o:Option Int}{Q:Option Int->Shared->Prop}(p:IsPart v o)(h:Q o s):wpAny (model prog w) A (Builtin.Slice.slicePartIndex v) Q E s:=by
 cases p with
 | none=>exact slicePart_none h
 | int i t=>exact slicePart_int h
theorem sliceApplied_gen{sl:Addr}{vl vu:Value}{lo hi:Option Int}{n:Nat}{Q:Int×Int×Nat->Shared->Prop}(hs:s.heap.IsSliceOf sl vl vu .none)(pl:IsPart vl lo)(pu:IsPart vu hi)
 (h:Q (((sIx n 0 lo:Nat):Int),1,sIx n n hi-sIx n 0 lo) s):wpAny (model prog w) A (Builtin.Slice.sliceApplied (.ref sl) (pure (n:Int))) Q E s:=by
 obtain⟨os,hos,hcs,hds⟩:=id hs
 unfold Builtin.Slice.sliceApplied Builtin.Slice.sliceFields
 refine wpAny_bind (wpAny_bind (wpAny_field hos hds (x:=vl) rfl (wpAny_bind (wpAny_field hos hds (x:=vu) rfl (wpAny_bind (wpAny_field hos hds (x:=.none) rfl (wpAny_pure ?_)))))))
 refine wpAny_bind (slicePart_none ?_)
 show wpAny _ _ (if ((1:Int)==0)=true then _ else _) _ _ s
 rw[if_neg (by decide)]
 refine wpAny_bind (oV pl (wpAny_bind (oV pu (wpAny_bind (wpAny_pure ?_)))))
 show wpAny _ _ (match Builtin.Slice.sliceAdjust lo hi 1 (n:Int) with|(lo,hi)=>pure (lo,(1:Int),Builtin.Slice.slicePlaces lo hi 1)) _ _ s
 rw[yB lo hi n]
 show wpAny _ _ (pure (((sIx n 0 lo:Nat):Int),(1:Int),Builtin.Slice.slicePlaces ((sIx n 0 lo:Nat):Int) ((sIx n n hi:Nat):Int) 1)) _ _ s
 rw[yC]
 exact wpAny_pure h
theorem aCq(xs:Array Value)(i k:Nat):((List.range k).filterMap λ(m:Nat)=>xs[((i:Int)+(m:Int)*1).toNat]?).toArray=((xs.toList.drop i).take k).toArray:=by
 have e:(λ(m:Nat)=>xs[((i:Int)+(m:Int)*1).toNat]?)=λm=>xs[i+m]? := by
  funext m
  have:((i:Int)+(m:Int)*1).toNat=i+m:=by omega
  rw[this]
 rw[e]
 have:=pick_run xs i k
 rw[List.filterMap_map] at this
 have e2:((λx=>xs[x]?)∘λx=>i+x)=λm=>xs[i+m]? := rfl
 rw[e2] at this
 rw[this]
theorem getItem_tuple_cut{t sl:Addr}{items:Array Value}{vl vu:Value}{lo hi:Option Int}{Q:Value->Shared->Prop}(ht:IsTup s.heap t items)(hs:s.heap.IsSliceOf sl vl vu .none)(pl:IsPart vl lo)(pu:IsPart vu hi)
 (hw:¬ (sIx items.size 0 lo=0/\sIx items.size items.size hi=items.size))
 (h:Q (.ref s.heap.objs.size) { s with heap:=s.heap.push { cls:=.type "tuple",data:=.seq ((items.toList.drop (sIx items.size 0 lo)).take (sIx items.size items.size hi-sIx items.size 0 lo)).toArray } })
 (hsz:items.size<=sizeLine):wpAny (model prog w) A (getItem (.ref t) (.ref sl)) Q E s:=by
 have htake:sizeOk (.seq ((items.toList.drop (sIx items.size 0 lo)).take (sIx items.size items.size hi-sIx items.size 0 lo)).toArray):=by
  show((items.toList.drop (sIx items.size 0 lo)).take (sIx items.size items.size hi-sIx items.size 0 lo)).toArray.size<=sizeLine
  rw[List.size_toArray,List.length_take,List.length_drop,Array.length_toList]
  omega
 have hj:sIx items.size items.size hi<=items.size:=aGW _ _ (Nat.le_refl _) hi
 obtain⟨os,hos,hcs,hds⟩:=id hs
 have hTs:s.TypeIs (.ref sl) "slice" := ⟨os,hos,hcs⟩
 unfold getItem
 try with_reducible refine wpAny_holding ?_
 first|refine wpAny_bind (wpAny_pure ?_)|skip
 refine wpAny_bind (wpAny_sequenceKey ht.typeIs (by decide) ?_)
 refine wpAny_bind (wpAny_callSpecial?_slot (name:=Str.ofString "__getitem__") ht.typeIs PyProof.Rows.slot_tuple_getitem
  (wpAny_call_entry PyProof.Rows.slot_tuple_getitem ht.typeIs entry_tuple_getitem ?_ (args_tuple_getitem _ _)))
 show wpAny _ _ (Builtin.Tuple.tupleItemsOf (.ref t) >>= _) _ _ s
 refine wpAny_bind (tupleItemsOf_ ht ?_)
 refine wpAny_bind (wpAny_typeOf hTs ?_)
 rw[if_pos (by decide)]
 refine wpAny_bind (sliceApplied_gen hs pl pu ?_)
 have hno:¬ ((((sIx items.size 0 lo:Nat):Int)==0&&(1:Int)==1&&(sIx items.size items.size hi-sIx items.size 0 lo)==items.size)=true):=by
  intro q
  rw[Bool.and_eq_true,Bool.and_eq_true] at q
  have q1:((sIx items.size 0 lo:Nat):Int)=0:=eq_of_beq q.1.1
  have q2:sIx items.size items.size hi-sIx items.size 0 lo=items.size:=eq_of_beq q.2
  exact hw ⟨by omega,by omega⟩
 show wpAny _ _ (if (((sIx items.size 0 lo:Nat):Int)==0&&(1:Int)==1&&(sIx items.size items.size hi-sIx items.size 0 lo)==items.size)=true then _ else _) _ _ s
 rw[if_neg hno,aCq]
 first
  | exact wpAny_bind (m:=Builtin.Tuple.tupleExact _) (wpAny_newObj_type (wpAny_pure ⟨_,rfl,wpAny_pure h⟩) htake)
  | exact wpAny_bind (m:=Builtin.Tuple.tupleExact _) (wpAny_newObj_type (wpAny_bind (wpAny_pure (wpAny_pure ⟨_,rfl,wpAny_pure h⟩))) htake)
  | exact wpAny_bind (wpAny_bind (m:=Builtin.Tuple.tupleExact _) (wpAny_newObj_type (wpAny_pure (wpAny_pure ⟨_,rfl,wpAny_pure h⟩)) htake))
  | exact wpAny_bind (wpAny_bind (m:=Builtin.Tuple.tupleExact _) (wpAny_newObj_type (wpAny_pure ⟨_,rfl,wpAny_pure h⟩) htake))
end
end HT
namespace L2
open PySem PySem.Spec PyProof.Rows
abbrev TO:=St->Hp->(Option Int->Hp->Prop)->Prop
def PO(X:Cx)(e:Option Expr)(t:TO):Prop:=
 ∀(pins:List (Addr×Obj)) (s:Shared) (σ:St) (H:Hp) (Q:Option Int->Hp->Prop),Inv X pins σ H s->t σ H Q ->
  wpAny (model X.prog X.w) X.A (evalPart e X.env) (λu s'=>∃o H',Inv X pins σ H' s'/\IsPart u o/\Q o H') X.xe s
def aEH:TO:=λ_ H Q=>Q none H
def aJo(t:TE):TO:=λσ H Q=>t σ H λx H1=>∃i,x=.int i/\Q (some i) H1
section
variable {X:Cx} {e:Expr} {te:TE} {lo hi:Option Expr} {tl th:TO} {pos p2:Pos}
theorem aEI:PO X none aEH:=by
 intro pins s σ H Q I h
 rw[evalPart_none]
 exact wpAny_pure ⟨none,H,I,.none,h⟩
theorem aEJ(h:PE X e te):PO X (some e) (aJo te):=by
 intro pins s σ H Q I hw
 rw[evalPart_some]
 refine thn (h pins s σ H _ I hw) λu s1 ⟨x,H1,I1,r1,q1⟩=>?_
 obtain⟨i,rfl,q⟩:=q1
 obtain⟨t,rfl⟩:=r1
 exact⟨some i,H1,I1,.int i t,q⟩
def SlR(X:Cx)(r:V->Option Int->Option Int->Hp->VK->Prop):Prop:=
 ∀(pins:List (Addr×Obj)) (s:Shared) (σ:St) (H:Hp) (x:V) (v vl vu:Value) (lo hi:Option Int) (sl:Addr) (Q:VK),Inv X pins σ H s->bQ x v->s.heap.IsSliceOf sl vl vu .none->IsPart vl lo->IsPart vu hi->r x lo hi H Q ->
  ∃T id,typeLookup (.type T) "__getitem__" = pure (some (.builtin id))/\s.TypeIs v T/\wpAny (model X.prog X.w) X.A (getItem v (.ref sl)) (EP X pins σ Q) X.xe s
theorem SlR.or{r r':V->Option Int->Option Int->Hp->VK->Prop}(h:SlR X r)(h':SlR X r'):SlR X (λx lo hi H Q=>r x lo hi H Q\/r' x lo hi H Q):=by
 intro pins s σ H x v vl vu lo hi sl Q I rx hs pl pu q
 rcases q with q|q
 . exact h pins s σ H x v vl vu lo hi sl Q I rx hs pl pu q
 . exact h' pins s σ H x v vl vu lo hi sl Q I rx hs pl pu q
def tSl(r:V->Option Int->Option Int->Hp->VK->Prop)(te:TE)(tl th:TO):TE:=λσ H Q=>te σ H λx H1=>tl σ H1 λl H2=>th σ H2 λu H3=>r x l u H3 Q
theorem aCr{r:V->Option Int->Option Int->Hp->VK->Prop}(hr:SlR X r)(he:PE X e te)(hl:PO X lo tl)(hu:PO X hi th):PE X (.Subscript e (.Slice lo hi none p2) pos) (tSl r te tl th):=by
 intro pins s σ H Q I h
 refine Subscript_ (thn (he pins s σ H _ I h) λv s1 ⟨x,H1,I1,r1,q1⟩=>?_)
 refine wpAny_Slice (thn (hl pins s1 σ H1 _ I1 q1) λvl s2 ⟨l,H2,I2,pl,q2⟩=>thn (hu pins s2 σ H2 _ I2 q2) λvu s3 ⟨u,H3,I3,pu,q3⟩=>?_)
 rw[evalPart_none]
 refine wpAny_pure ?_
 have I4:Inv X pins σ H3 { s3 with heap:=s3.heap.push { cls:=.type "slice",data:=.fields #[vl,vu,.none] } }:=I3.kept (t':=s3.toks) λb ob q=>Heap.get?_push_of_some _ q
 obtain⟨T,id,hT,ht,hg⟩:=hr pins { s3 with heap:=s3.heap.push { cls:=.type "slice",data:=.fields #[vl,vu,.none] } } σ H3 x v vl vu l u s3.heap.objs.size Q I4 r1 (Heap.IsSliceOf.new ..) pl pu q3
 show wpAny (model X.prog X.w) X.A (subscriptTail e (.Slice lo hi none p2) v (.ref s3.heap.objs.size)) (EP X pins σ Q) X.xe { s3 with heap:=s3.heap.push { cls:=.type "slice",data:=.fields #[vl,vu,.none] } }
 exact tail_any (ops:=[.ref s3.heap.objs.size,v]) ht hT hg (by with_unfolding_all rfl)
def vE(xs:List V)(lo hi:Option Int):List V:=(xs.drop (HT.sIx xs.length 0 lo)).take (HT.sIx xs.length xs.length hi-HT.sIx xs.length 0 lo)
theorem nK(xs:List V)(lo hi:Option Int):(vE xs lo hi).length<=xs.length:=by
 unfold vE
 rw[List.length_take,List.length_drop]
 omega
def aCs(K:PySem.W.Frag):V->Option Int->Option Int->Hp->VK->Prop:=λx lo hi H Q=>∃a xs,x=.ref a/\SqT K H a xs /\
 ¬ (HT.sIx xs.length 0 lo=0/\HT.sIx xs.length xs.length hi=xs.length)/\∀p,H p=none->Q (.ref p) (upd H p (.tup (vE xs lo hi)))
theorem aGX:SlR X (aCs X.K):=by
 intro pins s σ H x v vl vu lo hi sl Q I rx hs pl pu h
 obtain⟨a,xs,rfl,hx,hw,q⟩:=h
 cases rx
 obtain⟨its,r,ht,hz⟩:=I.tuple hx
 have hlen:its.toArray.size=xs.length:=by rw[List.size_toArray];exact r.length.symm
 refine⟨"tuple",_,PyProof.Rows.slot_tuple_getitem.lookup,ht.typeIs,?_⟩
 refine HT.getItem_tuple_cut ht hs pl pu (by rw[hlen];exact hw) ?_ (by rw[hlen];exact hz)
 rw[hlen]
 refine⟨.ref s.heap.objs.size,_,I.laid (t':=s.toks) (o:=.tup (vE xs lo hi)) (λb ob q=>Heap.get?_push_of_some _ q) (Nat.le_refl _) ?_,rfl,q _ (I.hok.fresh (Nat.le_refl _))⟩
 exact⟨Nat.le_trans (nK xs lo hi) hz,_,(r.drop (HT.sIx xs.length 0 lo)).take (HT.sIx xs.length xs.length hi-HT.sIx xs.length 0 lo),IsTup.new _ _⟩
def aJp(K:PySem.W.Frag):R2:=λx y H Q=>∃a b xs ys,x=.ref a/\y=.ref b/\SqT K H a xs/\SqT K H b ys/\xs≠[]/\xs.length+ys.length<=sizeLine /\
 (ys=[]->Q (.ref a) H)/\(ys≠[]->∀p,H p=none->Q (.ref p) (upd H p (.tup (xs++ys))))
theorem bC.nil_iff{xs:List V}{us:List Value}(r:bC xs us):us=[]↔xs=[]:=by
 cases r with
 | nil=>simp
 | cons _ _=>simp
theorem aEK:OpR X (binaryOp .Add) (aJp X.K):=by
 intro pins s σ H x y v u Q I rx ry h
 obtain⟨a,b,xs,ys,rfl,rfl,ha,hb,hx,hz,q1,q2⟩:=h
 cases rx
 cases ry
 obtain⟨its,r1,p1,_⟩:=I.tuple ha
 obtain⟨its2,r2,p2,_⟩:=I.tuple hb
 refine HT.cat_tup p1 p2 (λz=>hx (r1.nil_iff.mp z)) (λz=>⟨.ref a,H,I,rfl,q1 (r2.nil_iff.mp z)⟩) (λz=>?_) (by rw[<-r1.length,<-r2.length];exact hz)
 refine⟨.ref s.heap.objs.size,_,I.laid (t':=s.toks) (o:=.tup (xs++ys)) (λb ob q=>Heap.get?_push_of_some _ q) (Nat.le_refl _) ?_,rfl,q2 (λw=>z (r2.nil_iff.mpr w)) _ (I.hok.fresh (Nat.le_refl _))⟩
 exact⟨by rw[List.length_append];exact hz,_,r1.append r2,IsTup.new _ _⟩
end
end L2
namespace L2
open PySem PySem.Spec PyProof.Rows
def ixN(n:Nat)(i:Int):Option Nat:=if 0<=i then (if i<n then some i.toNat else none) else if -(n:Int)<=i then some (i+n).toNat else none
def atI{α:Type}(xs:List α)(i:Int):Option α:=(ixN xs.length i).bind λj=>xs[j]?
theorem aAa{n:Nat}{i:Int}{j:Nat}(h:ixN n i=some j):seqIndex? i n=some j/\j<n/\-(n:Int)<=i/\i<n:=by
 unfold ixN at h
 by_cases h0:0<=i
 . rw[if_pos h0] at h
   by_cases h1:i<n
   . rw[if_pos h1] at h
     have e:i.toNat=j:=Option.some.inj h
     exact⟨by rw[seqIndex_of h0 h1,e],by omega,by omega,h1⟩
   . rw[if_neg h1] at h;cases h
 . rw[if_neg h0] at h
   by_cases h1:-(n:Int)<=i
   . rw[if_pos h1] at h
     have e:(i+n).toNat=j:=Option.some.inj h
     exact⟨by rw[seqIndex_neg (by omega) h1,e],by omega,h1,by omega⟩
   . rw[if_neg h1] at h;cases h
theorem sY{α:Type}{xs:List α}{i:Int}{v:α}(h:atI xs i=some v):∃j,seqIndex? i xs.length=some j/\xs[j]? = some v/\j<xs.length/\-(xs.length:Int)<=i/\i<xs.length:=by
 unfold atI at h
 cases e:ixN xs.length i with
 | none=>rw[e] at h;cases h
 | some j=>
  rw[e] at h
  obtain⟨h1,h2,h3,h4⟩:=aAa e
  exact⟨j,h1,h,h2,h3,h4⟩
def aAb(b:Expr):Prop:=∀o i,subscripted b false o i=operate [o,i] (getItem o i)
def IxR(X:Cx)(r:R2):Prop:=
 ∀(value slice:Expr) (pins:List (Addr×Obj)) (s:Shared) (σ:St) (H:Hp) (x y:V) (v u:Value) (Q:VK),Inv X pins σ H s->bQ x v->bQ y u->r x y H Q ->
  subscripted slice false v u=operate [v,u] (getItem v u)->wpAny (model X.prog X.w) X.A (subscriptTail value slice v u) (EP X pins σ Q) X.xe s
def MtR(X:Cx)(id:String)(r:V->List V->Hp->VK->Prop):Prop:=
 ∀(pins:List (Addr×Obj)) (s:Shared) (σ:St) (H:Hp) (x:V) (xs:List V) (v:Value) (us:List Value) (Q:VK),Inv X pins σ H s->bQ x v->bC xs us->r x xs H Q ->
  wpAny (model X.prog X.w) X.A (call (.builtin id) (v::us)) (EP X pins σ Q) X.xe s
section
variable {X:Cx} {a b:Expr} {ta tb:TE} {pos:Pos}
theorem IxR.or{r r':R2}(h:IxR X r)(h':IxR X r'):IxR X (λx y H Q=>r x y H Q\/r' x y H Q):=by
 intro value slice pins s σ H x y v u Q I rx ry q hs
 rcases q with q|q
 . exact h value slice pins s σ H x y v u Q I rx ry q hs
 . exact h' value slice pins s σ H x y v u Q I rx ry q hs
theorem aJq{r:R2}(hr:IxR X r)(ha:PE X a ta)(hb:PE X b tb)(hs:aAb b):PE X (.Subscript a b pos) (tOp r ta tb):=by
 intro pins s σ H Q I h
 exact Subscript_ (aJd ha hb I h λv u s2 x y H2 I2 rx ry q=>hr a b pins s2 σ H2 x y v u Q I2 rx ry q (hs _ _))
def aJr(K:PySem.W.Frag):R2:=λx y H Q=>∃p xs i v,x=.ref p/\y=.int i/\SqL K H p xs/\atI xs i=some v/\Q v H
def aJs(K:PySem.W.Frag):R2:=λx y H Q=>∃p xs i v,x=.ref p/\y=.int i/\SqT K H p xs/\atI xs i=some v/\Q v H
def aJt:R2:=λx y H Q=>∃z i c,x=.str z/\y=.int i/\z.length<=sizeLine/\atI z.cps.toList i=some c/\Q (.str ⟨#[c]⟩) H
theorem aEL:IxR X (aJr X.K):=by
 intro value slice pins s σ H x y v u Q I rx ry h hs
 obtain⟨p,xs,i,z,rfl,rfl,hq,he,q⟩:=h
 cases rx
 obtain⟨t,rfl⟩:=ry
 obtain⟨its,r,pl,hz⟩:=I.list hq
 obtain⟨j,h1,h2,h3,h4,h5⟩:=sY he
 obtain⟨w,ew,rw'⟩:=r.get h2
 have hl:=r.length
 have hn:=kJ
 have fin:EP X pins σ Q w s:=⟨z,H,I,rw',q⟩
 by_cases h0:0<=i
 . have hj:i.toNat=j:=by
    rw[seqIndex_of h0 h5] at h1
    exact Option.some.inj h1
   exact item_listR pl.isList h0 (by omega) (by rw[hj];simpa using ew) fin hs
 . have hj:(i+(its.toArray.size:Int)).toNat=j:=by
    rw[seqIndex_neg (by omega) h4] at h1
    rw[List.size_toArray,<-hl]
    exact Option.some.inj h1
   exact subscriptTail_builtinR (x:=w) pl.isList.typeIs slot_list_getitem.lookup
    (wpAny_getItem_list_neg (Q:=λr s'=>r=w/\EP X pins σ Q r s') pl.isList (by omega) (by rw[List.size_toArray] <;> omega) (by omega) (by rw[hj];simpa using ew) ⟨rfl,fin⟩) hs
theorem aGY:IxR X (aJs X.K):=by
 intro value slice pins s σ H x y v u Q I rx ry h hs
 obtain⟨p,xs,i,z,rfl,rfl,hq,he,q⟩:=h
 cases rx
 obtain⟨t,rfl⟩:=ry
 obtain⟨its,r,pl,hz⟩:=I.tuple hq
 obtain⟨j,h1,h2,h3,h4,h5⟩:=sY he
 obtain⟨w,ew,rw'⟩:=r.get h2
 have hl:=r.length
 have hn:=kJ
 have fin:EP X pins σ Q w s:=⟨z,H,I,rw',q⟩
 exact subscriptTail_builtinR (x:=w) pl.typeIs slot_tuple_getitem.lookup
  (getItem_tuple (j:=j) (Q:=λr s'=>r=w/\EP X pins σ Q r s') pl (by omega) (by omega) (by rw[List.size_toArray,<-hl];exact h1) (by simpa using ew) ⟨rfl,fin⟩) hs
theorem aGZ:IxR X aJt:=by
 intro value slice pins s σ H x y v u Q I rx ry h hs
 obtain⟨z,i,c,rfl,rfl,hz,he,q⟩:=h
 obtain⟨t,rfl⟩:=rx
 obtain⟨t',rfl⟩:=ry
 obtain⟨j,h1,h2,h3,h4,h5⟩:=sY he
 have hl:z.cps.toList.length=z.length:=by simp[Str.length]
 rw[hl] at h1 h4 h5
 have hn:=kJ
 exact tail_any (typeIs_str s z t) slot_str_getitem.lookup (getItem_str (c:=c) (by
  have e1:decide (i < -(2 ^ 63:Int))=false:=decide_eq_false (by omega)
  have e2:decide (i ≥ 2 ^ 63)=false:=decide_eq_false (by omega)
  rw[e1,e2,Bool.or_false]) (by rw[h1];simpa using h2) ⟨.str ⟨#[c]⟩,H,I.tok _,⟨_,rfl⟩,q⟩) hs
def rIx(K:PySem.W.Frag):R2:=λx y H Q=>aJr K x y H Q\/aJs K x y H Q\/aJt x y H Q
theorem aHa:IxR X (rIx X.K):=aEL.or (aGY.or aGZ)
theorem yD(its:List Value)(n j:Nat)(u:Value):Obj.mapSeq (·.setIfInBounds j u) { cls:=.type "list",data:=.seq its.toArray n }={ cls:=.type "list",data:=.seq (its.set j u).toArray n }:=by
 simp[Obj.mapSeq]
theorem Inv.lst{pins:List (Addr×Obj)}{σ:St}{H:Hp}{s:Shared}{p:Addr}{xs:List V}(I:Inv X pins σ H s)(h:H p=some (.lst xs)) :
 ∃(its:List Value) (n:Nat),bC xs its/\s.heap.get? p=some { cls:=.type "list",data:=.seq its.toArray n }/\xs.length<=sizeLine:=by
 obtain⟨z,its,n,r,e⟩:=I.hok p _ h
 exact⟨its,n,r,e,z⟩
theorem Inv.lstUpd{pins:List (Addr×Obj)}{σ:St}{H:Hp}{s:Shared}{p:Addr}{xs ys:List V}{its its':List Value}{n n':Nat}{f:Obj->Obj}(I:Inv X pins σ H s)(h:H p=some (.lst xs))
 (ho:s.heap.get? p=some { cls:=.type "list",data:=.seq its.toArray n }) (hf:f { cls:=.type "list",data:=.seq its.toArray n }={ cls:=.type "list",data:=.seq its'.toArray n' }) (r:bC ys its') (hz:ys.length<=sizeLine) (t:Nat) :
 Inv X pins σ (upd H p (.lst ys)) { s with heap:=s.heap.update p f,toks:=t }:=by
 have e:(s.heap.update p f).get? p=some { cls:=.type "list",data:=.seq its'.toArray n' }:=by
  rw[Heap.get?_update_self f ho (by rw[hf] <;> rfl),hf]
 refine I.write (x:=p) (e:=p) (by rw[h];trivial) (.inl rfl) (λb u hb q=>(Heap.get?_update_other _ _ (Ne.symm hb)).trans q) ⟨_,e⟩ ?_
 exact⟨hz,its',n',r,e⟩
def aJu:V->V->V->Hp->(Hp->Prop)->Prop:=λo i v H Q=>∃p xs k j,o=.ref p/\i=.int k/\H p=some (.lst xs)/\ixN xs.length k=some j/\Q (upd H p (.lst (xs.set j v)))
theorem aCt:aIY X aJu:=by
 intro pins s σ H o i v ov iv u Q I ro ri rv h
 obtain⟨p,xs,k,j,rfl,rfl,hp,hj,q⟩:=h
 cases ro
 obtain⟨t,rfl⟩:=ri
 obtain⟨its,n,r,ho,hz⟩:=I.lst hp
 obtain⟨h1,h2,h3,h4⟩:=aAa hj
 have hl:=r.length
 have hn:=kJ
 have I':Inv X pins σ (upd H p (.lst (xs.set j v))) { s with heap:=s.heap.update p (Obj.mapSeq (·.setIfInBounds j u)) }:=
  I.lstUpd hp ho (yD its n j u) (r.set rv j) (by rw[List.length_set];exact hz) s.toks
 by_cases h0:0<=k
 . have hk:k.toNat=j:=by
    rw[seqIndex_of h0 h4] at h1
    exact Option.some.inj h1
   exact PySem.W.ki_setAt ho h0 (by omega) (by rw[List.size_toArray,<-hl];exact h4) (by rw[hk];exact⟨_,I',q⟩)
 . have hk:(k+(its.toArray.size:Int)).toNat=j:=by
    rw[seqIndex_neg (by omega) h3] at h1
    rw[List.size_toArray,<-hl]
    exact Option.some.inj h1
   exact PySem.W.ki_setBack ho (by omega) (by rw[List.size_toArray,<-hl];exact h3) (by omega) (by rw[hk];exact⟨_,I',q⟩)
theorem sZ(lo hi:Option Int)(n:Nat):(sliceBounds lo hi none n).1=((HT.sIx n 0 lo:Nat):Int)/\(sliceBounds lo hi none n).2.1=((HT.sIx n n hi:Nat):Int)/\(sliceBounds lo hi none n).2.2=1:=by
 refine⟨?_,?_,rfl⟩
 . cases lo with
   | none=>simp[sliceBounds,HT.sIx]
   | some i=>
    simp only[sliceBounds,HT.sIx,Option.getD_none,show(1:Int)>0 by decide,if_true]
    by_cases h:i<0
    . simp only[h,if_true] <;> omega
    . simp only[h,if_false] <;> omega
 . cases hi with
   | none=>simp[sliceBounds,HT.sIx]
   | some i=>
    simp only[sliceBounds,HT.sIx,Option.getD_none,show(1:Int)>0 by decide,if_true]
    by_cases h:i<0
    . simp only[h,if_true] <;> omega
    . simp only[h,if_false] <;> omega
theorem qZ(its:List Value)(lo hi:Option Int):slicePick its.toArray lo hi none=((its.drop (HT.sIx its.length 0 lo)).take (HT.sIx its.length its.length hi-HT.sIx its.length 0 lo)).toArray:=by
 obtain⟨h1,h2,h3⟩:=sZ lo hi its.toArray.size
 unfold slicePick
 rw[h1,h2,h3]
 simp only[sliceRange_one,pick_run,List.size_toArray] <;> rfl
def aCu(K:PySem.W.Frag):V->Option Int->Option Int->Hp->VK->Prop:=λx lo hi H Q=>∃a xs,x=.ref a/\SqL K H a xs/\∀p,H p=none->Q (.ref p) (upd H p (.lst (vE xs lo hi)))
theorem aEM:SlR X (aCu X.K):=by
 intro pins s σ H x v vl vu lo hi sl Q I rx hs pl pu h
 obtain⟨a,xs,rfl,hx,q⟩:=h
 cases rx
 obtain⟨its,r,ht,hz⟩:=I.list hx
 have hlen:=r.length
 refine⟨"list",_,slot_list_getitem.lookup,ht.isList.typeIs,?_⟩
 refine wpAny_getItem_list_slice ht.isList hs pl pu .none (by simp) ?_ (by rw[List.size_toArray] <;> omega)
 rw[qZ,<-hlen]
 refine⟨.ref s.heap.objs.size,_,I.laid (t':=s.toks) (o:=.lst (vE xs lo hi)) (λb ob q=>Heap.get?_push_of_some _ q) (Nat.le_refl _) ?_,rfl,q _ (I.hok.fresh (Nat.le_refl _))⟩
 exact⟨Nat.le_trans (nK xs lo hi) hz,_,0,(r.drop (HT.sIx xs.length 0 lo)).take (HT.sIx xs.length xs.length hi-HT.sIx xs.length 0 lo),Heap.get?_push_size _ rfl⟩
theorem tB:OpR X (compareOp .NotIn) (λx y H Q=>∃i j,x=.str i/\y=.str j/\Q (.bl (!(!(Builtin.Str.occurrences j i 0 j.length 1).isEmpty))) H):=by
 intro pins s σ H x y v u Q I rx ry h
 obtain⟨i,j,rfl,rfl,q⟩:=h
 obtain⟨t,rfl⟩:=rx
 obtain⟨t',rfl⟩:=ry
 exact notIn_str ⟨.bl _,H,I,rfl,q⟩
theorem tD:fR X (.builtin "len") (λxs H Q=>∃p ys,xs=[.ref p]/\(SqL X.K H p ys\/SqT X.K H p ys)/\Q (.int ys.length) H):=by
 intro pins s σ H xs us Q I r h
 obtain⟨p,ys,rfl,hq,q⟩:=h
 obtain⟨u,rfl,rx⟩:=nJ r
 cases rx
 have hn:=kJ
 rcases hq with hq|hq
 . obtain⟨its,r',pl,hz⟩:=I.list hq
   have hlen:=r'.length
   exact Calls.call_len_list pl.isList (by simp only[List.size_toArray] <;> omega) ⟨.int ys.length,H,I.tok _,⟨s.toks+1,by rw[List.size_toArray,hlen]⟩,q⟩
 . obtain⟨its,r',pl,hz⟩:=I.tuple hq
   have hlen:=r'.length
   exact len_tuple pl (by simp only[List.size_toArray] <;> omega) ⟨.int ys.length,H,I.tok _,⟨s.toks+1,by rw[List.size_toArray,hlen]⟩,q⟩
theorem tE:fR X (.builtin "len") (λxs H Q=>∃z,xs=[.str z]/\z.length<=sizeLine/\Q (.int z.length) H):=by
 intro pins s σ H xs us Q I r h
 obtain⟨z,rfl,hz,q⟩:=h
 obtain⟨u,rfl,t,rfl⟩:=nJ r
 have hn:=kJ
 exact len_str (by omega) ⟨.int z.length,H,I.tok _,⟨_,rfl⟩,q⟩
theorem fR.or{f:Value}{r r':List V->Hp->VK->Prop}(h:fR X f r)(h':fR X f r'):fR X f (λxs H Q=>r xs H Q\/r' xs H Q):=by
 intro pins s σ H xs us Q I rs q
 rcases q with q|q
 . exact h pins s σ H xs us Q I rs q
 . exact h' pins s σ H xs us Q I rs q
theorem tF:fR X (.type "list") (λxs H Q=>∃p ys,xs=[.ref p]/\(SqL X.K H p ys\/SqT X.K H p ys)/\∀l,H l=none->Q (.ref l) (upd H l (.lst ys))):=by
 intro pins s σ H xs us Q I r h
 obtain⟨p,ys,rfl,hq,q⟩:=h
 obtain⟨u,rfl,rx⟩:=nJ r
 cases rx
 have fin:∀(its:List Value),bC ys its->ys.length<=sizeLine->∀(h':Heap) (c':Nat),(∀b o',s.heap.get? b=some o'->h'.get? b=some o') ->
  h'.get? s.heap.objs.size=some { cls:=.type "list",dict:=none,data:=.seq its.toArray c',slots:=#[] }->EP X pins σ Q (.ref s.heap.objs.size) { s with heap:=h' }:=λits r' hz h' c' kp e=>
  ⟨.ref s.heap.objs.size,_,I.laid (t':=s.toks) kp (Nat.le_refl _) (show fC X.prog X.w _ h' _ (.lst ys) from⟨hz,its,c',r',e⟩),rfl,q _ (I.hok.fresh (Nat.le_refl _))⟩
 rcases hq with hq|hq
 . obtain⟨its,r',pl,hz⟩:=I.list hq
   have hlen:=r'.length
   obtain⟨o,ho,hc,n,hd⟩:=pl.isList
   exact call_list_seq p (.inl rfl) ho hc hd (λh' c' kp e=>fin its r' hz h' c' kp e) (by simp only[List.size_toArray] <;> omega)
 . obtain⟨its,r',pl,hz⟩:=I.tuple hq
   have hlen:=r'.length
   obtain⟨o,ho,hc,n,hd⟩:=pl
   exact call_list_seq p (.inr rfl) ho hc hd (λh' c' kp e=>fin its r' hz h' c' kp e) (by simp only[List.size_toArray] <;> omega)
theorem rA:fR X (.type "tuple") (λxs H Q=>∃p ys,xs=[.ref p]/\((SqL X.K H p ys/\∀l,H l=none->Q (.ref l) (upd H l (.tup ys)))\/(SqT X.K H p ys/\Q (.ref p) H))):=by
 intro pins s σ H xs us Q I r h
 obtain⟨p,ys,rfl,h⟩:=h
 obtain⟨u,rfl,rx⟩:=nJ r
 cases rx
 rcases h with⟨hq,q⟩|⟨hq,q⟩
 . obtain⟨its,r',pl,hz⟩:=I.list hq
   have hlen:=r'.length
   refine call_tuple_list pl.isList (λh' kp=>?_) (by simp only[List.size_toArray] <;> omega)
   have I1:Inv X pins σ H { s with heap:=h' }:=I.kept (t':=s.toks) kp
   have I2:Inv X pins σ (upd H h'.objs.size (.tup ys)) { s with heap:=h'.push { cls:=.type "tuple",data:=.seq its.toArray } }:=
    I1.laid (t':=s.toks) (λb o e=>Heap.get?_push_of_some _ e) (Nat.le_refl _) (show fC X.prog X.w _ _ _ (.tup ys) from⟨hz,its,r',IsTup.new _ _⟩)
   exact⟨.ref h'.objs.size,_,I2,rfl,q _ (I1.hok.fresh (Nat.le_refl _))⟩
 . obtain⟨its,r',pl,hz⟩:=I.tuple hq
   exact call_tuple_same pl ⟨.ref p,H,I,rfl,q⟩
def tyV(K:PySem.W.Frag)(T:String)(x:V)(H:Hp):Prop:=match x with
 | .str _=>T = "str"
 | .int _=>T = "int"
 | .ref p=>(T = "list" /\ ∃xs,SqL K H p xs)\/(T = "tuple" /\ ∃o,K.lookup p=some o/\o.cls=.type "tuple" /\ o.dict=none) \/
  (T = "dict" /\ ((∃kvs,H p=some (.dK kvs))\/∃kvs,H p=some (.dT kvs)))\/(T = "set" /\ ∃S n,H p=some (.set S n))
 | _=>False
theorem aHb{pins:List (Addr×Obj)}{σ:St}{H:Hp}{s:Shared}{T:String}{x:V}{v:Value}(I:Inv X pins σ H s)(r:bQ x v)(ty:tyV X.K T x H) :
 s.TypeIs v T/\∀a,v=.ref a->∃ob,s.heap.get? a=some ob/\ob.dict=none:=by
 cases x with
 | str z=>
  obtain⟨t,rfl⟩:=r
  cases(show T = "str" from ty)
  exact⟨typeIs_str s z t,λ_ e=>nomatch e⟩
 | int i=>
  obtain⟨t,rfl⟩:=r
  cases(show T = "int" from ty)
  exact⟨typeIs_int s i t,λ_ e=>nomatch e⟩
 | ref p=>
  cases r
  rcases ty with⟨rfl,xs,hq⟩|⟨rfl,o,hk,hc,hd⟩|⟨rfl,hk⟩|⟨rfl,S,n,hk⟩
  . obtain⟨its,_,pl,_⟩:=I.list hq
    refine⟨pl.isList.typeIs,λa e=>?_⟩
    cases e
    obtain⟨o,n,e,c,hd,_⟩:=pl
    exact⟨o,e,hd⟩
  . refine⟨⟨o,I.kIn p o hk,hc⟩,λa e=>?_⟩
    cases e
    exact⟨o,I.kIn _ o hk,hd⟩
  . have z:∃o,s.heap.get? p=some o/\o.ExactDict:=by
     rcases hk with⟨kvs,hk⟩|⟨kvs,hk⟩
     . obtain⟨_,_,_,_,o,_,_,e,ex,_⟩:=I.hok p _ hk
       exact⟨o,e,ex⟩
     . obtain⟨_,_,_,_,o,_,_,e,ex,_⟩:=I.hok p _ hk
       exact⟨o,e,ex⟩
    obtain⟨o,e,ex⟩:=z
    refine⟨⟨o,e,ex.1⟩,λa e2=>?_⟩
    cases e2
    exact⟨o,e,ex.2.1⟩
  . obtain⟨o,_,_,_,e,ex,_⟩:=I.hok p _ hk
    refine⟨⟨o,e,ex.1⟩,λa e2=>?_⟩
    cases e2
    exact⟨o,e,ex.2.1⟩
 | _=>exact False.elim ty
def tBM(K:PySem.W.Frag)(T:String)(r:V->List V->Hp->VK->Prop)(to:TE)(t:TA):TE:=λσ H Q=>to σ H λx H1=>tyV K T x H1/\t σ H1 λxs H2=>r x xs H2 Q
variable {o e:Expr} {es:List Expr} {to:TE} {t:TA} {name:Str} {apos cpos:Pos} {T id:String} {r:V->List V->Hp->VK->Prop}
theorem aFT(pa:PlainAttrs T)(slot:Slot T name id)(hty:typeOf (.builtin id)=pure (.type "method_descriptor"))(hm:MtR X id r)(ho:PE X o to)(ha:PA X (e::es) t)
 (hbase:attributeBase o name X.env (eval o X.env)=eval o X.env:=by rfl)
 (hfew:((backTo cpos (starEach (e::es) X.env)).all (λx=>!x.1)&&(backToKw cpos (keywordEach [] X.env)).all (λx=>x.1.isSome)
  && decide ((e::es).length+([]:List Keyword).length+(if ([]:List Keyword).isEmpty then 0 else 1)<30))=true:=by rfl)
 (hline:(apos.endLine==cpos.line)=true:=by rfl) (hs:starEach (e::es) X.env=(false,eval e X.env)::starEach es X.env:=by rfl) (hplain:(backTo cpos (starEach es X.env)).any (·.1)=false:=by rfl) :
 PE X (.Call (.Attribute o name apos) (e::es) [] cpos) (tBM X.K T r to t):=by
 intro pins s σ H Q I h
 refine wpAny_Call_method_late hbase hfew hline rfl (thn (ho pins s σ H _ I h) λv s1 ⟨x,H1,I1,r1,ty,q1⟩=>?_)
 obtain⟨h1,h2⟩:=aHb I1 r1 ty
 refine⟨T,id,pa,slot,hty,h1,h2,?_⟩
 have hA:=ha cpos pins s1 σ H1 _ I1 q1
 rw[hs] at hA ⊢
 refine Calls.callWith_builtin (by show(false||(backTo cpos (starEach es X.env)).any (·.1))=false;rw[hplain] <;> rfl) (Calls.evalArgs_plain ?_)
 exact thn hA λus s2 ⟨vs,H2,I2,r2,q2⟩=>hm pins s2 σ H2 x vs v us Q I2 r1 r2 q2
end
end L2
namespace L2
open PySem PySem.Spec PyProof.Rows
def MtM(X:Cx)(id:String)(r:V->List V->Hp->VK->Prop):Prop:=
 ∀(pins:List (Addr×Obj)) (s:Shared) (σ:St) (H:Hp) (x:V) (xs:List V) (v:Value) (us:List Value) (Q:VK),Inv X pins σ H s->bQ x v->bC xs us->r x xs H Q ->
  wpAny (model X.prog X.w) X.A (call (.builtin id) (v::us)) (EP X pins σ Q) X.xe s
theorem bC.one:∀{x:V} {us:List Value},bC [x] us->∃u,us=[u]/\bQ x u:=by
 intro x us h
 cases h with|cons r t=>cases t;exact⟨_,rfl,r⟩
theorem bC.zero:∀{us:List Value},bC [] us->us=[]
 | _,.nil=>rfl
theorem bC.rep{xs:List V}{us:List Value}(h:bC xs us):∀k:Nat,bC (List.replicate k xs).flatten (List.replicate k us).flatten
 | 0=>.nil
 | k+1=>by
  rw[List.replicate_succ,List.replicate_succ,List.flatten_cons,List.flatten_cons]
  exact bC.append h (bC.rep h k)
theorem rM(its:List Value):∀(k:Nat) (acc:List Value),
 List.foldl (λx1 x2=>x1++x2) acc.toArray (List.replicate k its.toArray)=(acc++(List.replicate k its).flatten).toArray
 | 0,acc=>by simp
 | k+1,acc=>by
  have e:acc.toArray++its.toArray=(acc++its).toArray:=by simp
  have e2:(acc++its)++(List.replicate k its).flatten=acc++(List.replicate (k+1) its).flatten:=by
   rw[List.replicate_succ,List.flatten_cons,List.append_assoc]
  rw[<-e2,<-rM its k (acc++its),<-e,List.replicate_succ,List.foldl_cons]
section
variable {X:Cx} {pins:List (Addr×Obj)} {σ:St} {H:Hp} {s:Shared} {l b:Addr} {xs ys zs:List V}
theorem Inv.lset{its its':List Value}{n:Nat}{f:Array Value->Array Value}{t':Nat}(I:Inv X pins σ H s)(hH:H l=some (.lst xs))
 (e:s.heap.get? l=some { cls:=.type "list",data:=.seq its.toArray n }) (hf:f its.toArray=its'.toArray) (hv:bC ys its') (hz:ys.length<=sizeLine) :
 Inv X pins σ (upd H l (.lst ys)) { s with heap:=s.heap.update l (Obj.mapSeq f),toks:=t' }:=by
 have q:=PySem.IsL.update e f
 rw[hf] at q
 refine I.write (x:=l) (e:=l) (by rw[hH];exact trivial) (.inl rfl) (λb' u hb hu=>(Heap.get?_update_other s.heap (Obj.mapSeq f) (Ne.symm hb)).trans hu) ⟨_,q⟩ ?_
 exact⟨hz,its',_,hv,q⟩
theorem Inv.lnew{its:List Value}{t':Nat}(I:Inv X pins σ H s)(hv:bC ys its)(hz:ys.length<=sizeLine) :
 Inv X pins σ (upd H s.heap.objs.size (.lst ys)) { s with heap:=s.heap.push { cls:=.type "list",data:=.seq its.toArray },toks:=t' }:=
 I.laid (λ_ _ q=>Heap.get?_push_of_some _ q) (Nat.le_refl _) ⟨hz,its,0,hv,Heap.get?_push_size _ rfl⟩
theorem Inv.fresh(I:Inv X pins σ H s):H s.heap.objs.size=none:=I.hok.fresh (Nat.le_refl _)
theorem Inv.lstM(I:Inv X pins σ H s)(hH:H l=some (.lst xs)):xs.length<=sizeLine/\∃(its:List Value) (n:Nat),bC xs its/\xs.length=its.length/\s.heap.get? l=some { cls:=.type "list",data:=.seq its.toArray n }:=by
 obtain⟨z,its,n,r,e⟩:=I.hok l _ hH
 exact⟨z,its,n,r,r.length,e⟩
theorem vF{n:Nat}(h:n<=sizeLine):Builtin.List.listTooLong n=false:=by
 unfold Builtin.List.listTooLong
 exact decide_eq_false (by omega)
end
section
variable {X:Cx}
def aEN:V->List V->Hp->VK->Prop:=λx vs H Q=>∃l xs y,x=.ref l/\vs=[y]/\H l=some (.lst xs)/\xs.length<sizeLine/\Q .non (upd H l (.lst (xs++[y])))
theorem aAZ:MtM X "list.append" aEN:=by
 intro pins s σ H x vs v us Q I rx rv h
 obtain⟨l,xs,y,rfl,rfl,hH,hz,q⟩:=h
 cases rx
 obtain⟨u,rfl,ru⟩:=rv.one
 obtain⟨z,its,n,r,hl,e⟩:=I.lstM hH
 refine call_meets F.slot_list_append ⟨_,e,rfl⟩ F.entry_list_append (F.args_list_append_2 _ _) (PySem.list_append l its.toArray n u (by rw[List.size_toArray];omega)) ⟨e,?_⟩
 refine⟨.non,_,I.lset (its':=its++[u]) hH e (by simp) (r.append (.cons ru .nil)) ?_,rfl,q⟩
 rw[List.length_append,List.length_singleton]
 omega
def aEO:V->List V->Hp->VK->Prop:=λx vs H Q=>∃l b xs zs,x=.ref l/\vs=[.ref b]/\H l=some (.lst xs)/\H b=some (.lst zs)/\xs.length+zs.length<=sizeLine/\Q .non (upd H l (.lst (xs++zs)))
theorem aBa:MtM X "list.extend" aEO:=by
 intro pins s σ H x vs v us Q I rx rv h
 obtain⟨l,b,xs,zs,rfl,rfl,hH,hB,hz,q⟩:=h
 cases rx
 obtain⟨u,rfl,ru⟩:=rv.one
 cases ru
 obtain⟨z,its,n,r,hl,e⟩:=I.lstM hH
 obtain⟨z2,its2,n2,r2,hl2,e2⟩:=I.lstM hB
 have hsz:its.toArray.size+its2.toArray.size<=sizeLine:=by rw[List.size_toArray,List.size_toArray];omega
 have hlong:¬ (!its.toArray.isEmpty&&Builtin.List.listTooLong (its.toArray.size+its2.toArray.size))=true:=by
  rw[vF hsz,Bool.and_false]
  exact Bool.false_ne_true
 refine call_meets F.slot_list_extend ⟨_,e,rfl⟩ F.entry_list_extend (F.args_list_extend_2 _ _)
  (AutoSeq1.list_extend_list_list_0 l its.toArray n b its2.toArray n2 hlong (by rw[List.size_toArray];omega) (by omega)) ⟨e,e2,?_⟩
 refine⟨.non,_,I.lset (its':=its++its2) hH e (by simp) (r.append r2) ?_,rfl,q⟩
 rw[List.length_append]
 omega
def aLY:R2:=λx y H Q=>∃l k xs,x=.ref l/\y=.int k/\H l=some (.lst xs)/\-(2 ^ 63)<=k/\k<2 ^ 63/\xs.length*k.toNat<=sizeLine /\
 ∀p,H p=none->Q (.ref p) (upd H p (.lst (List.replicate k.toNat xs).flatten))
theorem aEP{α:Type}(xs:List α)(k:Nat):(List.replicate k xs).flatten.length=k*xs.length:=by
 induction k with
 | zero=>simp
 | succ k ih=>rw[List.replicate_succ,List.flatten_cons,List.length_append,ih,Nat.succ_mul,Nat.add_comm]
theorem aHc:OpR X (binaryOp .Mult) aLY:=by
 intro pins s σ H x y v u Q I rx ry h
 obtain⟨l,k,xs,rfl,rfl,hH,h1,h2,hz,q⟩:=h
 cases rx
 obtain⟨t,rfl⟩:=ry
 obtain⟨z,its,n,r,hl,e⟩:=I.lstM hH
 have hlen:its.toArray.size*k.toNat<=sizeLine:=by rw[List.size_toArray,<-hl];exact hz
 have hcap:¬ its.toArray.size*k.toNat>(2 ^ 63-1) / 8:=by
  have:(sizeLine:Nat)<=(2 ^ 63-1) / 8:=by decide
  omega
 have hfit:¬ (!Builtin.List.listFitsIndex k)=true:=by
  rw[fitsIndex_both h1 h2]
  exact Bool.false_ne_true
 have hlong:¬ Builtin.List.listTooLong (its.toArray.size*k.toNat)=true:=by
  rw[vF hlen]
  exact Bool.false_ne_true
 have hnew:List.foldl (λx1 x2=>x1++x2) #[] (List.replicate (if its.toArray.isEmpty=true then 0 else k.toNat) its.toArray)=(List.replicate k.toNat its).flatten.toArray:=by
  have f0:∀m:Nat,List.foldl (λx1 x2=>x1++x2) #[] (List.replicate m its.toArray)=(List.replicate m its).flatten.toArray:=λm=>by
   have:=rM its m []
   rw[List.nil_append] at this
   exact this
  rw[f0]
  cases its with
  | nil=>simp
  | cons a r'=>rw[if_neg (by simp)]
 refine wpAny_binaryOp_repeat_ref (T:= "list") (U:= "int") (by decide) ⟨_,e,rfl⟩ (λs'=>typeIs_int s' k t) noFill_list_mul F.fills_int_mul F.slot_int_rmul repeat_list F.slot_int_index.lookup
  (call_meets F.slot_int_rmul (typeIs_int s k t) F.entry_int_rmul (F.args_int_rmul_2 _ _) (int___rmul___int_list k t l its.toArray n)
   ⟨e,rfl,⟨_,e,rfl⟩,call_meets F.slot_list_mul ⟨_,e,rfl⟩ F.entry_list_mul (F.args_list_mul_2 _ _) (AutoListH.list___mul___list_int_3 l its.toArray n k t hfit hcap hlong) ⟨e,?_⟩⟩)
 rw[hnew]
 exact⟨.ref _,_,I.lnew (t':=s.toks) (r.rep k.toNat) (by rw[aEP,Nat.mul_comm];exact hz),rfl,q _ I.fresh⟩
end
section
variable {prog:Program} {w:World} {A:Around} {E:Value->Shared->Prop} {s:Shared}
end
section
variable {X:Cx}
end
end L2
namespace Att
open PySem PySem.W PySem.Calls PyProof.Rows
theorem nR{P:Params}{h:Heap}:∀(ns:List Int) (vs:List Value),WellAll P h vs (ns.map WData.int)->IntsAre vs ns:=by
 intro ns
 induction ns with
 | nil=>
  intro vs w
  rw[List.map_nil] at w
  cases w
  exact .nil
 | cons n ns ih=>
  intro vs w
  rw[List.map_cons] at w
  cases w with
  | cons a b=>
   cases a
   exact .cons _ _ (ih _ b)
theorem aBb{l:OpenLaw}{n:Nat}(hn:l.most=some n){P:Params}{h:Heap}{args:List WData}{vals:List Value}
 (hpre:l.row.toRowW.claim.pre args=true) (hwl:WellAll P h vals args) :
 ∃a vs ns,vals=[Value.ref a]/\args=[WData.list (ns.map WData.int)]/\h.get? a=some { cls:=.type "list",data:=.seq vs.toArray }/\IntsAre vs ns/\ns.length<=n:=by
 have hsh:WShape.hasAll [] args [.list .int]=true:=(pre_splitW hpre).1
 have hc:l.pre.holds [] { args:=args }=true:=(pre_splitW hpre).2
 obtain⟨d,r,rfl,h1,h2⟩:=hasAllW_cons hsh
 obtain rfl:=hasAllW_nil h2
 obtain⟨xs,rfl,h3⟩:=hasW_list h1
 obtain⟨ns,rfl⟩:=items_int h3
 have hlen:ns.length<=n:=by
  unfold OpenLaw.pre at hc
  have h4:(WTm.not (.lt (.lit (.int (n:Int))) (.len (.arg 0)))).holds [] { args:=[.list (ns.map .int)] }=true:=by
   have h4:=(holds_andW hc).1
   rw[hn] at h4
   exact h4
  have h5:=condW_of h4 (w_not (w_lt w_lit (w_len_list (w_arg rfl))))
  rw[List.length_map] at h5
  refine Nat.le_of_not_lt λq=>?_
  have q':(n:Int)<((ns.length:Nat):Int):=by omega
  first
   | (rw[decide_eq_true q'] at h5;exact absurd h5 (by decide))
   | (simp at h5;omega)
 cases hwl with
 | cons w1 w2=>
  cases w2
  cases w1 with
  | list ho hall=>exact⟨_,_,ns,rfl,rfl,ho,nR ns _ hall,hlen⟩
theorem aBc(l:OpenLaw)(args:List WData):l.row.toRowW.claim.post args (.bool true) args=true:=
 postW_of (r:=l.row.toRowW) (X:=(true==true))
  (show WShape.has [] (.bool true) .bool=true by first|rfl|decide|simp[WShape.has,WShape.arms,WShape.armsAll])
  (show(WTm.eq .res (.lit (.bool true))).value [] { args:=args,res:=some (.bool true),after:=args }=some (.bool (true==true)) from w_eq_bool (w_res rfl) w_lit) rfl
theorem attach_call{l:OpenLaw}{n:Nat}{q:Program}{loose:List Str}{XP:(Str->Option Value)->Heap->Prop}{YP:World->Heap->Prop}{d:DefRec}
 (hn:l.most=some n) (hdf:d.params.defaults=[])
 (call:∀(w:World) (s₀ s₁:Shared) (mg mb:Str->Option Value) (fa:Addr) (o:Obj) (pm cd doc:Value) (a:Addr) (vs:List Value) (ns:List Int),
  Ground q loose [] XP w s₀ mg mb s₁.heap->YP w s₁.heap ->
  s₁.heap.get? fa=some o->o.data=.func (docDef d.name d.params d.body d.scope pm cd doc)->s₁.heap.CodeRec cd d.name->mg d.name=some (.ref fa) ->
  s₁.heap.get? a=some { cls:=.type "list",data:=.seq vs.toArray }->IntsAre vs ns->ns.length<=n->s₁.gens=#[] ->
  codeAny (model l.prog w) callerA (.call (.ref fa) ⟨[.ref a],[]⟩) (λr s'=>r=.ok (.ret (.bool true))/\OldK s₁.heap s'.heap/\s'.os=s₁.os/\AllBare s'.gens) s₁) :
 WalkO q loose XP YP l.row.toRowW d [] (λf vs=>PySem.call f vs):=by
 intro w s₀ s₁ mg mb G Y fa o pm cd doc dV kV ho hd hcd hD hmg hg args vals as hpre hlay hrd hwl hlo
 obtain rfl:dV=.none:=Dflts.none hD hdf
 obtain rfl:kV=.none:=Dflts.noKw hD
 obtain⟨a,vs,ns,rfl,rfl,hobj,hints,hlen⟩:=aBb hn hpre hwl
 refine enter_call (codeAny_mono (call w s₀ s₁ mg mb fa o pm cd doc a vs ns G Y ho (fd_plain hd) hcd hmg hobj hints hlen hg) λr s' hq=>?_)
 obtain⟨rfl,h2,h3,h4⟩:=hq
 exact⟨.inl ⟨.bool true,.bool true,[],rfl,λ_=>rfl,.bool true,aBc l _,λ_=>⟨List.Pairwise.nil,λ_ hm=>(nomatch hm)⟩⟩,h2,h3,h4⟩
section
variable {prog:Program} {w:World} {A:Around} {E:Value->Shared->Prop} {s:Shared} {K:Frag}
end
end Att
namespace L2
open PySem PySem.Spec PyProof.Rows
theorem gO:∀{vs:List Value} {ns:List Int},IntsAre vs ns->bC (ns.map V.int) vs
 | _,_,.nil=>.nil
 | _,_,.cons n t h=>.cons ⟨t,rfl⟩ (gO h)
def aEQ(H:Hp):Prop:=∀b,H b=none\/∃o xs,H b=some (.frz o (.lst xs))
theorem aCv{P:Program}{w:World}{K:PySem.W.Frag}{mg mb:Str->Option Value}{CX:CXT}{k:Nat}{fa a:Addr}{fd:FuncData}{x:Str}{sp:Sp}{s₁:Shared}{vs:List Value}{ns:List Int}
 (KX:K.In s₁.heap) (hns:s₁.heap.Ns mainGlobals mg) (hb:s₁.heap.Ns builtinsNs mb) (hbb:∀x:Str,x ≠ "__name__" -> mb x=bootBuiltins x) (hlim:s₁.heap.NoLimit) (hg:s₁.gens=#[])
 (ha:s₁.heap.get? a=some { cls:=.type "list",data:=.seq vs.toArray }) (hi:IntsAre vs ns) (hl:ns.length<=sizeLine) (hr:kK k callerA)
 (F:∀base:Heap,K.In base->base.Ns mainGlobals mg->nQ P w K mg base CX k fa fd [x] sp) (hbind:∀(s:Shared) (u:Value),BindsTo s fd ⟨[u],[]⟩ [(x,u)])
 (hsp:∀H:Hp,aEQ H->SqL K H a (ns.map V.int)->sp [.ref a] H (λv _=>v=.bl true) λ_ _ _=>False)
 (hCX:∀H e s',CX [] H s₁ (λ_ _ _=>False) e s'->False) :
 codeAny (model P w) callerA (.call (.ref fa) ⟨[.ref a],[]⟩) (λr s'=>r=.ok (.ret (.bool true))/\OldK s₁.heap s'.heap/\s'.os=s₁.os/\AllBare s'.gens) s₁:=by
 have rv:=gO hi
 have lenV:=hi.length
 have core:∀H:Hp,aEQ H->SqL K H a (ns.map V.int)->HOk P w H s₁.heap->(∀b,H b≠none->b=a)->(H a≠none->K.lookup a=none) ->
  codeAny (model P w) callerA (.call (.ref fa) ⟨[.ref a],[]⟩) (λr s'=>r=.ok (.ret (.bool true))/\OldK s₁.heap s'.heap/\s'.os=s₁.os/\AllBare s'.gens) s₁:=by
  intro H hO hS hok hA hK
  have base_of:∀{b:Addr} {o:Obj},s₁.heap.get? b=some o->H b=none->(sU s₁.heap H).get? b=some o:=λe n=>aCa e n
  have noA:∀{b:Addr} {o:Obj} {es:Array DictEntry} {ep:Nat},s₁.heap.get? b=some o->o.data=.dict es ep->H b=none:=λ{b o es ep} e d=>by
   cases q:H b with
   | none=>rfl
   | some u=>
    have e':b=a:=hA b (by rw[q];simp)
    subst e'
    rw[ha] at e;cases e
    have d':Data.seq vs.toArray _=Data.dict es ep:=d
    cases d'
  have nsK:∀{b:Addr} {m:Str->Option Value},s₁.heap.Ns b m->(sU s₁.heap H).Ns b m:=λ{b m} ⟨o,es,ep,e,d,r⟩=>⟨o,es,ep,base_of e (noA e d),d,r⟩
  have hKb:K.In (sU s₁.heap H):=λb o e=>base_of (KX b o e) (by
   cases q:H b with
   | none=>rfl
   | some u=>
    have e':b=a:=hA b (by rw[q];simp)
    subst e'
    rw[hK (by rw[q];simp)] at e;cases e)
  have hM:Mod K mg (sU s₁.heap H):=⟨hKb,nsK hns,⟨mb,nsK hb,hbb⟩,let ⟨mc,h1,h2⟩:=hlim;⟨mc,nsK h1,h2⟩⟩
  have e0:aEF P w K mg (sU s₁.heap H) callerA [] s₁ H:=⟨rfl,hM,λb o e=>aEs e,Nat.le_of_eq (aAQ _ _),trivial,λb hb=>absurd (show b∈([]:List Addr) from hb) (by simp),hok,.of_eq hg⟩
  refine codeAny_mono ((F _ hKb (nsK hns)).run callerA [] s₁ H ⟨[.ref a],[]⟩ [.ref a] [.ref a] _ _ hr e0 (hbind s₁ (.ref a)) (.cons rfl .nil) (hsp H hO hS)) λr s' h=>?_
  cases r with
  | error e=>exact(hCX H e s' h).elim
  | ok fl=>
   cases fl with
   | next=>exact False.elim h
   | brk=>exact False.elim h
   | cont=>exact False.elim h
   | ret u=>
    obtain⟨v,H',os,bare,un,hok',r',q⟩:=h
    have q':v=.bl true:=q
    subst q'
    obtain rfl:u=Value.bool true:=r'
    refine⟨rfl,OldK.of_keep λb o e=>?_,os,bare⟩
    cases q:H b with
    | none=>exact un.keep b o e q (by intro z;exact absurd (show b∈([]:List Addr) from z) (by simp)) (by simp)
    | some u=>
     rcases hO b with z|⟨ob,xs,z⟩
     . rw[q] at z;cases z
     . have z2:=un.frzs b ob _ z
       obtain⟨e1,_⟩:=hok b _ z
       obtain⟨e2,_⟩:=hok' b _ z2
       rw[e] at e1;cases e1
       exact e2
 cases hk:K.lookup a with
 | some o=>
  have e:=KX a o hk
  rw[ha] at e
  cases e
  refine core (λ_=>none) (λ_=>.inl rfl) (.inr ⟨_,vs.toArray,_,hk,rfl,rfl,rfl,by rw[List.size_toArray,lenV];exact hl,by simpa using rv⟩) (λb u z=>by have z':(none:Option HO)=some u:=z;cases z') (λb z=>absurd rfl z) λz=>absurd rfl z
 | none=>
  refine core (λb=>if b=a then some (.frz { cls:=.type "list",data:=.seq vs.toArray } (.lst (ns.map V.int))) else none) (λb=>?_) (.inl (.inr ⟨{ cls:=.type "list",data:=.seq vs.toArray },if_pos rfl⟩)) (λb u z=>?_) (λb z=>?_) λ_=>hk
  . by_cases hb:b=a
    . exact .inr ⟨_,_,if_pos hb⟩
    . exact .inl (if_neg hb)
  . by_cases hb:b=a
    . have z':=(if_pos hb).symm.trans z
      cases z'
      subst hb
      exact⟨ha,by rw[List.length_map];exact hl,vs,_,rv,ha⟩
    . have z':=(if_neg hb).symm.trans z
      cases z'
  . by_cases hb:b=a
    . exact hb
    . exact absurd (if_neg hb) z
end L2
namespace L2
open PySem PySem.Spec PyProof.Rows
end L2
namespace L2
open PySem PySem.Spec PyProof.Rows
def jO(s:Stmt):Arguments:=match s with
 | .FunctionDef _ a _ _ _ _ _ _ _ _=>a
 | _=>{ posonlyargs:=[],args:=[],vararg:=none,kwonlyargs:=[],kw_defaults:=[],kwarg:=none,defaults:=[] }
def jP(s:Stmt):List Stmt:=match s with
 | .FunctionDef _ _ b _ _ _ _ _ _ _=>b
 | _=>[]
def cD(s:Stmt):Scope:=match s with
 | .FunctionDef _ _ _ _ _ _ sc _ _ _=>sc
 | _=>{ kind:=.function,names:=[],isGenerator:=false,isCoroutine:=false }
abbrev CX0:CXT:=λ_ _ _ _ _ _=>False
abbrev E0:XK:=λ_ _ _=>False
theorem aFU{X:Cx}:sX CX0 X E0:=λ_ _ _ _ _ _ _ h=>h.elim
structure Fun (K:PySem.W.Frag) (x qual:Str) (st:Stmt) (f:Addr) (fd:FuncData):Prop where
 ex:∃(oc:Value) (od:Option Addr) (kV doc pm:Value) (an:Option Addr) (cdv ct:Value) (osl:Array (Option Value)),
  fd=PySem.W.fnOf x qual (jO st) (jP st) (cD st) .none kV doc pm an cdv ct/\K.lookup f=some ⟨oc,od,.func fd,osl⟩/\PySem.W.codeIn K cdv qual=true
 kp:PySem.W.keepIn K (.ref f)=true
section
variable {P:Program} {w:World} {K:PySem.W.Frag} {mg:Str->Option Value} {base:Heap}
theorem Fun.ok{x qual:Str}{st:Stmt}{f:Addr}{fd:FuncData}{N ps:List Str}{k:Nat}{sp:Sp}(F:Fun K x qual st f fd)(S:nZ N ps (cD st))(len:∀vs H Q E,sp vs H Q E->vs.length=ps.length)
 (hbody:∀(cdv:Value) (A:Around) (outer:List Env) (s:Shared) (H:Hp) (vs:List V) (Q:VK) (E:XK),kK k (A.deeper (envOfC qual (cD st) s.heap.objs.size f cdv))->sp vs H Q E ->
  ∃t,PSs (yA CX0 P w K mg base N qual (cD st) f cdv A outer s H E).nox (jP st) t/\t { nx:=λ_ H'=>Q .non H',rt:=Q } (start N vs) H):nQ P w K mg base CX0 (k+1) f fd ps sp:=by
 obtain⟨oc,od,kV,doc,pm,an,cdv,ct,osl,rfl,lk,hcd⟩:=F.ex
 refine aJn lk hcd S len λA outer s H vs Q E hr hsp=>?_
 obtain⟨t,h,q⟩:=hbody cdv A outer s H vs Q E hr hsp
 exact⟨t,h.nox,q⟩
theorem Fun.binds{x qual:Str}{st:Stmt}{f:Addr}{fd:FuncData}{ps:List Str}(F:Fun K x qual st f fd)
 (h:∀(kV doc pm:Value) (an:Option Addr) (cdv ct:Value) (us:List Value),us.length=ps.length->bindArgs (PySem.W.fnOf x qual (jO st) (jP st) (cD st) .none kV doc pm an cdv ct) ⟨us,[]⟩=pure (ps.zip us)):kB K fd ps []:=by
 obtain⟨oc,od,kV,doc,pm,an,cdv,ct,osl,rfl,lk,hcd⟩:=F.ex
 exact .all (h kV doc pm an cdv ct)
end
section
variable {X:Cx}
end
theorem aJv{A B:Prop}(h:B):if false=true then A else B:=by
 rw[if_neg Bool.false_ne_true]
 exact h
theorem aLZ{A B:Prop}(h:A):if true=true then A else B:=by
 rw[if_pos rfl]
 exact h
def aU(H H':Hp):Prop:=∀b o,H b=some o->H' b=some o
theorem aU.refl(H:Hp):aU H H:=λ_ _ h=>h
theorem aU.trans{H H1 H2:Hp}(a:aU H H1)(b:aU H1 H2):aU H H2:=λc o h=>b c o (a c o h)
theorem aU.free{H H':Hp}(e:aU H H'){l:Addr}(h:H' l=Option.none):H l=Option.none:=by
 cases q:H l with
 | none=>rfl
 | some o=>
  rw[e l o q] at h
  cases h
theorem aU.seq{K:PySem.W.Frag}{H H':Hp}{a:Addr}{xs:List V}(e:aU H H')(h:SqL K H a xs):SqL K H' a xs:=by
 rcases h with(h|⟨o,h⟩)|h
 . exact .inl (.inl (e _ _ h))
 . exact .inl (.inr ⟨o,e _ _ h⟩)
 . exact .inr h
end L2
end
noncomputable section
namespace L2
open PySem PySem.Spec PyProof.Rows PySem.SeqAt
end L2
end
noncomputable section
namespace Hp
open PySem (Str Operator CmpOp)
inductive D where
 | non|bl (b:Bool)|int (i:Int)|str (x:Str)
 | tup (ds:List D)|lst (ds:List D)
 | dic (kvs:List (D×D))
 | err (c:Nat) (fs:List D)
 deriving Inhabited
mutual
def noL:D->Bool
 | .tup ds=>noLs ds
 | .lst _=>false
 | .dic _=>false
 | .err _ _=>false
 | _=>true
def noLs:List D->Bool
 | []=>true
 | d::ds=>noL d&&noLs ds
end
mutual
def iP:D->Bool
 | .tup ds=>noDics ds
 | .lst ds=>noDics ds
 | .dic _=>false
 | _=>true
def noDics:List D->Bool
 | []=>true
 | d::ds=>iP d&&noDics ds
end
def lim:Nat:=1000000
def b2i(b:Bool):Int:=if b then 1 else 0
def eqL(f:D->D->Option Bool):List D->List D->Option Bool
 | [],[]=>some true
 | a::as,b::bs=>match f a b,eqL f as bs with
  | some x,some y=>some (x&&y)
  | _,_=>none
 | _,_=>some false
def eqF:Nat->D->D->Option Bool
 | 0,_,_=>none
 | n+1,a,b=>match a,b with
  | .non,.non=>some true
  | .bl a,.bl b=>some (a==b)
  | .int a,.int b=>some (a==b)
  | .str a,.str b=>some (a==b)
  | .bl a,.int b=>some (b2i a==b)
  | .int a,.bl b=>some (a==b2i b)
  | .tup as,.tup bs=>eqL (eqF n) as bs
  | .lst as,.lst bs=>if as.length=bs.length then eqL (eqF n) as bs else some false
  | .dic _,_=>none
  | _,.dic _=>none
  | .err _ _,_=>none
  | _,.err _ _=>none
  | _,_=>some false
def gM(n:Nat):List D->List D->Option Bool
 | [],[]=>some true
 | a::as,b::bs=>match eqF n a b,gM n as bs with
  | some x,some y=>some (x&&y)
  | _,_=>none
 | _,_=>some false
@[simp] theorem yE (n:Nat):∀as bs:List D,eqL (eqF n) as bs=gM n as bs
 | [],[]=>rfl
 | [],_::_=>rfl
 | _::_,[]=>rfl
 | a::as,b::bs=>by rw[eqL,gM,yE n as bs]
def lD:Nat:=120
def eqD(a b:D):Option Bool:=eqF lD a b
inductive R (α:Type) where
 | ok (a:α)|exc (x:D)|bad
 deriving Inhabited
def R.bind{α β:Type}(x:R α)(f:α->R β):R β:=match x with
 | .ok a=>f a
 | .exc e=>.exc e
 | .bad=>.bad
instance:Monad R where
 pure:=.ok
 bind:=.bind
def R.of{α:Type}:Option α->R α
 | some a=>.ok a
 | none=>.bad
def R.iff{α:Type}(c:Bool)(x:R α):R α:=if c then x else .bad
structure Vl where
 d:D
 fr:Bool:=false
 pa:Bool:=false
 al:List Nat:=[]
 deriving Inhabited
def Vl.cl(d:D):Vl:=⟨d,false,false,[]⟩
def Vl.sub(v:Vl)(d:D):Vl:=if noL d then .cl d else ⟨d,false,v.pa,v.al⟩
inductive Sl where
 | dead|sh (pa:Bool) (d:D)|own (pa:Bool) (ds:List D)
 deriving Inhabited
abbrev Sg:=List Sl
def Sl.val(i:Nat):Sl->R Vl
 | .dead=>.bad
 | .sh pa d=>.ok ⟨d,false,pa&&!noL d,[]⟩
 | .own pa ds=>.ok ⟨.lst ds,false,pa,[i]⟩
def bZ(σ:Sg)(i:Nat):R Vl:=match σ[i]? with
 | some s=>s.val i
 | none=>.bad
def Sl.freeze:Sl->Sl
 | .own pa ds=>.sh pa (.lst ds)
 | s=>s
def freeze(σ:Sg):List Nat->Sg
 | []=>σ
 | i::is=>freeze (match σ[i]? with|some s=>σ.set i s.freeze|none=>σ) is
def Vl.slot(v:Vl):Sl:=match v.fr,v.d with
 | true,.lst ds=>.own v.pa ds
 | _,d=>.sh v.pa d
inductive Bi where
 | len|list|tuple|min|max|abs|int|str|sum|all|any|sorted|bool|repr
 deriving DecidableEq,Inhabited
inductive Mt where
 | join|upper|lower|get|startswith|endswith|index|count|copy|isdigit|find|replace|split|strip
 deriving DecidableEq,Inhabited
inductive Cl where
 | tInt|tBool|tStr|tList|tTuple|tDict|own (c:Nat)|tValueError
 deriving DecidableEq,Inhabited
inductive T where
 | n (i:Nat)
 | t (ts:List Nat)
 deriving Inhabited
mutual
inductive E where
 | c (d:D)
 | v (i:Nat)
 | op (o:Operator) (a b:E)
 | neg (a:E)
 | nt (a:E)
 | an (a b:E)
 | orr (a b:E)
 | ife (t a b:E)
 | cmp (o:CmpOp) (a b:E)
 | cmp2 (o o':CmpOp) (a b c:E)
 | idx (a b:E)
 | sli (a:E) (lo hi:Es)
 | tup (es:Es)
 | lst (es:Es)
 | dic (ks vs:Es)
 | call (f:Nat) (es:Es)
 | bi (b:Bi) (es:Es)
 | mth (m:Mt) (o:E) (es:Es)
 | isi (a:E) (cs:List Cl)
 | attr (a:E) (f:Nat)
 | comp (k:Nat) (caps:List Nat) (t:T) (it:It) (cond:Es) (elt:E)
 | numset (a:E)   -- len(set(a))
 | tget (i:Nat) (a:E)   -- a dict of the module,.get(a)
 | lzip (a b:E)   -- list(zip(a,b))
 | sset (a:E)   -- sorted(set(a)),numbers from 0 to 3
inductive Es where
 | nil|cons (e:E) (es:Es)
inductive It where
 | seq (e:E)|rng (a b:E)|zip (a b:E)|enum (a:E)|rev (a:E)
end
instance:Inhabited E:=⟨.c .non⟩
inductive Arg where
 | e (a:E)|pop (i:Nat)
 deriving Inhabited
mutual
inductive S where
 | set (t:T) (e:E)
 | mov (i j:Nat)
 | setIx (i:Nat) (k e:E)
 | app (i:Nat) (e:E)
 | ext (i:Nat) (e:E)
 | pop (t:Option T) (i:Nat) (at':Option E)
 | clr (i:Nat)
 | ins (i:Nat) (k e:E)
 | rev (i:Nat)
 | appCall (i:Nat) (f:Nat) (as:List Arg)
 | ret (e:E)
 | retv (i:Nat)
 | retN
 | iff (c:E) (a b:Ss)
 | for (t:T) (it:It) (b:Ss)
 | whl (c:E) (b:Ss)
 | brk|cnt|pass
 | ex (e:E)
 | rse (c:Nat) (keep:Bool) (es:Es)
 | try (b:Ss) (hs:Hs)
 | tryN (b:Ss)   -- try: b,which ends without an exception
inductive Ss where
 | nil|cons (s:S) (ss:Ss)
inductive Hs where
 | nil|cons (cs:List Cl) (n:Option Nat) (b:Ss) (hs:Hs)
end
structure Fn where
 np:Nat
 ns:Nat
 body:Ss
structure Pg where
 fns:List Fn
 above:List (List Cl)
 tabs:List (List (Str×D)):=[]
abbrev Rt:=D×Bool×Bool
abbrev Caller:=Nat->List D->R Rt
def gP(i j:Int):Bool:=(decide (-(2 ^ 64)<i)&&decide (i<2 ^ 64))||(decide (-(2 ^ 64)<j)&&decide (j<2 ^ 64))
def aFV(i j:Int):Bool:=decide (0<=j)&&decide (j<=1000)&&decide (i.natAbs<2 ^ 64)
def vG(j:Int):Bool:=decide (0<j)&&decide (j<1073741824)
def aL(k:Int):Bool:=decide (-(2 ^ 62)<=k)&&decide (k<2 ^ 62)
def Str.rep(x:Str)(k:Nat):Str:=⟨(List.replicate k x.cps).foldl (·++·) #[]⟩
@[simp] def aHd (x y:Vl):R Vl:=match x.d,y.d with
 | .int i,.int j=>.ok (.cl (.int (i+j)))
 | .str a,.str b=>.iff (decide (a.length+b.length<=lim)) (.ok (.cl (.str (a++b))))
 | .tup a,.tup b=>.iff (decide (a.length+b.length<=lim)) (.ok ⟨.tup (a++b),false,x.pa||y.pa,x.al++y.al⟩)
 | .lst a,.lst b=>.iff (decide (a.length+b.length<=lim)) (.ok ⟨.lst (a++b),true,(x.pa&&!noLs a)||(y.pa&&!noLs b),(if noLs a then [] else x.al)++(if noLs b then [] else y.al)⟩)
 | _,_=>.bad
@[simp] def aHe (x y:Vl):R Vl:=match x.d,y.d with
 | .int i,.int j=>.iff (gP i j) (.ok (.cl (.int (i*j))))
 | .str a,.int k=>.iff (aL k&&decide (a.length*k.toNat<=lim)) (.ok (.cl (.str (Str.rep a k.toNat))))
 | .lst a,.int k=>.iff (x.fr&&aL k&&decide (a.length*k.toNat<=lim)&&noLs a) (.ok ⟨.lst (List.replicate k.toNat a).flatten,true,false,[]⟩)
 | _,_=>.bad
@[simp] def vH (f:Int->Int->R Vl) (x y:Vl):R Vl:=match x.d,y.d with
 | .int i,.int j=>f i j
 | _,_=>.bad
def opD(o:Operator)(x y:Vl):R Vl:=match o with
 | .Add=>aHd x y
 | .Mult=>aHe x y
 | .Sub=>vH (λi j=>.ok (.cl (.int (i-j)))) x y
 | .FloorDiv=>vH (λi j=>.iff (vG j) (.ok (.cl (.int (i / j))))) x y
 | .Mod=>vH (λi j=>.iff (decide (0<j)) (.ok (.cl (.int (i % j))))) x y
 | .Pow=>vH (λi j=>.iff (aFV i j) (.ok (.cl (.int (i ^ j.toNat))))) x y
 | _=>.bad
def aCw:D->Option Bool
 | .non=>some false
 | .bl b=>some b
 | .int i=>some (i != 0)
 | .str x=>if x.length<=lim then some (x.length != 0) else none
 | .tup ds=>some (!ds.isEmpty)
 | .lst ds=>some (!ds.isEmpty)
 | _=>none
def fS(x:Vl):R Bool:=.of (aCw x.d)
def ltD:D->D->Option Bool
 | .int a,.int b=>some (decide (a<b))
 | _,_=>none
def leD:D->D->Option Bool
 | .int a,.int b=>some (decide (a<=b))
 | _,_=>none
def isNone:D->Bool
 | .non=>true
 | _=>false
def oW(x:D):List D->Option Bool
 | []=>some false
 | y::ys=>match eqD y x,oW x ys with
  | some a,some b=>some (a||b)
  | _,_=>none
def inD(x y:D):Option Bool:=match x,y with
 | x,.lst ys=>if noDics ys then oW x ys else none
 | x,.tup ys=>if noDics ys then oW x ys else none
 | .str a,.str b=>some (!(PySem.Builtin.Str.occurrences b a 0 b.length 1).isEmpty)
 | _,_=>none
def cG(o:CmpOp)(x y:D):Option Bool:=match o with
 | .Eq=>eqD x y
 | .NotEq=>(eqD x y).map (!·)
 | .Lt=>ltD x y
 | .Gt=>match x,y with
  | .int a,.int b=>some (decide (b<a))
  | _,_=>none
 | .LtE=>leD x y
 | .GtE=>match x,y with
  | .int a,.int b=>some (decide (b<=a))
  | _,_=>none
 | .Is=>match y with
  | .non=>some (isNone x)
  | _=>none
 | .IsNot=>match y with
  | .non=>some (!isNone x)
  | _=>none
 | .In=>inD x y
 | .NotIn=>(inD x y).map (!·)
def ixN(n:Nat)(k:Int):Option Nat:=
 if 0<=k then (if k<n then some k.toNat else none) else (if -(n:Int)<=k then some (k+n).toNat else none)
def eA(x y:Vl):R Vl:=match x.d,y.d with
 | .lst ds,.int k=>match ixN ds.length k with
  | some j=>match ds[j]? with
   | some d=>.ok (x.sub d)
   | none=>.bad
  | none=>.bad
 | .tup ds,.int k=>match ixN ds.length k with
  | some j=>match ds[j]? with
   | some d=>.ok (x.sub d)
   | none=>.bad
  | none=>.bad
 | .str a,.int k=>.iff (decide (a.length<=lim)) (match ixN a.length k with
  | some j=>match a.cps.toList[j]? with
   | some c=>.ok (.cl (.str ⟨#[c]⟩))
   | none=>.bad
  | none=>.bad)
 | _,_=>.bad
def sIx(n d:Nat):Option Int->Nat
 | none=>d
 | some v=>if v<0 then (v+(n:Int)).toNat else min v.toNat n
def cut{α:Type}(xs:List α)(lo hi:Option Int):List α:=(xs.drop (sIx xs.length 0 lo)).take (sIx xs.length xs.length hi-sIx xs.length 0 lo)
def yF(x:Str)(lo hi:Option Int):Str:=⟨(cut x.cps.toList lo hi).toArray⟩
def eG(x:Vl)(lo hi:Option Int):R Vl:=match x.d with
 | .lst ds=>.ok ⟨.lst (cut ds lo hi),true,x.pa&&!noLs ds,if noLs ds then [] else x.al⟩
 | .tup ds=>.ok ⟨.tup (cut ds lo hi),false,x.pa&&!noLs ds,if noLs ds then [] else x.al⟩
 | .str a=>.iff (decide (a.length<=lim)) (.ok (.cl (.str (yF a lo hi))))
 | _=>.bad
def isI(cs:List Cl)(P:Pg):D->Option Bool
 | .non=>some false
 | .bl _=>some (cs.contains .tBool||cs.contains .tInt)
 | .int _=>some (cs.contains .tInt)
 | .str _=>some (cs.contains .tStr)
 | .tup _=>some (cs.contains .tTuple)
 | .lst _=>some (cs.contains .tList)
 | .dic _=>some (cs.contains .tDict)
 | .err c _=>match P.above[c]? with
  | some ab=>some (ab.any λa=>cs.contains a)
  | none=>none
def aJw:List D->Int->Option Int
 | [],a=>some a
 | .int i::ds,a=>aJw ds (a+i)
 | .bl b::ds,a=>aJw ds (a+b2i b)
 | _,_=>none
def cE:List D->Option (List Bool)
 | []=>some []
 | .bl a::ds=>match cE ds with
  | some bs=>some (a::bs)
  | none=>none
 | _=>none
def fT:List D->Option (List (Sum Int Str))
 | []=>some []
 | .int a::ds=>match fT ds with
  | some ks=>some (.inl a::ks)
  | none=>none
 | .str a::ds=>match fT ds with
  | some ks=>some (.inr a::ks)
  | none=>none
 | _=>none
def oX(ks:List (Sum Int Str)):List (Sum Int Str):=ks.foldl (λσ v=>if σ.any (·==v) then σ else σ++[v]) []
def aJx(x:D):List D->Option (List D)
 | []=>some [x]
 | y::ys=>match ltD x y with
  | some true=>some (x::y::ys)
  | some false=>match aJx x ys with
   | some r=>some (y::r)
   | none=>none
  | none=>none
def aJy:List D->Option (List D)
 | []=>some []
 | d::ds=>match aJy ds with
  | some r=>aJx d r
  | none=>none
@[simp] def yG (b:Bi) (x:Vl):R Vl:=match b with
 | .len=>match x.d with
  | .lst ds=>.ok (.cl (.int ds.length))
  | .tup ds=>.ok (.cl (.int ds.length))
  | .str a=>.iff (decide (a.length<=lim)) (.ok (.cl (.int a.length)))
  | _=>.bad
 | .list=>match x.d with
  | .lst ds=>.ok ⟨.lst ds,true,x.pa&&!noLs ds,if noLs ds then [] else x.al⟩
  | .tup ds=>.ok ⟨.lst ds,true,x.pa&&!noLs ds,if noLs ds then [] else x.al⟩
  | _=>.bad
 | .tuple=>match x.d with
  | .lst ds=>.ok ⟨.tup ds,false,x.pa&&!noLs ds,if noLs ds then [] else x.al⟩
  | .tup ds=>.ok ⟨.tup ds,false,x.pa,x.al⟩
  | _=>.bad
 | .int=>match x.d with
  | .int i=>.ok (.cl (.int i))
  | .bl b=>.ok (.cl (.int (b2i b)))
  | _=>.bad
 | .all=>match x.d with
  | .lst ds=>match cE ds with
   | some bs=>.ok (.cl (.bl (bs.all id)))
   | none=>.bad
  | _=>.bad
 | .any=>match x.d with
  | .lst ds=>match cE ds with
   | some bs=>.ok (.cl (.bl (bs.any id)))
   | none=>.bad
  | _=>.bad
 | _=>.bad
@[simp] def aJz (b:Bi) (x y:Vl):R Vl:=match b with
 | .min=>match x.d,y.d with
  | .int i,.int j=>.ok (.cl (.int (if j<i then j else i)))
  | _,_=>.bad
 | .max=>match x.d,y.d with
  | .int i,.int j=>.ok (.cl (.int (if j>i then j else i)))
  | _,_=>.bad
 | _=>.bad
def biD(b:Bi)(xs:List Vl):R Vl:=match xs with
 | [x]=>yG b x
 | [x,y]=>aJz b x y
 | _=>.bad
def aCx:List D->Option (List Str)
 | []=>some []
 | .str x::ds=>match aCx ds with
  | some r=>some (x::r)
  | none=>none
 | _=>none
def aJA:D->D->Bool
 | .int a,.int b=>a==b
 | .str a,.str b=>a==b
 | _,_=>false
def aJB:D->Bool
 | .int _=>true
 | .str _=>true
 | _=>false
def aFW(k:D):List (D×D)->Option D
 | []=>none
 | (a,d)::r=>if aJA a k then some d else aFW k r
def upC(n:Nat):Nat:=if 97<=n/\n<=122 then n-32 else n
def mtD(m:Mt)(x:Vl)(ys:List Vl):R Vl:=match m,x.d,ys with
 | .join,.str a,[y]=>match y.d with
  | .lst ds=>match aCx ds with
   | some xs=>.iff (decide ((xs.map (·.length)).sum+xs.length*a.length<=lim)) (.ok (.cl (.str (PySem.Str.join a xs))))
   | none=>.bad
  | _=>.bad
 | .get,.dic kvs,[y]=>.iff (aJB y.d) (match aFW y.d kvs with
  | some d=>.ok (x.sub d)
  | none=>.ok (.cl .non))
 | .upper,.str a,[]=>.iff (a.cps.all (·<128)) (.ok (.cl (.str ⟨a.cps.map upC⟩)))
 | _,_,_=>.bad
def bT(vs:List Vl):List Nat:=vs.flatMap (·.al)
def dS(vs:List Vl):Bool:=vs.any (·.pa)
def rN(vs:List Vl):Vl:=⟨.tup (vs.map (·.d)),false,dS vs,bT vs⟩
def oY(vs:List Vl):Vl:=⟨.lst (vs.map (·.d)),true,dS vs,bT vs⟩
def gQ(args:List Vl)(r:Rt):Vl:=if r.2.2 then ⟨r.1,r.2.1,dS args,bT args⟩ else ⟨r.1,r.2.1,false,[]⟩
def oZ:List D->Option (List Nat)
 | []=>some []
 | .int i::ds=>if 0<=i/\i<=3 then (match oZ ds with|some r=>some (i.toNat::r)|none=>none) else none
 | _=>none
def dW(ns:List Nat):List Nat:=(List.range 4).filter λk=>decide (k∈ns)
def iE(a b:Int):List D:=(List.range (b-a).toNat).map λ(k:Nat)=>.int (a+(k:Int))
def gC:Int->List D->List D
 | _,[]=>[]
 | k,d::ds=>.tup [.int k,d]::gC (k+1) ds
def eX:List D->List D->List D
 | a::as,b::bs=>.tup [a,b]::eX as bs
 | _,_=>[]
def cH(σ:Sg)(v:Vl):T->R Sg
 | .n i=>.ok (σ.set i v.slot)
 | .t is=>match v.d with
  | .tup ds=>if ds.length=is.length then .ok ((is.zip ds).foldl (λσ p=>σ.set p.1 (v.sub p.2).slot) σ) else .bad
  | _=>.bad
def eO(f:Vl->R (Option Vl)):List Vl->R (List Vl)
 | []=>.ok []
 | x::xs=>do
  let y<-f x
  let ys<-eO f xs
  match y with
  | some y=>.ok (y::ys)
  | none=>.ok ys
def iU:D->Option (List D)
 | .lst ds=>some ds
 | .tup ds=>some ds
 | _=>none
def items(x:Vl)(ds:List D):List Vl:=ds.map x.sub
def fK(k:Nat)(caps al:List Nat)(vs:List Vl):Vl:=
 if noLs (vs.map (·.d)) then ⟨.lst (vs.map (·.d)),true,false,[]⟩
 else ⟨.lst (vs.map (·.d)),true,dS vs,al++(bT vs).filterMap λj=>caps[j-k]?⟩
def aFX(x y:Vl)(ds:List D):Vl:=if noLs ds then ⟨.lst ds,true,false,[]⟩ else ⟨.lst ds,true,x.pa||y.pa,x.al++y.al⟩
section
variable (P:Pg) (cl:Caller)
mutual
def ev(σ:Sg):E->R Vl
 | .c d=>.ok (.cl d)
 | .v i=>bZ σ i
 | .op o a b=>do let x<-ev σ a;let y<-ev σ b;opD o x y
 | .neg a=>do
  let x<-ev σ a
  match x.d with
  | .int i=>.ok (.cl (.int (-i)))
  | _=>.bad
 | .nt a=>do let x<-ev σ a;let k<-fS x;.ok (.cl (.bl (!k)))
 | .an a b=>do
  let x<-ev σ a
  match x.d with
  | .bl true=>ev σ b
  | .bl false=>.ok (.cl (.bl false))
  | _=>.bad
 | .orr a b=>do
  let x<-ev σ a
  match x.d with
  | .bl true=>.ok (.cl (.bl true))
  | .bl false=>ev σ b
  | _=>.bad
 | .ife t a b=>do
  let x<-tst σ t
  if x then ev σ a else ev σ b
 | .cmp o a b=>do
  let x<-ev σ a
  let y<-ev σ b
  match cG o x.d y.d with
  | some k=>.ok (.cl (.bl k))
  | none=>.bad
 | .cmp2 o o' a b c=>do
  let x<-ev σ a
  let y<-ev σ b
  match cG o x.d y.d with
  | some true=>do
   let z<-ev σ c
   match cG o' y.d z.d with
   | some k=>.ok (.cl (.bl k))
   | none=>.bad
  | some false=>.ok (.cl (.bl false))
  | none=>.bad
 | .idx a b=>do let x<-ev σ a;let y<-ev σ b;eA x y
 | .sli a lo hi=>do
  let x<-ev σ a
  let l<-evs σ lo
  let h<-evs σ hi
  match l,h with
  | [],[]=>eG x none none
  | [l],[]=>match l.d with
   | .int l=>.iff (aL l) (eG x (some l) none)
   | _=>.bad
  | [],[h]=>match h.d with
   | .int h=>.iff (aL h) (eG x none (some h))
   | _=>.bad
  | [l],[h]=>match l.d,h.d with
   | .int l,.int h=>.iff (aL l&&aL h) (eG x (some l) (some h))
   | _,_=>.bad
  | _,_=>.bad
 | .tup es=>do let vs<-evs σ es;.ok (rN vs)
 | .lst es=>do let vs<-evs σ es;.ok (oY vs)
 | .dic ks vs=>do
  let ks<-evs σ ks
  let vs<-evs σ vs
  match (ks.map (λ(v:Vl)=>v.d):List D),(vs.map (λ(v:Vl)=>v.d):List D) with
  | [.int k],[.int v]=>.ok (.cl (.dic [(.int k,.int v)]))
  | _,_=>.bad
 | .call f es=>do
  let vs<-evs σ es
  let r<-cl f (vs.map (·.d))
  .ok (gQ vs r)
 | .bi b es=>do let vs<-evs σ es;biD b vs
 | .mth m o es=>do let x<-ev σ o;let ys<-evs σ es;mtD m x ys
 | .isi a cs=>do
  let x<-ev σ a
  match isI cs P x.d with
  | some k=>.ok (.cl (.bl k))
  | none=>.bad
 | .attr a f=>do
  let x<-ev σ a
  match x.d with
  | .err _ fs=>match fs[f]? with
   | some d=>.ok (x.sub d)
   | none=>.bad
  | _=>.bad
 | .comp k caps t it cond elt=>do
  let xs<-walk σ it
  let vs<-eO (λx=>do
   let σ1<-cH (List.replicate k .dead++caps.map λi=>((freeze σ xs.2)[i]?).getD .dead) x t
   let k<-tsts σ1 cond
   if k then do let y<-ev σ1 elt;.ok (some y) else .ok none) xs.1
  .iff (decide (vs.length<=lim)) (.ok (fK k caps xs.2 vs))
 | .numset a=>do
  let x<-ev σ a
  match x.d with
  | .lst ds=>match fT ds with
   | some ks=>.iff (decide (ds.length<=1000)) (.ok (.cl (.int (oX ks).length)))
   | none=>.bad
  | _=>.bad
 | .tget i a=>do
  let x<-ev σ a
  match x.d,P.tabs[i]? with
  | .str k,some t=>.ok (.cl ((t.lookup k).getD .non))
  | _,_=>.bad
 | .lzip a b=>do
  let x<-ev σ a
  let y<-ev σ b
  match iU x.d,iU y.d with
  | some as,some bs=>.iff (decide (as.length<=lim)) (.ok (aFX x y (eX as bs)))
  | _,_=>.bad
 | .sset a=>do
  let x<-ev σ a
  match x.d with
  | .lst ds=>match oZ ds with
   | some ns=>.ok ⟨.lst ((dW ns).map λ(k:Nat)=>.int (k:Int)),true,false,[]⟩
   | none=>.bad
  | _=>.bad
def tst(σ:Sg):E->R Bool
 | .nt a=>do let x<-tst σ a;.ok (!x)
 | .an a b=>do
  let x<-tst σ a
  if x then tst σ b else .ok false
 | .orr a b=>do
  let x<-tst σ a
  if x then .ok true else tst σ b
 | .c d=>fS (.cl d)
 | .v i=>do let x<-bZ σ i;fS x
 | .cmp o a b=>do
  let x<-ev σ a
  let y<-ev σ b
  match cG o x.d y.d with
  | some k=>.ok k
  | none=>.bad
 | .cmp2 o o' a b c=>do
  let x<-ev σ a
  let y<-ev σ b
  match cG o x.d y.d with
  | some true=>do
   let z<-ev σ c
   match cG o' y.d z.d with
   | some k=>.ok k
   | none=>.bad
  | some false=>.ok false
  | none=>.bad
 | .call f es=>do
  let vs<-evs σ es
  let r<-cl f (vs.map (·.d))
  fS (gQ vs r)
 | .bi b es=>do let vs<-evs σ es;let x<-biD b vs;fS x
 | .mth m o es=>do let x<-ev σ o;let ys<-evs σ es;let z<-mtD m x ys;fS z
 | .idx a b=>do let x<-ev σ a;let y<-ev σ b;let z<-eA x y;fS z
 | .isi a cs=>do
  let x<-ev σ a
  match isI cs P x.d with
  | some k=>.ok k
  | none=>.bad
 | _=>.bad
def evs(σ:Sg):Es->R (List Vl)
 | .nil=>.ok []
 | .cons e es=>do let x<-ev σ e;let xs<-evs σ es;.ok (x::xs)
def walk(σ:Sg):It->R (List Vl×List Nat)
 | .seq e=>do
  let x<-ev σ e
  match x.d with
  | .lst ds=>.ok (items x ds,x.al)
  | .tup ds=>.ok (items x ds,x.al)
  | .str a=>.iff (decide (a.length<=lim)) (.ok (a.cps.toList.map λn=>.cl (.str ⟨#[n]⟩),[]))
  | _=>.bad
 | .rng a b=>do
  let x<-ev σ a
  let y<-ev σ b
  match x.d,y.d with
  | .int i,.int j=>.iff (aL i&&aL j) (.ok ((iE i j).map .cl,[]))
  | _,_=>.bad
 | .zip a b=>do
  let x<-ev σ a
  let y<-ev σ b
  match iU x.d,iU y.d with
  | some as,some bs=>.ok (items ⟨.non,false,x.pa||y.pa,x.al++y.al⟩ (eX as bs),x.al++y.al)
  | _,_=>.bad
 | .enum a=>do
  let x<-ev σ a
  match iU x.d with
  | some as=>.ok (items x (gC 0 as),x.al)
  | none=>.bad
 | .rev a=>do
  let x<-ev σ a
  match iU x.d with
  | some as=>.ok (items x as.reverse,x.al)
  | none=>.bad
def tsts(σ:Sg):Es->R Bool
 | .nil=>.ok true
 | .cons e es=>do
  let x<-tst σ e
  if x then tsts σ es else .ok false
end
inductive O where
 | next (σ:Sg)|brk (σ:Sg)|cnt (σ:Sg)|ret (v:Vl)|exc (x:D) (σ:Sg)|bad
 deriving Inhabited
def O.from{α:Type}(σ:Sg)(x:R α)(f:α->O):O:=match x with
 | .ok a=>f a
 | .exc e=>.exc e σ
 | .bad=>.bad
def O.on(o:O)(f:Sg->O):O:=match o with
 | .next σ=>f σ
 | o=>o
def eB(f:Sg->Vl->O):List Vl->Sg->O
 | [],σ=>.next σ
 | x::xs,σ=>match f σ x with
  | .next σ'=>eB f xs σ'
  | .cnt σ'=>eB f xs σ'
  | .brk σ'=>.next σ'
  | o=>o
def aCy(t:Sg->R Bool)(f:Sg->O):Nat->Sg->O
 | 0,_=>.bad
 | n+1,σ=>O.from σ (t σ) λk=>if k then (match f σ with
     | .next σ'=>aCy t f n σ'
     | .cnt σ'=>aCy t f n σ'
     | .brk σ'=>.next σ'
     | o=>o) else .next σ
def aJC:Nat:=100000
def lE(σ:Sg)(i:Nat):Option (Bool×List D):=match σ[i]? with
 | some (.own pa ds)=>some (pa,ds)
 | _=>none
def put(σ:Sg)(i:Nat)(v:Vl)(f:List D->Option (List D)):O:=match lE (freeze σ v.al) i with
 | some (pa,ds)=>match f ds with
  | some ds'=>if ds'.length<=lim then .next ((freeze σ v.al).set i (.own (pa||v.pa) ds')) else .bad
  | none=>.bad
 | none=>.bad
def aFY(σ:Sg)(i:Nat)(v:Vl):O:=put σ i v λds=>some (ds++[v.d])
def pA(v:Vl):Option (Vl×List D):=match v.fr,v.d with
 | true,.lst ds=>some (⟨.non,false,v.pa&&!noLs ds,if noLs ds then [] else v.al⟩,ds)
 | _,_=>none
def aCz(σ:Sg)(i:Nat)(k:Option Int):R (Vl×Sg):=match lE σ i with
 | some (pa,ds)=>match (match k with|none=>ixN ds.length (-1)|some k=>ixN ds.length k) with
  | some j=>match ds[j]? with
   | some d=>.ok (Vl.sub ⟨.non,false,pa,[]⟩ d,σ.set i (.own pa (ds.eraseIdx j)))
   | none=>.bad
  | none=>.bad
 | none=>.bad
def yH(e:Sg->E->R Vl):Sg->List Vl->List Arg->R (List Vl×Sg)
 | σ,acc,[]=>.ok (acc,σ)
 | σ,acc,.e a::as=>do let x<-e σ a;yH e σ (acc++[x]) as
 | σ,acc,.pop j::as=>do
  let (x,σ')<-aCz σ j none
  if (bT acc).contains j then .bad else yH e σ' (acc++[x]) as
def aJD(e:Option (R Vl)):R (Option Int):=match e with
 | none=>.ok none
 | some x=>do
  let v<-x
  match v.d with
  | .int k=>.iff (aL k) (.ok (some k))
  | _=>.bad
mutual
def ex(σ:Sg):S->O
 | .set t e=>O.from σ (ev P cl σ e) λv=>O.from σ (cH (freeze σ v.al) v t) .next
 | .mov i j=>match σ[j]? with
  | some (.own pa ds)=>if i=j then .bad else .next ((σ.set j .dead).set i (.own pa ds))
  | some (.sh pa d)=>.next (σ.set i (.sh (pa&&!noL d) d))
  | _=>.bad
 | .setIx i k e=>O.from σ (ev P cl σ e) λv=>O.from σ (ev P cl σ k) λkv=>match kv.d with
  | .int k=>put σ i v λds=>match ixN ds.length k with
   | some j=>some (ds.set j v.d)
   | none=>none
  | _=>.bad
 | .app i e=>O.from σ (ev P cl σ e) λv=>aFY σ i v
 | .ext i e=>O.from σ (ev P cl σ e) λv=>match pA v with
  | some (v',ds')=>put σ i v' λds=>some (ds++ds')
  | none=>.bad
 | .pop t i k=>O.from σ (aJD (k.map λe=>ev P cl σ e)) λk=>O.from σ (aCz σ i k) λ(v,σ')=>match t with
  | none=>.next σ'
  | some t=>O.from σ' (cH σ' v t) .next
 | .clr i=>put σ i (.cl .non) λ_=>some []
 | .ins i k e=>O.from σ (ev P cl σ k) λkv=>O.from σ (ev P cl σ e) λv=>match kv.d with
  | .int k=>if 0<=k/\k<1000000 then put σ i v λds=>some (ds.take k.toNat++v.d::ds.drop k.toNat) else .bad
  | _=>.bad
 | .rev i=>put σ i (.cl .non) λds=>some ds.reverse
 | .appCall i f as=>O.from σ (yH (λσ a=>ev P cl σ a) σ [] as) λ(vs,σ')=>O.from σ' (cl f (vs.map (·.d))) λr=>aFY σ' i (gQ vs r)
 | .ret e=>O.from σ (ev P cl σ e) .ret
 | .retv i=>match σ[i]? with
  | some (.own pa ds)=>.ret ⟨.lst ds,true,pa,[]⟩
  | _=>O.from σ (bZ σ i) .ret
 | .retN=>.ret (.cl .non)
 | .iff c a b=>O.from σ (tst P cl σ c) λk=>if k then exs σ a else exs σ b
 | .for t it b=>O.from σ (walk P cl σ it) λxs=>eB (λσ x=>O.from σ (cH σ x t) λσ'=>exs σ' b) xs.1 (freeze σ xs.2)
 | .whl c b=>aCy (λσ=>tst P cl σ c) (λσ=>exs σ b) aJC σ
 | .brk=>.brk σ
 | .cnt=>.cnt σ
 | .pass=>.next σ
 | .ex e=>O.from σ (ev P cl σ e) λ_=>.next σ
 | .rse c keep es=>O.from σ (evs P cl σ es) λvs=>.exc (.err c (if keep then vs.map (·.d) else [])) σ
 | .tryN b=>exs σ b
 | .try b hs=>match exs σ b with
  | .exc x σ'=>hdl σ' x hs
  | o=>o
def exs(σ:Sg):Ss->O
 | .nil=>.next σ
 | .cons s ss=>(ex σ s).on λσ'=>exs σ' ss
def hdl(σ:Sg)(x:D):Hs->O
 | .nil=>.exc x σ
 | .cons cs n b hs=>match isI cs P x with
  | some true=>match n with
   | none=>exs σ b
   | some i=>match exs (σ.set i (.sh true x)) b with
    | .next σ'=>.next (σ'.set i .dead)
    | .brk σ'=>.brk (σ'.set i .dead)
    | .cnt σ'=>.cnt (σ'.set i .dead)
    | .exc x σ'=>.exc x (σ'.set i .dead)
    | o=>o
  | some false=>hdl σ x hs
  | none=>.bad
end
def tG(f:Nat)(ds:List D):R Rt:=match P.fns[f]? with
 | none=>.bad
 | some F=>if ds.length=F.np then
  match exs P cl ((ds.map λd=>Sl.sh true d)++List.replicate (F.ns-F.np) Sl.dead) F.body with
  | .ret v=>.ok (v.d,v.fr,v.pa)
  | .next _=>.ok (.non,false,false)
  | .exc x _=>.exc x
  | _=>.bad
  else .bad
end
def call(P:Pg):Nat->Caller
 | 0=>λ_ _=>.bad
 | n+1=>tG P (call P n)
end Hp
end
noncomputable section
namespace Hp
open PySem
structure Ct where
 N:List Str
 sc:List (Str×NameKind)
 fns:List Str
 cns:List (Str×D)
 cls:List Str
 fn:Bool
 tbs:List Str
def aCA(Γ:Ct)(x:Str):Bool:=match Γ.sc.lookup x with
 | some .local=>true
 | some .cell=>true
 | some .free=>true
 | _=>false
def vI(Γ:Ct)(x:Str):Bool:=match Γ.sc.lookup x with
 | some .local=>true
 | some .cell=>Γ.fn
 | _=>false
def pB(sc names:List (Str×NameKind)):List (Str×NameKind):=names.map λ(n,k)=>if (k==.free&&sc.lookup n==some .cell) then (n,.cell) else (n,k)
def pC:Expr->Bool
 | .Tuple _ _ _=>true
 | _=>false
def tIx:T->List Nat
 | .n i=>[i]
 | .t is=>is
def dJ(Γ:Ct)(x:Str):Bool:=match Γ.sc.lookup x with
 | some .globalImplicit=>true
 | _=>false
def cZ(x:Str):Bool:=!(x==("__debug__" : Str))&&!(x==("__classdict__" : Str))
def eP(Γ:Ct)(i:Nat)(x:Str):Bool:=(Γ.N[i]?==some x)&&aCA Γ x&&cZ x
def cT(Γ:Ct)(i:Nat)(x:Str):Bool:=(Γ.N[i]?==some x)&&vI Γ x&&cZ x
def eqC:D->Const->Bool
 | .non,.none=>true
 | .bl a,.bool b=>a==b
 | .int a,.int b=>a==b
 | .str a,.str b=>a==b
 | _,_=>false
def eqK:D->D->Bool
 | .non,.non=>true
 | .bl a,.bl b=>a==b
 | .int a,.int b=>a==b
 | .str a,.str b=>a==b
 | _,_=>false
def kL:Bi->Str
 | .len => "len" | .list => "list" | .tuple => "tuple" | .min => "min" | .max => "max" | .abs => "abs" | .int => "int" | .str => "str" | .sum => "sum" | .all => "all" | .any => "any" | .sorted => "sorted" | .bool => "bool" | .repr => "repr"
def aCB:Bi->Bool
 | .len=>true|.list=>true|.tuple=>true|.min=>true|.int=>true|.all=>true|.any=>true
 | _=>false
def aMa:Cl->Bool
 | .own _=>false
 | .tValueError=>false
 | _=>true
def yI(Γ:Ct):Cl->Option Str
 | .tInt=>some "int" | .tBool=>some "bool" | .tStr=>some "str" | .tList=>some "list" | .tTuple=>some "tuple" | .tDict=>some "dict" | .tValueError=>some "ValueError"
 | .own c=>Γ.cls[c]?
def aFZ(Γ:Ct)(c:Cl):Expr->Bool
 | .Name x _=>(yI Γ c==some x)&&dJ Γ x&&cZ x
 | _=>false
def rB(Γ:Ct):T->Expr->Bool
 | .n i,.Name x _=>cT Γ i x
 | .t is,.Tuple es _ _=>is.length==es.length&&(is.zip es).all λp=>match p.2 with
  | .Name x _=>cT Γ p.1 x
  | _=>false
 | _,_=>false
def gN:Expr->List Str
 | .Name x _=>[x]
 | .Tuple es _ _=>es.filterMap fun|.Name x _=>some x|_=>none
 | _=>[]
def yJ:E->Bool
 | .c (.int i)=>i==0
 | _=>false
def asC(e:Expr):Option { c:Const // ∃k p,e=.Constant c k p }:=match e with
 | .Constant c k p=>some ⟨c,k,p,rfl⟩
 | _=>none
def asN(e:Expr):Option { x:Str // ∃p,e=.Name x p }:=match e with
 | .Name x p=>some ⟨x,p,rfl⟩
 | _=>none
def aJE(e:Expr):Option { r:Expr×Operator×Expr // ∃p,e=.BinOp r.1 r.2.1 r.2.2 p }:=match e with
 | .BinOp l o r p=>some ⟨(l,o,r),p,rfl⟩
 | _=>none
def aJF(e:Expr):Option { r:UnaryOp×Expr // ∃p,e=.UnaryOp r.1 r.2 p }:=match e with
 | .UnaryOp o x p=>some ⟨(o,x),p,rfl⟩
 | _=>none
def aJG(e:Expr):Option { r:BoolOp×List Expr×Pos // e=.BoolOp r.1 r.2.1 r.2.2 }:=match e with
 | .BoolOp o xs p=>some ⟨(o,xs,p),rfl⟩
 | _=>none
def aMb(e:Expr):Option { r:Expr×Expr×Expr // ∃p,e=.IfExp r.1 r.2.1 r.2.2 p }:=match e with
 | .IfExp t a b p=>some ⟨(t,a,b),p,rfl⟩
 | _=>none
def aGa(e:Expr):Option { r:Expr×List CmpOp×List Expr // ∃p,e=.Compare r.1 r.2.1 r.2.2 p }:=match e with
 | .Compare l os rs p=>some ⟨(l,os,rs),p,rfl⟩
 | _=>none
def aCC(e:Expr):Option { r:Expr×Expr // ∃p,e=.Subscript r.1 r.2 p }:=match e with
 | .Subscript x i p=>some ⟨(x,i),p,rfl⟩
 | _=>none
def aMc(e:Expr):Option { r:Option Expr×Option Expr // ∃p,e=.Slice r.1 r.2 none p }:=match e with
 | .Slice l h none p=>some ⟨(l,h),p,rfl⟩
 | _=>none
def aJH(e:Expr):Option { r:List Expr // ∃k p,e=.Tuple r k p }:=match e with
 | .Tuple xs k p=>some ⟨xs,k,p,rfl⟩
 | _=>none
def aJI(e:Expr):Option { r:List Expr // ∃p,e=.List r p }:=match e with
 | .List xs p=>some ⟨xs,p,rfl⟩
 | _=>none
def mO(e:Expr):Option { r:Str×List Expr // ∃p1 p2,e=.Call (.Name r.1 p1) r.2 [] p2 }:=match e with
 | .Call (.Name x p1) xs [] p2=>some ⟨(x,xs),p1,p2,rfl⟩
 | _=>none
def aMd(e:Expr):Option { r:Expr×Str×List Expr×Bool // ∃ap cp,e=.Call (.Attribute r.1 r.2.1 ap) r.2.2.1 [] cp/\(ap.endLine==cp.line)=r.2.2.2 }:=match e with
 | .Call (.Attribute x a ap) xs [] cp=>some ⟨(x,a,xs,ap.endLine==cp.line),ap,cp,rfl,rfl⟩
 | _=>none
def aMe(e:Expr):Option { r:Expr×List Comprehension×Scope // ∃p,e=.ListComp r.1 r.2.1 r.2.2 p }:=match e with
 | .ListComp e gs s p=>some ⟨(e,gs,s),p,rfl⟩
 | _=>none
def oB{α:Type}(o:Option α)(f:α->Bool):Bool:=match o with
 | some a=>f a
 | none=>false
def oS{α:Type}{q:α->Prop}(o:Option { a:α // q a })(f:α->Bool):Bool:=match o with
 | some a=>f a.1
 | none=>false
mutual
def aW(Γ:Ct):E->Expr->Bool
 | .c d,e=>oS (asC e) (eqC d)||oS (asN e) λx=>dJ Γ x&&cZ x&&oB (Γ.cns.lookup x) (eqK d)
 | .v i,e=>oS (asN e) (eP Γ i)
 | .op o a b,e=>oS (aJE e) λp=>o==p.2.1&&aW Γ a p.1&&aW Γ b p.2.2
 | .neg a,e=>oS (aJF e) λp=>p.1==.USub&&aW Γ a p.2
 | .nt a,e=>oS (aJF e) λp=>p.1==.Not&&aW Γ a p.2
 | .an a b,e=>oS (aJG e) λp=>p.1==.And&&(match p.2.1 with
  | [x,y]=>aW Γ a x&&aW Γ b y
  | x::y::z::r=>aW Γ a x&&aW Γ b (.BoolOp .And (y::z::r) p.2.2)
  | _=>false)
 | .orr a b,e=>oS (aJG e) λp=>p.1==.Or&&(match p.2.1 with
  | [x,y]=>aW Γ a x&&aW Γ b y
  | x::y::z::r=>aW Γ a x&&aW Γ b (.BoolOp .Or (y::z::r) p.2.2)
  | _=>false)
 | .ife t a b,e=>oS (aMb e) λp=>aW Γ t p.1&&aW Γ a p.2.1&&aW Γ b p.2.2
 | .cmp o a b,e=>oS (aGa e) λp=>(match p.2.1,p.2.2 with
  | [o'],[r]=>o==o'&&aW Γ a p.1&&aW Γ b r
  | _,_=>false)
 | .cmp2 o1 o2 a b c,e=>oS (aGa e) λp=>(match p.2.1,p.2.2 with
  | [o1',o2'],[m,r]=>o1==o1'&&o2==o2'&&aW Γ a p.1&&aW Γ b m&&aW Γ c r
  | _,_=>false)
 | .idx a b,e=>oS (aCC e) λp=>aW Γ a p.1&&aW Γ b p.2
 | .sli a lo hi,e=>oS (aCC e) λp=>oS (aMc p.2) λq=>aW Γ a p.1&&chkO Γ lo q.1&&chkO Γ hi q.2
 | .tup es,e=>oS (aJH e) λxs=>decide (xs.length<=1000)&&chkEs Γ es xs
 | .lst es,e=>oS (aJI e) λxs=>decide (xs.length<=1000)&&chkEs Γ es xs
 | .call f es,e=>oS (mO e) λp=>(Γ.fns[f]?==some p.1)&&dJ Γ p.1&&cZ p.1&&chkEs Γ es p.2
 | .sset a,e=>oS (mO e) λp=>(match p.2 with
  | [s]=>oS (mO s) λq=>(p.1==("sorted" : Str))&&dJ Γ p.1&&(q.1==("set" : Str))&&dJ Γ q.1&&(match q.2 with|[x]=>aW Γ a x|_=>false)
  | _=>false)
 | .bi b es,e=>oS (mO e) λp=>aCB b&&(kL b==p.1)&&dJ Γ p.1&&cZ p.1&&!p.2.isEmpty&&chkEs Γ es p.2
 | .mth _ _ _,_=>false
 | .numset a,e=>oS (mO e) λp=>(match p.2 with
  | [s]=>oS (mO s) λq=>(p.1==("len" : Str))&&dJ Γ p.1&&(q.1==("set" : Str))&&dJ Γ q.1&&(match q.2 with|[x]=>aW Γ a x|_=>false)
  | _=>false)
 | .tget i a,e=>oS (aMd e) λp=>oS (asN p.1) λx=>(p.2.1==("get" : Str))&&(Γ.tbs[i]?==some x)&&dJ Γ x&&cZ x&&p.2.2.2&&(match p.2.2.1 with|[y]=>aW Γ a y|_=>false)
 | .lzip _ _,_=>false
 | .isi a cs,e=>oS (mO e) λp=>(match cs,p.2 with
  | [c],[x,y]=>(p.1==("isinstance" : Str))&&dJ Γ p.1&&aMa c&&aW Γ a x&&aFZ Γ c y
  | _,_=>false)
 | .comp k caps t it cond elt,e=>oS (aMe e) λp=>(match p.2.1 with
  | [⟨tg,iter,ifs,as⟩]=>
   as==0&&(gN tg).length==k&&(caps.all λi=>decide (i<Γ.N.length))&&decide caps.Nodup&&p.2.2.kind==.function&&decide (gN tg++caps.filterMap λi=>Γ.N[i]?).Nodup &&
   ((caps.filterMap λi=>Γ.N[i]?).all λx=>p.2.2.names.lookup x==some .free&&Γ.sc.lookup x==some .cell) &&
   (p.2.2.names.all λq=>q.2 != .cell&&(q.2 != .local||p.2.2.names.lookup q.1==some .local)&&(q.2 != .free||Γ.sc.lookup q.1==some .cell)) &&
   ((tIx t).all λi=>decide (i<k))&&decide (ifs.length<=1) &&
   rB { Γ with N:=gN tg++caps.filterMap λi=>Γ.N[i]?,sc:=pB Γ.sc p.2.2.names,fn:=false } t tg&&chkI Γ (pC tg) it iter &&
   chkEs { Γ with N:=gN tg++caps.filterMap λi=>Γ.N[i]?,sc:=pB Γ.sc p.2.2.names,fn:=false } cond ifs &&
   aW { Γ with N:=gN tg++caps.filterMap λi=>Γ.N[i]?,sc:=pB Γ.sc p.2.2.names,fn:=false } elt p.1
  | _=>false)
 | .dic _ _,_=>false
 | .attr _ _,_=>false
def chkEs(Γ:Ct):Es->List Expr->Bool
 | .nil,[]=>true
 | .cons e es,x::xs=>aW Γ e x&&chkEs Γ es xs
 | _,_=>false
def chkO(Γ:Ct):Es->Option Expr->Bool
 | .nil,none=>true
 | .cons e .nil,some x=>aW Γ e x
 | _,_=>false
def chkI(Γ:Ct)(tt:Bool):It->Expr->Bool
 | .rng a b,e=>oS (mO e) λp=>(p.1==("range" : Str))&&dJ Γ p.1&&(match p.2 with
  | [x]=>yJ a&&aW Γ b x
  | [x,y]=>aW Γ a x&&aW Γ b y
  | _=>false)
 | .zip a b,e=>oS (mO e) λp=>(match p.2 with
  | [x,y]=>tt&&(p.1==("zip" : Str))&&dJ Γ p.1&&aW Γ a x&&aW Γ b y
  | _=>false)
 | .seq c,x=>aW Γ c x
 | .enum a,e=>oS (mO e) λp=>(match p.2 with
  | [x]=>tt&&(p.1==("enumerate" : Str))&&dJ Γ p.1&&aW Γ a x
  | _=>false)
 | .rev _,_=>false
end
def pD:Expr->Bool
 | .ListComp _ _ _ _=>true
 | .SetComp _ _ _ _=>true
 | .DictComp _ _ _ _ _=>true
 | _=>false
def yK:Expr->Bool
 | .Tuple _ _ _=>true
 | .List _ _=>true
 | _=>false
def aHf:Expr->Bool
 | .Name _ _=>true
 | _=>false
def vJ(Γ:Ct)(i:Nat)(m:Str):Expr->Option (List Expr)
 | .Call (.Attribute (.Name x _) a ap) xs [] cp=>if (a==m)&&eP Γ i x&&(ap.endLine==cp.line) then some xs else none
 | _=>none
def aHg(s:Stmt):Option { r:Expr×Expr // ∃p,s=.Assign [r.1] r.2 p }:=match s with
 | .Assign [t] v p=>some ⟨(t,v),p,rfl⟩
 | _=>none
def sEx(s:Stmt):Option { r:Expr // ∃p,s=.Expr r p }:=match s with
 | .Expr v p=>some ⟨v,p,rfl⟩
 | _=>none
def aHh(s:Stmt):Option { r:Option Expr // ∃p,s=.Return r p }:=match s with
 | .Return v p=>some ⟨v,p,rfl⟩
 | _=>none
def sIf(s:Stmt):Option { r:Expr×List Stmt×List Stmt // ∃p,s=.If r.1 r.2.1 r.2.2 p }:=match s with
 | .If t x y p=>some ⟨(t,x,y),p,rfl⟩
 | _=>none
def aMf(s:Stmt):Option { r:Expr×Expr×List Stmt // ∃p,s=.For r.1 r.2.1 r.2.2 [] p }:=match s with
 | .For t i b [] p=>some ⟨(t,i,b),p,rfl⟩
 | _=>none
def aMg(s:Stmt):Option { r:Unit // ∃p,s=.Break p }:=match s with
 | .Break p=>some ⟨(),p,rfl⟩
 | _=>none
def aMh(s:Stmt):Option { r:Unit // ∃p,s=.Continue p }:=match s with
 | .Continue p=>some ⟨(),p,rfl⟩
 | _=>none
def aJJ(s:Stmt):Option { r:Unit // ∃p,s=.Pass p }:=match s with
 | .Pass p=>some ⟨(),p,rfl⟩
 | _=>none
def aJK(s:Stmt):Option { r:List Stmt // ∃h hs p,s=.Try r (h::hs) [] [] p }:=match s with
 | .Try b (h::hs) [] [] p=>some ⟨b,h,hs,p,rfl⟩
 | _=>none
mutual
def iV(Γ:Ct):S->Stmt->Bool
 | .set t e,s=>oS (aHg s) λr=>rB Γ t r.1&&aW Γ e r.2&&(aHf r.1||!yK r.2)
 | .mov i j,s=>oS (aHg s) λr=>oS (asN r.1) λx=>oS (asN r.2) λy=>cT Γ i x&&eP Γ j y
 | .setIx i k e,s=>oS (aHg s) λr=>oS (aCC r.1) λu=>oS (asN u.1) λx=>eP Γ i x&&aW Γ k u.2&&aW Γ e r.2
 | .app i e,s=>oS (sEx s) λc=>(match vJ Γ i "append" c with|some [a]=>aW Γ e a|_=>false)
 | .appCall _ _ _,_=>false
 | .ext i e,s=>oS (sEx s) λc=>(match vJ Γ i "extend" c with|some [a]=>aW Γ e a|_=>false)
 | .pop _ _ _,_=>false
 | .clr _,_=>false
 | .rev _,_=>false
 | .ret e,s=>oS (aHh s) λr=>oB r (aW Γ e)
 | .retv i,s=>oS (aHh s) λr=>oB r λv=>oS (asN v) (eP Γ i)
 | .retN,s=>oS (aHh s) λr=>r.isNone
 | .iff c a b,s=>oS (sIf s) λr=>aW Γ c r.1&&chkSs Γ a r.2.1&&chkSs Γ b r.2.2
 | .for t it b,s=>oS (aMf s) λr=>rB Γ t r.1&&chkI Γ (pC r.1) it r.2.1&&chkSs Γ b r.2.2
 | .whl _ _,_=>false
 | .brk,s=>oS (aMg s) λ_=>true
 | .cnt,s=>oS (aMh s) λ_=>true
 | .pass,s=>oS (aJJ s) λ_=>true
 | .ex e,s=>oS (sEx s) λv=>aW Γ e v&&!pD v
 | .rse _ _ _,_=>true
 | .ins _ _ _,_=>false
 | .try _ _,_=>false
 | .tryN b,s=>oS (aJK s) λr=>chkSs Γ b r
def chkSs(Γ:Ct):Ss->List Stmt->Bool
 | .nil,[]=>true
 | .cons s ss,x::xs=>iV Γ s x&&chkSs Γ ss xs
 | _,_=>false
end
end Hp
end
noncomputable section
namespace Hp
open PySem PySem.Spec PyProof.Rows L2
theorem lF(n:Nat){d:Nat}(hd:d<=n):∀lo,sIx n d lo<=n
 | none=>hd
 | some v=>by
  unfold sIx
  dsimp only
  split <;> omega
theorem vK(lo hi:Option Int)(n:Nat):Builtin.Str.strSliceIndices lo hi 1 n=Builtin.Str.strSliceIndices (some ((sIx n 0 lo:Nat):Int)) (some ((sIx n n hi:Nat):Int)) 1 n:=by
 have h1:(1:Int)>0:=by decide
 have key:∀(d:Nat) (hd:d<=n) (o:Option Int),(match o with|none=>(d:Int)|some i=>max 0 (min (if i<0 then i+(n:Int) else i) (n:Int)))=((sIx n d o:Nat):Int):=by
  intro d hd o
  cases o with
  | none=>rfl
  | some i=>
   unfold sIx
   dsimp only
   split <;> omega
 have k2:∀(m:Nat),m<=n->max (0:Int) (min (if (m:Int)<0 then (m:Int)+(n:Int) else (m:Int)) (n:Int))=(m:Int):=by
  intro m hm
  split <;> omega
 unfold Builtin.Str.strSliceIndices
 simp only[h1,if_true]
 have e1:=key 0 (Nat.zero_le _) lo
 have e2:=key n (Nat.le_refl _) hi
 have f1:=k2 _ (lF n (Nat.zero_le _) lo)
 have f2:=k2 _ (lF n (Nat.le_refl _) hi)
 rw[f1,f2]
 cases lo <;> cases hi <;> simp_all
theorem rC(x:Str)(lo hi:Option Int):StrLaws.sliceText x lo hi=yF x lo hi:=by
 have hl:x.cps.toList.length=x.length:=by show _=x.cps.size;simp
 have e:StrLaws.sliceText x lo hi=StrLaws.sliceText x (some ((sIx x.length 0 lo:Nat):Int)) (some ((sIx x.length x.length hi:Nat):Int)):=by
  unfold StrLaws.sliceText
  rw[vK]
 rw[e]
 unfold yF cut
 rw[hl]
 by_cases h:sIx x.length 0 lo<=sIx x.length x.length hi
 . exact StrLaws.sliceText_nat x h (lF _ (Nat.le_refl _) hi)
 . have h0:sIx x.length x.length hi-sIx x.length 0 lo=0:=by omega
   have hlo:=lF x.length (Nat.zero_le _) lo
   have hhi:=lF x.length (Nat.le_refl _) hi
   rw[h0,List.take_zero]
   generalize sIx x.length 0 lo=i at *
   generalize sIx x.length x.length hi=j at *
   have he:Builtin.Str.strSliceIndices (some (i:Int)) (some (j:Int)) 1 x.length=[]:=by
    unfold Builtin.Str.strSliceIndices
    have h1:(1:Int)>0:=by decide
    simp only[h1,if_true]
    rw[if_neg (by omega),if_neg (by omega)]
    have a1:max (0:Int) (min (i:Int) (x.length:Int))=i:=by omega
    have a2:max (0:Int) (min (j:Int) (x.length:Int))=j:=by omega
    rw[a1,a2]
    unfold sliceRange
    simp
    omega
   unfold StrLaws.sliceText
   rw[he]
   simp
   intro hz
   omega
def aCD:V->Option Int->Option Int->L2.Hp->VK->Prop:=λx lo hi H Q=>∃a,x=.str a/\a.length<=sizeLine/\Q (.str (yF a lo hi)) H
section
variable {X:Cx}
theorem aHi:SlR X aCD:=by
 intro pins s σ H x v vl vu lo hi sl Q I rx hs pl pu h
 obtain⟨a,rfl,hz,q⟩:=h
 obtain⟨t,rfl⟩:=rx
 have fin:∀(l u:Option (Int×Tok)),l.map (·.1)=lo->u.map (·.1)=hi->s.heap.IsSlice sl l u none->wpAny (model X.prog X.w) X.A (getItem (.str a t) (.ref sl)) (EP X pins σ Q) X.xe s:=by
  intro l u e1 e2 h
  refine wpAny_getItem_str_slice h rfl ?_
  have e:StrLaws.sliceText a lo hi=yF a lo hi:=rC a lo hi
  unfold StrLaws.sliceText at e
  subst e1 e2
  show Made.post (if ((1:Int)==1&&(Builtin.Str.strSliceIndices (l.map (·.1)) (u.map (·.1)) 1 a.length).length==a.length)=true then _ else _) _ s
  split
  . rename_i hc
    rw[if_pos hc] at e
    exact⟨.str a,H,I,⟨t,rfl⟩,by rw[e];exact q⟩
  . rename_i hc
    rw[if_neg hc] at e
    have hle:(yF a (l.map (·.1)) (u.map (·.1))).length<=sizeLine:=by
     refine Nat.le_trans ?_ hz
     show(cut a.cps.toList _ _).toArray.size<=a.cps.size
     unfold cut
     rw[List.size_toArray,List.length_take,List.length_drop,Array.length_toList]
     omega
    refine⟨by rw[<-e] at hle;exact hle,.str (yF a (l.map (·.1)) (u.map (·.1))),H,I.tok _,?_,q⟩
    rw[<-e]
    exact⟨_,rfl⟩
 refine⟨"str",_,slot_str_getitem.lookup,rfl,?_⟩
 cases pl with
 | none=>
  cases pu with
  | none=>exact fin none none rfl rfl hs
  | int j tj=>exact fin none (some (j,tj)) rfl rfl hs
 | int i ti=>
  cases pu with
  | none=>exact fin (some (i,ti)) none rfl rfl hs
  | int j tj=>exact fin (some (i,ti)) (some (j,tj)) rfl rfl hs
end
end Hp
end
noncomputable section
namespace Hp
open PySem L2
abbrev Fg:=PySem.W.Frag
def kD:Key->D
 | .inl i=>.int i
 | .inr x=>.str x
mutual
def Rep(K:Fg)(H:Hp)(ex:Addr->Prop):D->V->Prop
 | .non,v=>v=.non
 | .bl b,v=>v=.bl b
 | .int i,v=>v=.int i
 | .str x,v=>v=.str x
 | .tup ds,v=>∃a xs,v=.ref a/\SqT K H a xs/\Reps K H ex ds xs
 | .lst ds,v=>∃a xs,v=.ref a/\SqL K H a xs/\¬ ex a/\Reps K H ex ds xs
 | .dic kvs,v=>∃a ks,v=.ref a/\H a=some (.dK ks)/\RepKV K H ex kvs ks
 | .err _ _,_=>False
def Reps(K:Fg)(H:Hp)(ex:Addr->Prop):List D->List V->Prop
 | [],xs=>xs=[]
 | d::ds,xs=>∃x r,xs=x::r/\Rep K H ex d x/\Reps K H ex ds r
def RepKV(K:Fg)(H:Hp)(ex:Addr->Prop):List (D×D)->List (Key×V)->Prop
 | [],ks=>ks=[]
 | (k,d)::r,ks=>∃k' x r',ks=(k',x)::r'/\kD k'=k/\Rep K H ex d x/\RepKV K H ex r r'
end
section
variable {K:Fg} {H H':Hp} {ex ex':Addr->Prop}
theorem aU.seqT{a:Addr}{xs:List V}(e:aU H H')(h:SqT K H a xs):SqT K H' a xs:=by
 rcases h with(h|⟨o,h⟩)|h
 . exact .inl (.inl (e _ _ h))
 . exact .inl (.inr ⟨o,e _ _ h⟩)
 . exact .inr h
mutual
theorem Rep.imp(hT:∀a xs,SqT K H a xs->SqT K H' a xs)(hL:∀a xs,¬ ex a->SqL K H a xs->¬ ex' a/\SqL K H' a xs)(hD:∀a ks,H a=some (.dK ks)->H' a=some (.dK ks)) :
 ∀(d:D) (v:V),Rep K H ex d v->Rep K H' ex' d v
 | .non,_,h=>h
 | .bl _,_,h=>h
 | .int _,_,h=>h
 | .str _,_,h=>h
 | .tup ds,_,h=>by
  obtain⟨a,xs,e,q,r⟩:=h
  exact⟨a,xs,e,hT a xs q,Reps.imp hT hL hD ds xs r⟩
 | .lst ds,_,h=>by
  obtain⟨a,xs,e,q,n,r⟩:=h
  obtain⟨n',q'⟩:=hL a xs n q
  exact⟨a,xs,e,q',n',Reps.imp hT hL hD ds xs r⟩
 | .dic kvs,_,h=>by
  obtain⟨a,ks,e,q,r⟩:=h
  exact⟨a,ks,e,hD a ks q,RepKV.imp hT hL hD kvs ks r⟩
 | .err _ _,_,h=>h.elim
theorem Reps.imp(hT:∀a xs,SqT K H a xs->SqT K H' a xs)(hL:∀a xs,¬ ex a->SqL K H a xs->¬ ex' a/\SqL K H' a xs)(hD:∀a ks,H a=some (.dK ks)->H' a=some (.dK ks)) :
 ∀(ds:List D) (xs:List V),Reps K H ex ds xs->Reps K H' ex' ds xs
 | [],_,h=>h
 | d::ds,_,h=>by
  obtain⟨x,r,e,h1,h2⟩:=h
  exact⟨x,r,e,Rep.imp hT hL hD d x h1,Reps.imp hT hL hD ds r h2⟩
theorem RepKV.imp(hT:∀a xs,SqT K H a xs->SqT K H' a xs)(hL:∀a xs,¬ ex a->SqL K H a xs->¬ ex' a/\SqL K H' a xs)(hD:∀a ks,H a=some (.dK ks)->H' a=some (.dK ks)) :
 ∀(ds:List (D×D)) (xs:List (Key×V)),RepKV K H ex ds xs->RepKV K H' ex' ds xs
 | [],_,h=>h
 | (k,d)::ds,_,h=>by
  obtain⟨k',x,r,e,ek,h1,h2⟩:=h
  exact⟨k',x,r,e,ek,Rep.imp hT hL hD d x h1,RepKV.imp hT hL hD ds r h2⟩
end
theorem Rep.weak{d:D}{v:V}(h:Rep K H ex d v)(e:∀a,ex' a->ex a):Rep K H ex' d v:=Rep.imp (λ_ _ q=>q) (λa _ n q=>⟨λz=>n (e a z),q⟩) (λ_ _ q=>q) d v h
theorem Reps.weak{d:List D}{v:List V}(h:Reps K H ex d v)(e:∀a,ex' a->ex a):Reps K H ex' d v:=Reps.imp (λ_ _ q=>q) (λa _ n q=>⟨λz=>n (e a z),q⟩) (λ_ _ q=>q) d v h
theorem Rep.grow{d:D}{v:V}(h:Rep K H ex d v)(s:aU H H'):Rep K H' ex d v:=Rep.imp (λ_ _ q=>aU.seqT s q) (λ_ _ n q=>⟨n,s.seq q⟩) (λ_ _ q=>s _ _ q) d v h
theorem Reps.grow{d:List D}{v:List V}(h:Reps K H ex d v)(s:aU H H'):Reps K H' ex d v:=Reps.imp (λ_ _ q=>aU.seqT s q) (λ_ _ n q=>⟨n,s.seq q⟩) (λ_ _ q=>s _ _ q) d v h
theorem Rep.keep{d:D}{v:V}(h:Rep K H ex d v)(s:∀a o,H a=some o->(∀xs,o=.lst xs->¬ ex a)->H' a=some o):Rep K H' ex d v:=by
 refine Rep.imp (λa xs q=>?_) (λa xs n q=>⟨n,?_⟩) (λa ks q=>s a _ q (λxs e=>by cases e)) d v h
 . rcases q with(q|⟨o,q⟩)|q
   . exact .inl (.inl (s _ _ q λxs e=>by cases e))
   . exact .inl (.inr ⟨o,s _ _ q λxs e=>by cases e⟩)
   . exact .inr q
 . rcases q with(q|⟨o,q⟩)|q
   . exact .inl (.inl (s _ _ q λ_ _=>n))
   . exact .inl (.inr ⟨o,s _ _ q λxs e=>by cases e⟩)
   . exact .inr q
theorem Reps.keep{d:List D}{v:List V}(h:Reps K H ex d v)(s:∀a o,H a=some o->(∀xs,o=.lst xs->¬ ex a)->H' a=some o):Reps K H' ex d v:=by
 refine Reps.imp (λa xs q=>?_) (λa xs n q=>⟨n,?_⟩) (λa ks q=>s a _ q (λxs e=>by cases e)) d v h
 . rcases q with(q|⟨o,q⟩)|q
   . exact .inl (.inl (s _ _ q λxs e=>by cases e))
   . exact .inl (.inr ⟨o,s _ _ q λxs e=>by cases e⟩)
   . exact .inr q
 . rcases q with(q|⟨o,q⟩)|q
   . exact .inl (.inl (s _ _ q λ_ _=>n))
   . exact .inl (.inr ⟨o,s _ _ q λxs e=>by cases e⟩)
   . exact .inr q
mutual
theorem Rep.free:∀(d:D) (v:V),noL d=true->Rep K H ex d v->Rep K H ex' d v
 | .non,_,_,h=>h
 | .bl _,_,_,h=>h
 | .int _,_,_,h=>h
 | .str _,_,_,h=>h
 | .tup ds,_,n,h=>by
  obtain⟨a,xs,e,q,r⟩:=h
  exact⟨a,xs,e,q,Reps.free ds xs (by simpa[noL] using n) r⟩
 | .lst ds,_,n,_=>by simp[noL] at n
 | .dic kvs,_,n,_=>by simp[noL] at n
 | .err _ _,_,n,_=>by simp[noL] at n
theorem Reps.free:∀(ds:List D) (xs:List V),noLs ds=true->Reps K H ex ds xs->Reps K H ex' ds xs
 | [],_,_,h=>h
 | d::ds,_,n,h=>by
  obtain⟨x,r,e,h1,h2⟩:=h
  simp only[noLs,bA] at n
  exact⟨x,r,e,Rep.free d x n.1 h1,Reps.free ds r n.2 h2⟩
end
theorem Reps.length:∀{ds:List D} {xs:List V},Reps K H ex ds xs->ds.length=xs.length
 | [],_,h=>by rw[show _=[] from h];rfl
 | d::ds,_,h=>by
  obtain⟨x,r,e,_,h2⟩:=h
  subst e
  rw[lC,lC,Reps.length h2]
theorem Reps.get:∀{ds:List D} {xs:List V} {j:Nat} {d:D},Reps K H ex ds xs->ds[j]? = some d->∃x,xs[j]? = some x/\Rep K H ex d x
 | [],_,_,_,_,e=>by simp at e
 | d::ds,_,0,_,h,e=>by
  obtain⟨x,r,e',h1,_⟩:=h
  subst e'
  simp at e
  subst e
  exact⟨x,rfl,h1⟩
 | d::ds,_,j+1,d',h,e=>by
  obtain⟨x,r,e',_,h2⟩:=h
  subst e'
  obtain⟨y,hy,q⟩:=Reps.get (j:=j) (d:=d') h2 (by simpa using e)
  exact⟨y,by simpa using hy,q⟩
theorem Reps.get'{ds:List D}{xs:List V}{j:Nat}{x:V}(h:Reps K H ex ds xs)(e:xs[j]? = some x):∃d,ds[j]? = some d/\Rep K H ex d x:=by
 have hl:=h.length
 have hj:j<xs.length:=(List.getElem?_eq_some_iff.mp e).1
 obtain⟨d,hd⟩:∃d,ds[j]? = some d:=⟨ds[j],List.getElem?_eq_getElem (by omega)⟩
 obtain⟨y,hy,q⟩:=h.get hd
 rw[e] at hy
 cases hy
 exact⟨d,hd,q⟩
theorem Reps.nil:Reps K H ex [] []:=rfl
theorem Reps.cons{d:D}{ds:List D}{x:V}{xs:List V}(h:Rep K H ex d x)(t:Reps K H ex ds xs):Reps K H ex (d::ds) (x::xs):=⟨x,xs,rfl,h,t⟩
theorem Reps.append:∀{ds es:List D} {xs ys:List V},Reps K H ex ds xs->Reps K H ex es ys->Reps K H ex (ds++es) (xs++ys)
 | [],_,_,_,h,t=>by rw[show _=[] from h];exact t
 | d::ds,_,_,_,h,t=>by
  obtain⟨x,r,e,h1,h2⟩:=h
  subst e
  exact⟨x,_,rfl,h1,Reps.append h2 t⟩
theorem Reps.take:∀{ds:List D} {xs:List V} (n:Nat),Reps K H ex ds xs->Reps K H ex (ds.take n) (xs.take n)
 | _,_,0,_=>by simp[Reps]
 | [],_,n+1,h=>by rw[show _=[] from h];simp[Reps]
 | d::ds,_,n+1,h=>by
  obtain⟨x,r,e,h1,h2⟩:=h
  subst e
  exact⟨x,_,rfl,h1,Reps.take n h2⟩
theorem Reps.drop:∀{ds:List D} {xs:List V} (n:Nat),Reps K H ex ds xs->Reps K H ex (ds.drop n) (xs.drop n)
 | _,_,0,h=>h
 | [],_,n+1,h=>by rw[show _=[] from h];simp[Reps]
 | d::ds,_,n+1,h=>by
  obtain⟨x,r,e,h1,h2⟩:=h
  subst e
  exact Reps.drop n h2
theorem Reps.set:∀{ds:List D} {xs:List V} {d:D} {x:V} (j:Nat),Reps K H ex ds xs->Rep K H ex d x->Reps K H ex (ds.set j d) (xs.set j x)
 | [],_,_,_,_,h,_=>by rw[show _=[] from h];simp[Reps]
 | d::ds,_,_,_,0,h,q=>by
  obtain⟨x,r,e,h1,h2⟩:=h
  subst e
  exact⟨_,_,rfl,q,h2⟩
 | d::ds,_,_,_,j+1,h,q=>by
  obtain⟨x,r,e,h1,h2⟩:=h
  subst e
  exact⟨x,_,rfl,h1,Reps.set j h2 q⟩
theorem Reps.flat:∀{ds:List D} {xs:List V},Reps K H ex ds xs->∀k:Nat,Reps K H ex (List.replicate k ds).flatten (List.replicate k xs).flatten
 | _,_,_,0=>by simp[Reps]
 | ds,xs,h,k+1=>by
  rw[List.replicate_succ,List.replicate_succ,List.flatten_cons,List.flatten_cons]
  exact h.append (Reps.flat h k)
end
end Hp
end
noncomputable section
namespace Hp
open PySem PySem.Spec PyProof.Rows L2
theorem aLz(a b:Str):(a++b).length=a.length+b.length:=by
 show(a.cps++b.cps).size=_
 rw[Array.size_append];rfl
section
variable {X:Cx} {pins:List (Addr×Obj)} {σ:L2.St} {H:Hp} {s:Shared}
end
def RE{α:Type}:R α->(α->Prop)->Prop
 | .ok a,p=>p a
 | _,_=>False
theorem RE.mono{α:Type}{x:R α}{p q:α->Prop}(h:RE x p)(f:∀a,p a->q a):RE x q:=by
 cases x with
 | ok a=>exact f a h
 | exc e=>exact h
 | bad=>exact h
theorem RE.bind{α β:Type}{x:R α}{f:α->R β}{p:β->Prop}:RE (x >>= f) p=RE x λa=>RE (f a) p:=by
 cases x <;> rfl
theorem RE.iff{α:Type}{c:Bool}{x:R α}{p:α->Prop}(h:RE (R.iff c x) p):c=true/\RE x p:=by
 cases c with
 | true=>exact⟨rfl,h⟩
 | false=>exact h.elim
section
variable (K:Fg) (RT Y old:Addr->Prop)
def exB(pa:Bool)(a:Addr):Prop:=Y a\/(pa=false/\old a)
def Tk(H:Hp):Prop:=∀b,H b≠none->K.lookup b=none
structure Sx (σ:Sg) (σV:L2.St) (H:Hp):Prop where
 sh:∀(i:Nat) (pa:Bool) (d:D),σ[i]? = some (.sh pa d)->∃v,σV[i]? = some (some v)/\Rep K H (λa=>RT a\/exB Y old pa a) d v
 own:∀(i:Nat) (pa:Bool) (ds:List D),σ[i]? = some (.own pa ds)->∃a xs,σV[i]? = some (some (.ref a))/\H a=some (.lst xs)/\RT a/\¬ old a/\Reps K H (λa=>RT a\/exB Y old pa a) ds xs
 trk:∀a,RT a\/Y a\/old a->H a≠none
 yo:∀a,Y a->old a
 tk:Tk K H
 rt:∀a,RT a->∃xs,H a=some (.lst xs)
 inj:∀(i j:Nat) (pa pa':Bool) (ds ds':List D) (a:Addr),σ[i]? = some (.own pa ds)->σ[j]? = some (.own pa' ds')->σV[i]? = some (some (.ref a))->σV[j]? = some (some (.ref a))->i=j
 len:σ.length=σV.length
def alR(σ:Sg)(σV:L2.St)(al:List Nat)(a:Addr):Prop:=∃j∈al,(∃pa ds,σ[j]? = some (.own pa ds))/\σV[j]? = some (some (.ref a))
def exV(σ:Sg)(σV:L2.St)(pa:Bool)(al:List Nat)(a:Addr):Prop:=(RT a/\¬ alR σ σV al a)\/exB Y old pa a
def Rv(σ:Sg)(σV:L2.St)(H:Hp)(v:Vl)(u:V):Prop:=Rep K H (exV RT Y old σ σV v.pa v.al) v.d u
def Ro(σ:Sg)(σV:L2.St)(H H':Hp)(v:Vl)(u:V):Prop:=
 aU H H'/\(if v.fr=true then ∃a xs ds,u=.ref a/\v.d=.lst ds/\H a=none/\H' a=some (.lst xs)/\Reps K H' (λb=>b=a\/exV RT Y old σ σV v.pa v.al b) ds xs
  else Rv K RT Y old σ σV H' v u)
def Rvs(σ:Sg)(σV:L2.St)(H:Hp):List Vl->List V->Prop
 | [],us=>us=[]
 | v::vs,us=>∃u r,us=u::r/\Rv K RT Y old σ σV H v u/\Rvs σ σV H vs r
end
section
variable {K:Fg} {RT Y old:Addr->Prop} {σ:Sg} {σV:L2.St} {H H' H1 H2:Hp} {v:Vl} {u:V}
theorem Sx.grow(S:Sx K RT Y old σ σV H)(s:aU H H')(t:Tk K H'):Sx K RT Y old σ σV H' where
 sh:=λi pa d e=>let ⟨v,h1,h2⟩:=S.sh i pa d e;⟨v,h1,h2.grow s⟩
 own:=λi pa ds e=>let ⟨a,xs,h1,h2,h3,h4,h5⟩:=S.own i pa ds e;⟨a,xs,h1,s _ _ h2,h3,h4,h5.grow s⟩
 trk:=λa h z=>S.trk a h (s.free z)
 yo:=S.yo
 tk:=t
 rt:=λa h=>let ⟨xs,e⟩:=S.rt a h;⟨xs,s _ _ e⟩
 inj:=S.inj
 len:=S.len
theorem exV.trk(S:Sx K RT Y old σ σV H){pa:Bool}{al:List Nat}{a:Addr}(h:exV RT Y old σ σV pa al a):H a≠none:=by
 rcases h with⟨h,_⟩|h|⟨_,h⟩
 . exact S.trk a (.inl h)
 . exact S.trk a (.inr (.inl h))
 . exact S.trk a (.inr (.inr h))
theorem Ro.rv(S:Sx K RT Y old σ σV H)(h:Ro K RT Y old σ σV H H' v u):Rv K RT Y old σ σV H' v u:=by
 obtain⟨s,h⟩:=h
 by_cases hf:v.fr=true
 . rw[if_pos hf] at h
   obtain⟨a,xs,ds,e1,e2,e3,e4,r⟩:=h
   unfold Rv
   rw[e2]
   exact⟨a,xs,e1,SqL.of e4,λz=>exV.trk S z e3,r.weak λb z=>.inr z⟩
 . rw[if_neg hf] at h
   exact h
theorem Rv.grow(h:Rv K RT Y old σ σV H v u)(s:aU H H'):Rv K RT Y old σ σV H' v u:=Rep.grow h s
theorem Rvs.grow:∀{vs:List Vl} {us:List V},Rvs K RT Y old σ σV H vs us->aU H H'->Rvs K RT Y old σ σV H' vs us
 | [],_,h,_=>h
 | v::vs,_,h,s=>by
  obtain⟨u,r,e,h1,h2⟩:=h
  exact⟨u,r,e,h1.grow s,Rvs.grow h2 s⟩
theorem Ro.plain(s:aU H H')(hf:v.fr=false)(h:Rv K RT Y old σ σV H' v u):Ro K RT Y old σ σV H H' v u:=⟨s,by rw[if_neg (by rw[hf];decide)];exact h⟩
theorem Ro.from(h:Ro K RT Y old σ σV H1 H' v u)(s:aU H H1):Ro K RT Y old σ σV H H' v u:=by
 obtain⟨s',h⟩:=h
 refine⟨s.trans s',?_⟩
 by_cases hf:v.fr=true
 . rw[if_pos hf] at h ⊢
   obtain⟨a,xs,ds,e1,e2,e3,e4,r⟩:=h
   exact⟨a,xs,ds,e1,e2,s.free e3,e4,r⟩
 . rw[if_neg hf] at h ⊢
   exact h
theorem Ro.cl{d:D}(s:aU H H')(h:Rep K H' (exV RT Y old σ σV false []) d u):Ro K RT Y old σ σV H H' (.cl d) u:=Ro.plain s rfl h
theorem Rv.sub{d:D}{x:V}{ds:List D}{xs:List V}{j:Nat}(h:Rep K H (exV RT Y old σ σV v.pa v.al) d x):Rv K RT Y old σ σV H (v.sub d) x:=by
 unfold Rv Vl.sub
 by_cases hn:noL d=true
 . rw[if_pos hn]
   exact Rep.free d x hn h
 . rw[if_neg hn]
   exact h
theorem alR.mono{al al':List Nat}{a:Addr}(h:alR σ σV al a)(s:∀j∈al,j∈al'):alR σ σV al' a:=by
 obtain⟨j,hj,q⟩:=h
 exact⟨j,s j hj,q⟩
theorem exV.mono{pa pa':Bool}{al al':List Nat}{a:Addr}(h:exV RT Y old σ σV pa' al' a)(hp:pa=true->pa'=true)(s:∀j∈al,j∈al'):exV RT Y old σ σV pa al a:=by
 rcases h with⟨h1,h2⟩|h|⟨h1,h2⟩
 . exact .inl ⟨h1,λz=>h2 (z.mono s)⟩
 . exact .inr (.inl h)
 . refine .inr (.inr ⟨?_,h2⟩)
   cases pa with
   | false=>rfl
   | true=>rw[hp rfl] at h1;cases h1
theorem Rvs.length:∀{vs:List Vl} {us:List V},Rvs K RT Y old σ σV H vs us->vs.length=us.length
 | [],_,h=>by rw[show _=[] from h];rfl
 | v::vs,_,h=>by
  obtain⟨u,r,e,_,h2⟩:=h
  subst e
  rw[lC,lC,Rvs.length h2]
theorem nL{vs:List Vl}{v:Vl}(h:v∈vs):∀j∈v.al,j∈bT vs:=λj hj=>List.mem_flatMap.mpr ⟨v,h,hj⟩
theorem vL{vs:List Vl}{v:Vl}(h:v∈vs)(hp:v.pa=true):dS vs=true:=List.any_eq_true.mpr ⟨v,h,hp⟩
theorem Rvs.reps:∀{vs:List Vl} {us:List V} {pa:Bool} {al:List Nat},Rvs K RT Y old σ σV H vs us->(∀v∈vs,(v.pa=true->pa=true)/\∀j∈v.al,j∈al) ->
 Reps K H (exV RT Y old σ σV pa al) (vs.map (·.d)) us
 | [],_,_,_,h,_=>h
 | v::vs,_,_,_,h,q=>by
  obtain⟨u,r,e,h1,h2⟩:=h
  have q1:=q v List.mem_cons_self
  exact⟨u,r,e,Rep.weak h1 λa z=>z.mono q1.1 q1.2,Rvs.reps h2 λw hw=>q w (List.mem_cons_of_mem _ hw)⟩
theorem Rvs.all{vs:List Vl}{us:List V}(h:Rvs K RT Y old σ σV H vs us):Reps K H (exV RT Y old σ σV (dS vs) (bT vs)) (vs.map (·.d)) us:=
 h.reps λv hv=>⟨λz=>vL hv z,nL hv⟩
theorem Ro.fresh{p:Addr}{xs:List V}{ds:List D}(hp:H p=none)(ht:Tk K (upd H p (.lst xs)))(hd:v.d=.lst ds)(hf:v.fr=true)(S:Sx K RT Y old σ σV H)(r:Reps K H (exV RT Y old σ σV v.pa v.al) ds xs) :
 Ro K RT Y old σ σV H (upd H p (.lst xs)) v (.ref p):=by
 have s:aU H (upd H p (.lst xs)):=λb o q=>by rw[aV (bP q hp)];exact q
 refine⟨s,?_⟩
 rw[if_pos hf]
 refine⟨p,xs,ds,rfl,hd,hp,cU,?_⟩
 refine Reps.imp (λ_ _ q=>aU.seqT s q) (λa ys n q=>⟨λz=>?_,s.seq q⟩) (λ_ _ q=>s _ _ q) ds xs r
 rcases z with z|z
 . subst z
   rcases q with(q|⟨o,q⟩)|⟨o,its,n',q,_⟩
   . rw[hp] at q;cases q
   . rw[hp] at q;cases q
   . have z:=ht a (by rw[cU];simp)
     rw[q] at z;cases z
 . exact n z
theorem aU.new{p:Addr}{o:HO}(hp:H p=none):aU H (upd H p o):=λb u q=>by rw[aV (bP q hp)];exact q
theorem Ro.tup{p:Addr}{xs:List V}{ds:List D}(hp:H p=none)(hd:v.d=.tup ds)(hf:v.fr=false)(r:Reps K H (exV RT Y old σ σV v.pa v.al) ds xs) :
 Ro K RT Y old σ σV H (upd H p (.tup xs)) v (.ref p):=by
 refine Ro.plain (aU.new hp) hf ?_
 unfold Rv
 rw[hd]
 exact⟨p,xs,rfl,SqT.of cU,r.grow (aU.new hp)⟩
end
section
variable (X:Cx) (P:Pg) (cl:Caller) (RT Y old:Addr->Prop)
def wE(σ:Sg)(c:E):TE:=λσV H Q=>Sx X.K RT Y old σ σV H/\RE (ev P cl σ c) λv=>∀u H',Tk X.K H'->Ro X.K RT Y old σ σV H H' v u->Q u H'
def wT(σ:Sg)(c:E):TT:=λσV H Q=>Sx X.K RT Y old σ σV H/\RE (tst P cl σ c) λk=>∀H',Tk X.K H'->aU H H'->Q k H'
def wA(σ:Sg)(cs:Es):TA:=λσV H Q=>Sx X.K RT Y old σ σV H/\RE (evs P cl σ cs) λvs=>∀us H',Tk X.K H'->aU H H'->Rvs X.K RT Y old σ σV H' vs us->Q us H'
end
section
variable {X:Cx} {P:Pg} {cl:Caller} {RT Y old:Addr->Prop} {σ:Sg} {pos:Pos}
theorem _root_.L2.Inv.tk{pins:List (Addr×Obj)}{σV:L2.St}{H:Hp}{s:Shared}(I:Inv X pins σV H s):Tk X.K H:=λb hb=>by
 cases q:X.K.lookup b with
 | none=>rfl
 | some o=>exact absurd (I.bs b o (I.ok.mod.kin b o q)).2 hb
theorem _root_.L2.PE.imp{e:Expr}{t t':TE}(h:PE X e t)(f:∀σV H Q,Tk X.K H->t' σV H Q->t σV H λv H'=>Tk X.K H'->Q v H'):PE X e t':=λpins s σV H Q I hw=>
 thn (h pins s σV H _ I (f σV H Q I.tk hw)) λu s' ⟨v,H',I',r,q⟩=>⟨v,H',I',r,q I'.tk⟩
theorem _root_.L2.PT.imp{e:Expr}{t t':TT}(h:PT X e t)(f:∀σV H Q,Tk X.K H->t' σV H Q->t σV H λv H'=>Tk X.K H'->Q v H'):PT X e t':=λpins s σV H Q I hw=>
 thn (h pins s σV H _ I (f σV H Q I.tk hw)) λk s' ⟨H',I',q⟩=>⟨H',I',q I'.tk⟩
theorem _root_.L2.PA.imp{es:List Expr}{t t':TA}(h:PA X es t)(f:∀σV H Q,Tk X.K H->t' σV H Q->t σV H λv H'=>Tk X.K H'->Q v H'):PA X es t':=λpos pins s σV H Q I hw=>
 thn (h pos pins s σV H _ I (f σV H Q I.tk hw)) λu s' ⟨v,H',I',r,q⟩=>⟨v,H',I',r,q I'.tk⟩
theorem wE.two{a b:E}{σV:L2.St}{H:Hp}{p:Vl->Vl->Prop}{Q:V->V->Hp->Prop}(S:Sx X.K RT Y old σ σV H)(h:RE (ev P cl σ a) λx=>RE (ev P cl σ b) λy=>p x y)
 (f:∀x y ux uy H2,p x y->Tk X.K H2->aU H H2->Sx X.K RT Y old σ σV H2->Rv X.K RT Y old σ σV H2 x ux->Rv X.K RT Y old σ σV H2 y uy->Q ux uy H2) :
 wE X P cl RT Y old σ a σV H λux H1=>wE X P cl RT Y old σ b σV H1 λuy H2=>Q ux uy H2:=by
 refine⟨S,h.mono λx hx ux H1 t1 r1=>⟨S.grow r1.1 t1,hx.mono λy hy uy H2 t2 r2=>?_⟩⟩
 have S1:=S.grow r1.1 t1
 exact f x y ux uy H2 hy t2 (r1.1.trans r2.1) (S1.grow r2.1 t2) ((r1.rv S).grow r2.1) (r2.rv S1)
theorem Ro.val{d:D}{u:V}{σV:L2.St}{H H':Hp}(s:aU H H')(h:∀ex,Rep X.K H' ex d u):Ro X.K RT Y old σ σV H H' (.cl d) u:=Ro.cl s (h _)
theorem s_c {d : D} {c : Const} {k : Nat} (h : eqC d c = true) : PE X (.Constant c k pos) (wE X P cl RT Y old σ (.c d)) := by
 have key : ∀ {v : V}, (∀ (H : Hp) ex, Rep X.K H ex d v) -> PE X (.Constant c k pos) (tC v) -> PE X (.Constant c k pos) (wE X P cl RT Y old σ (.c d)) := λ hv hp =>
  hp.imp λ σV H Q t ⟨S, q⟩ t' => q _ H t' (Ro.val (aU.refl H) (hv H))
 cases d with
 | non => cases c with
  | none => exact key (λ _ _ => rfl) aGz
  | _ => cases h
 | bl b => cases c with
  | bool b' => have e : b = b' := by simpa [eqC] using h
               subst e; exact key (λ _ _ => rfl) aIQ
  | _ => cases h
 | int b => cases c with
  | int b' => have e : b = b' := by simpa [eqC] using h
              subst e; exact key (λ _ _ => rfl) aGy
  | _ => cases h
 | str b => cases c with
  | str b' => have e : b = b' := by simpa [eqC] using h
              subst e; exact key (λ _ _ => rfl) aGA
  | _ => cases h
 | _ => cases c <;> cases h
theorem s_v{i:Nat}{x:Str}(hN:X.N[i]? = some x)(hv:Vis X.env.scope x)(hd:(x==("__debug__" : Str))=false)(hcd:(x==("__classdict__" : Str))=false) :
 PE X (.Name x pos) (wE X P cl RT Y old σ (.v i)):=by
 refine(xT hN hv hd hcd).imp λσV H Q t ⟨S,q⟩=>?_
 have q:RE (bZ σ i) _:=q
 unfold bZ at q
 cases e:σ[i]? with
 | none=>rw[e] at q;exact q.elim
 | some sl=>
  rw[e] at q
  cases sl with
  | dead=>exact q.elim
  | sh pa d=>
   obtain⟨v,h1,h2⟩:=S.sh i pa d e
   refine⟨v,h1,λt'=>q v H t' (Ro.plain (aU.refl H) rfl ?_)⟩
   unfold Rv
   by_cases hn:noL d=true
   . exact Rep.free d v hn h2
   . refine Rep.weak h2 λa z=>?_
     rcases z with⟨z,_⟩|z|⟨z,z'⟩
     . exact .inl z
     . exact .inr (.inl z)
     . have:pa=false:=by simpa[hn] using z
       exact .inr (.inr ⟨this,z'⟩)
  | own pa ds=>
   obtain⟨a,xs,h1,h2,h3,h4,h5⟩:=S.own i pa ds e
   refine⟨.ref a,h1,λt'=>q _ H t' (Ro.plain (aU.refl H) rfl ?_)⟩
   unfold Rv
   refine⟨a,xs,rfl,SqL.of h2,λz=>?_,h5.weak λb z=>?_⟩
   . rcases z with⟨_,z⟩|z|⟨_,z⟩
     . exact z ⟨i,by simp,⟨pa,ds,e⟩,h1⟩
     . exact h4 (S.yo a z)
     . exact h4 z
   . rcases z with⟨z,_⟩|z
     . exact .inl z
     . exact .inr z
end
def rO(prog:Program)(w:World)(K:Fg)(a:Addr)(t:List (Str×D)):Prop:=(a==sysModules)=false/\∃vs:List (Key×Value),(∀h:Heap,K.In h->h.DictOf (bS prog w) a vs) /\
 ∀k:Str,(t.lookup k=none/\valueAt vs (Sum.inr k:Key)=none)\/∃d u v,t.lookup k=some d/\valueAt vs (Sum.inr k:Key)=some u/\bQ v u/\∀(H:Hp) (ex:Addr->Prop),Rep K H ex d v
section
variable {X:Cx}
theorem aER{a:Addr}{t:List (Str×D)}{x:Str}{p ap cp:Pos}{e:Expr}{te:TE}(T:rO X.prog X.w X.K a t)(hg:Gl X x)(hm:X.mg x=some (.ref a))(hd:(x==("__debug__" : Str))=false)(he:PE X e te)(hline:(ap.endLine==cp.line)=true)
 (hs:starEach [e] X.env=[(false,eval e X.env)]) :
 PE X (.Call (.Attribute (.Name x p) "get" ap) [e] [] cp) (λσ H Q=>te σ H λu H1=>∃k,u=.str k/\∀v,(∀(H:Hp) (ex:Addr->Prop),Rep X.K H ex ((t.lookup k).getD .non) v)->Q v H1):=by
 intro pins s σ H Q I h
 obtain⟨hsys,vs,dict,look⟩:=T
 refine wpAny_Call_method_late rfl (by rw[hs];rfl) hline rfl (thn (zX (v:=.ref a) hg hm rfl hd pins s σ H (λv H1=>v=.ref a/\H1=H) I ⟨rfl,rfl⟩) λv s1 ⟨y,H1,I1,r1,e1,e2⟩=>?_)
 subst e1 e2
 obtain rfl:v=Value.ref a:=r1
 have dd:=dict s1.heap I1.kIn
 refine⟨"dict", "dict.get",PySem.F.plainAttrs_dict,PySem.F.slot_dict_get,PySem.F.type_dict_get,dd.typeIs,λb q=>?_,?_⟩
 . cases q
   obtain⟨ob,_,_,h1,h2,_⟩:=dd
   exact⟨ob,h1,h2.2.1⟩
 . have hA:=(jN he mL hs) cp pins s1 σ H1 (λus H2=>match us with|[u]=>(∃k,u=.str k/\∀v,(∀(H:Hp) (ex:Addr->Prop),Rep X.K H ex ((t.lookup k).getD .non) v)->Q v H2)|_=>False) I1 h
   rw[hs] at hA ⊢
   refine Calls.callWith_builtin rfl (Calls.evalArgs_plain ?_)
   refine thn hA λus s2 ⟨xs,H2,I2,r2,q2⟩=>?_
   match xs,r2,q2 with
   | [y],.cons ry .nil,q2=>
    obtain⟨k,ey,q2⟩:=q2
    subst ey
    obtain⟨tk,rfl⟩:=ry
    have dd2:=dict s2.heap I2.kIn
    refine call_meetsIn PySem.F.slot_dict_get dd2.typeIs PySem.F.entry_dict_get (PySem.F.args_dict_get_2 _ _) (meets_dict_get (bS X.prog X.w) a (k:=(Sum.inr k:Key)) (mK k tk) hsys) ⟨_,dd2.mapOf,?_⟩
    rcases look k with⟨l1,l2⟩|⟨d,u,v,l1,l2,rv,rep⟩
    . rw[l2]
      refine⟨.non,H2,I2.tok _,rfl,q2 .non λH ex=>?_⟩
      rw[l1]
      rfl
    . rw[l2]
      refine⟨v,H2,I2.tok _,rv,q2 v λH ex=>?_⟩
      rw[l1]
      exact rep H ex
end
section
variable {X:Cx} {RT Y old:Addr->Prop} {σ:Sg} {σV:L2.St} {H:Hp} {s:Shared} {pins:List (Addr×Obj)} {Q:VK} {ux uy:V} {vx vy:Value} {x y:Vl}
theorem _root_.L2.EP.tk{u:Value}{s':Shared}(h:EP X pins σV (λv H'=>Tk X.K H'->Q v H') u s'):EP X pins σV Q u s':=by
 obtain⟨v,H',I',r,q⟩:=h
 exact⟨v,H',I',r,q (Inv.tk I')⟩
abbrev Wn(X:Cx)(RT Y old:Addr->Prop)(σ:Sg)(σV:L2.St)(H:Hp)(Q:VK)(v:Vl):Prop:=∀u H',Tk X.K H'->Ro X.K RT Y old σ σV H H' v u->Q u H'
theorem Wn.val{d:D}{u:V}(w:Wn X RT Y old σ σV H Q (.cl d))(t:Tk X.K H)(h:∀ex,Rep X.K H ex d u):Q u H:=w u H t (Ro.cl (aU.refl H) (h _))
theorem Rv.int{i:Int}{u:V}(h:Rv X.K RT Y old σ σV H x u)(e:x.d=.int i):u=.int i:=by unfold Rv at h;rw[e] at h;exact h
theorem Rv.str{i:Str}{u:V}(h:Rv X.K RT Y old σ σV H x u)(e:x.d=.str i):u=.str i:=by unfold Rv at h;rw[e] at h;exact h
theorem Rv.bl{i:Bool}{u:V}(h:Rv X.K RT Y old σ σV H x u)(e:x.d=.bl i):u=.bl i:=by unfold Rv at h;rw[e] at h;exact h
theorem Rv.non{u:V}(h:Rv X.K RT Y old σ σV H x u)(e:x.d=.non):u=.non:=by unfold Rv at h;rw[e] at h;exact h
theorem Rv.tup{ds:List D}{u:V}(h:Rv X.K RT Y old σ σV H x u)(e:x.d=.tup ds):∃a xs,u=.ref a/\SqT X.K H a xs/\Reps X.K H (exV RT Y old σ σV x.pa x.al) ds xs:=by unfold Rv at h;rw[e] at h;exact h
theorem Rv.lst{ds:List D}{u:V}(h:Rv X.K RT Y old σ σV H x u)(e:x.d=.lst ds):∃a xs,u=.ref a/\SqL X.K H a xs/\¬ exV RT Y old σ σV x.pa x.al a/\Reps X.K H (exV RT Y old σ σV x.pa x.al) ds xs:=by unfold Rv at h;rw[e] at h;exact h
theorem aHj:lim<=sizeLine:=by unfold lim;rw[sizeLine_eq];decide
theorem fU{n:Nat}(h:n<=lim):n<=sizeLine:=Nat.le_trans h aHj
theorem gD{ds:List D}{xs:List V}{pa:Bool}{al:List Nat}{K:Fg}(r:Reps K H (exV RT Y old σ σV pa al) ds xs) :
 Reps K H (exV RT Y old σ σV (pa&&!noLs ds) (if noLs ds=true then [] else al)) ds xs:=by
 by_cases hn:noLs ds=true
 . exact Reps.free ds xs hn r
 . rw[if_neg hn]
   refine r.weak λa z=>z.mono (λhp=>?_) λj hj=>hj
   rw[hp];simp[hn]
def aJL(K:Fg):R2:=λx y H Q=>∃l b xs zs,x=.ref l/\y=.ref b/\SqL K H l xs/\SqL K H b zs/\xs.length+zs.length<=sizeLine/\∀p,H p=none->Q (.ref p) (upd H p (.lst (xs++zs)))
theorem aES:OpR X (binaryOp .Add) (aJL X.K):=by
 intro pins s σV H x y v u Q I rx ry h
 obtain⟨l,b,xs,zs,rfl,rfl,hH,hB,hz,q⟩:=h
 cases rx
 cases ry
 obtain⟨its,r,pl,z⟩:=I.list hH
 obtain⟨its2,r2,pl2,z2⟩:=I.list hB
 obtain⟨⟨cls,dd,data,sl⟩,ho,hc,n,hd⟩:=pl.isList
 obtain⟨⟨cls2,dd2,data2,sl2⟩,ho2,hc2,n2,hd2⟩:=pl2.isList
 simp only at hc hd hc2 hd2
 subst hc hd hc2 hd2
 have e:its.toArray++its2.toArray=(its++its2).toArray:=by simp
 have hl:=r.length
 have hl2:=r2.length
 refine concat_meets ⟨_,ho,rfl⟩ ⟨_,ho2,rfl⟩ noFill_list_add seq_list_add PySem.F.slot_list_add PySem.F.entry_list_add (PySem.F.args_list_add_2 _ _) (list_addW l b its.toArray its2.toArray n n2 dd dd2 sl sl2 (by rw[List.size_toArray,List.size_toArray];omega)) ⟨ho,ho2,?_⟩
 rw[e]
 exact⟨.ref _,_,I.lnew (t':=s.toks) (r.append r2) (by rw[lA];omega),rfl,q _ I.fresh⟩
theorem aET(x:Str):Str.rep x 1=x:=by
 unfold Str.rep
 cases x
 simp
theorem aBd(x:Str)(h:x.length=0)(k:Nat):Str.rep x k=x:=by
 have hx:x.cps=#[]:=by
  unfold Str.length at h
  exact Array.eq_empty_of_size_eq_zero h
 have go:∀k,(List.replicate k x.cps).foldl (·++·) #[]=#[]:=by
  intro k
  rw[hx]
  induction k with
  | zero=>rfl
  | succ k ih=>rw[List.replicate_succ,List.foldl_cons];simpa using ih
 unfold Str.rep
 rw[go k]
 cases x
 simp at hx
 rw[hx]
theorem yL(x:Str)(k:Nat):(⟨(List.replicate k x.cps).foldl (·++·) #[]⟩:Str).length=x.length*k:=by
 have go:∀(k:Nat) (acc:Array Nat),((List.replicate k x.cps).foldl (·++·) acc).size=acc.size+x.cps.size*k:=by
  intro k
  induction k with
  | zero=>intro acc;simp
  | succ k ih=>
   intro acc
   rw[List.replicate_succ,List.foldl_cons,ih,Array.size_append,Nat.mul_succ]
   omega
 show((List.replicate k x.cps).foldl (·++·) #[]).size=x.cps.size*k
 rw[go]
 simp
theorem aEU:OpR X (binaryOp .Mult) (λx y H Q=>∃a k,x=.str a/\y=.int k/\aL k=true/\a.length*k.toNat<=lim/\Q (.str (Str.rep a k.toNat)) H):=by
 intro pins s σV H x y v u Q I rx ry h
 obtain⟨a,k,rfl,rfl,hk,hl,q⟩:=h
 obtain⟨t,rfl⟩:=rx
 obtain⟨t',rfl⟩:=ry
 unfold aL at hk
 simp only[bA,decide_eq_true_eq] at hk
 have h1:-(2 ^ 62:Int)<=k:=hk.1
 have h2:k<(2 ^ 62:Int):=hk.2
 have e1:decide (k < -(2 ^ 63:Int))=false:=decide_eq_false (by omega)
 have e2:decide (k ≥ (2 ^ 63:Int))=false:=decide_eq_false (by omega)
 have fin:∀z:Str,z=Str.rep a k.toNat->∀tk,EP X pins σV Q (.str z tk) { s with toks:=s.toks+1 }:=λz e tk=>by
  subst e
  exact⟨.str _,H,I.tok _,⟨_,rfl⟩,q⟩
 refine P.mul_str (by rw[e1,e2];rfl) (λn1 n2 z=>?_) (λn1 n2=>?_) ?_
 . have k1:1<=k:=by omega
   have z1:(a.length:Int)*k<=(lim:Int):=by
    have hk':((k.toNat:Nat):Int)=k:=by omega
    have:=Int.ofNat_le.mpr hl
    rw[Int.natCast_mul] at this
    rw[<-hk']
    exact_mod_cast this
   have z2:(2 ^ 63-1:Int) / k<a.length:=z
   have z3:(2 ^ 63-1:Int)<a.length*k:=Int.lt_mul_of_ediv_lt (by omega) z2
   have z4:(lim:Int)=1000000:=rfl
   omega
 . unfold Builtin.Str.tooLong
   have:=fU hl
   exact decide_eq_false (by omega)
 . split
   . rename_i hn
     have:k.toNat=0:=by omega
     refine⟨by decide,?_⟩
     exact fin _ (by rw[this];rfl) _
   . split
     . rename_i hn h1'
       have hz:Str.rep a k.toNat=a:=by
        rcases Bool.or_eq_true_iff.mp h1' with z|z
        . have:k=1:=eq_of_beq z
          subst this
          exact aET a
        . exact aBd a (eq_of_beq z) _
       exact⟨.str a,H,I,⟨_,rfl⟩,by rw[hz] at q;exact q⟩
     . refine⟨?_,fin _ rfl _⟩
       have:=fU hl
       rw[yL]
       exact this
def aHk(K:Fg):R2:=λx y H Q=>∃a b xs ys,x=.ref a/\y=.ref b/\SqT K H a xs/\SqT K H b ys/\xs.length+ys.length<=sizeLine /\
 (xs=[]->Q (.ref b) H)/\(xs≠[]->ys=[]->Q (.ref a) H)/\(xs≠[]->ys≠[]->∀p,H p=none->Q (.ref p) (upd H p (.tup (xs++ys))))
theorem aCE:OpR X (binaryOp .Add) (aHk X.K):=by
 intro pins s σ H x y v u Q I rx ry h
 obtain⟨a,b,xs,ys,rfl,rfl,ha,hb,hz,q0,q1,q2⟩:=h
 by_cases hx:xs=[]
 . cases rx
   cases ry
   obtain⟨its,r1,p1,_⟩:=I.tuple ha
   obtain⟨its2,r2,p2,_⟩:=I.tuple hb
   obtain⟨⟨cls,dd,data,sl⟩,ho,hc,n,hd⟩:=id p1
   obtain⟨⟨cls2,dd2,data2,sl2⟩,ho2,hc2,n2,hd2⟩:=id p2
   simp only at hc hd hc2 hd2
   subst hc hd hc2 hd2
   have hi:its=[]:=r1.nil_iff.mpr hx
   exact concat_meets ⟨_,ho,rfl⟩ ⟨_,ho2,rfl⟩ noFill_tuple_add seq_tuple_add PySem.F.slot_tuple_add PySem.F.entry_tuple_add (PySem.F.args_tuple_add_2 _ _)
    (tuple_addW0 a b its.toArray its2.toArray n n2 dd dd2 sl sl2 (by simp[hi])) ⟨ho,ho2,⟨.ref b,H,I,rfl,q0 hx⟩⟩
 . exact aEK pins s σ H _ _ v u Q I rx ry ⟨a,b,xs,ys,rfl,rfl,ha,hb,hx,hz,q1 hx,q2 hx⟩
theorem aCF{o:Operator}(I:Inv X pins σV H s)(S:Sx X.K RT Y old σ σV H)(rx:bQ ux vx)(ry:bQ uy vy)(hx:Rv X.K RT Y old σ σV H x ux)(hy:Rv X.K RT Y old σ σV H y uy)
 (hfr:x.fr=true->∃a xs,ux=.ref a/\H a=some (.lst xs)) (h:RE (opD o x y) (Wn X RT Y old σ σV H Q)):wpAny (model X.prog X.w) X.A (binaryOp o vx vy) (EP X pins σV Q) X.xe s:=by
 have t:=Inv.tk I
 have go:∀{f:Value->Value->Sem Value} {r:R2},OpR X f r->(r ux uy H λv H'=>Tk X.K H'->Q v H')->wpAny (model X.prog X.w) X.A (f vx vy) (EP X pins σV Q) X.xe s:=λhr q=>
  thn (hr pins s σV H ux uy vx vy _ I rx ry q) λu s' z=>EP.tk z
 cases o with
 | Add=>
  have h:RE (aHd x y) (Wn X RT Y old σ σV H Q):=h
  unfold aHd at h
  split at h
  . rename_i i j d1 d2
    exact go aGN ⟨i,j,hx.int d1,hy.int d2,λ_=>h.val t λ_=>rfl⟩
  . rename_i i j d1 d2
    obtain⟨c,h⟩:=h.iff
    exact go xZ ⟨i,j,hx.str d1,hy.str d2,fU (of_decide_eq_true c),λ_=>Wn.val h t λ_=>rfl⟩
  . rename_i as bs d1 d2
    obtain⟨c,h⟩:=h.iff
    obtain⟨a,xs,e1,q1,r1⟩:=hx.tup d1
    obtain⟨b,ys,e2,q2,r2⟩:=hy.tup d2
    have l1:=r1.length
    have l2:=r2.length
    have c':=of_decide_eq_true c
    have r1':Reps X.K H (exV RT Y old σ σV (x.pa||y.pa) (x.al++y.al)) as xs:=r1.weak λa z=>z.mono (λhp=>by rw[hp];rfl) λj hj=>List.mem_append_left _ hj
    have r2':Reps X.K H (exV RT Y old σ σV (x.pa||y.pa) (x.al++y.al)) bs ys:=r2.weak λa z=>z.mono (λhp=>by rw[hp,Bool.or_true]) λj hj=>List.mem_append_right _ hj
    refine go aCE ⟨a,b,xs,ys,e1,e2,q1,q2,fU (by omega),λz t'=>?_,λz z' t'=>?_,λz z' p hp t'=>?_⟩
    . subst z
      have:as=[]:=List.length_eq_zero_iff.mp (by simpa using l1)
      subst this
      exact h _ _ t' (Ro.plain (aU.refl H) rfl ⟨b,ys,rfl,q2,r2'⟩)
    . subst z'
      have:bs=[]:=List.length_eq_zero_iff.mp (by simpa using l2)
      subst this
      exact h _ _ t' (Ro.plain (aU.refl H) rfl ⟨a,xs,rfl,q1,by rw[List.append_nil];exact r1'⟩)
    . exact h _ _ t' (Ro.tup hp rfl rfl (r1'.append r2'))
  . rename_i as bs d1 d2
    obtain⟨c,h⟩:=h.iff
    obtain⟨a,xs,e1,q1,_,r1⟩:=hx.lst d1
    obtain⟨b,ys,e2,q2,_,r2⟩:=hy.lst d2
    have l1:=r1.length
    have l2:=r2.length
    have c':=of_decide_eq_true c
    refine go aES ⟨a,b,xs,ys,e1,e2,q1,q2,fU (by omega),λp hp t'=>h _ _ t' (Ro.fresh hp t' rfl rfl S ?_)⟩
    refine Reps.append ((gD r1).weak λa z=>z.mono (λhp=>?_) λj hj=>List.mem_append_left _ hj) ((gD r2).weak λa z=>z.mono (λhp=>?_) λj hj=>List.mem_append_right _ hj)
    . show(_||_)=true
      rw[hp];rfl
    . show(_||_)=true
      rw[hp,Bool.or_true]
  . exact h.elim
 | Mult=>
  have h:RE (aHe x y) (Wn X RT Y old σ σV H Q):=h
  unfold aHe at h
  split at h
  . rename_i i j d1 d2
    obtain⟨c,h⟩:=h.iff
    refine go aGP ⟨i,j,hx.int d1,hy.int d2,?_,λ_=>Wn.val h t λ_=>rfl⟩
    simp only[gP,Bool.or_eq_true,bA,decide_eq_true_eq] at c
    exact c
  . rename_i i j d1 d2
    obtain⟨c,h⟩:=h.iff
    simp only[bA,decide_eq_true_eq] at c
    exact go aEU ⟨i,j,hx.str d1,hy.int d2,c.1,c.2,λ_=>Wn.val h t λ_=>rfl⟩
  . rename_i as k d1 d2
    obtain⟨c,h⟩:=h.iff
    simp only[bA,decide_eq_true_eq] at c
    obtain⟨a,xs,e1,q1,_,r1⟩:=hx.lst d1
    obtain⟨a',xs',e1',q1'⟩:=hfr c.1.1.1
    rw[e1] at e1'
    cases e1'
    have e3:xs=xs':=I.list_inj q1 (SqL.of q1')
    subst e3
    have l1:=r1.length
    have hk:=c.1.1.2
    unfold aL at hk
    simp only[bA,decide_eq_true_eq] at hk
    have hk1:=hk.1
    have hk2:=hk.2
    refine go aHc ⟨a,k,xs,e1,hy.int d2,q1',by omega,by omega,fU (by rw[<-l1];exact c.1.2),λp hp t'=>h _ _ t' (Ro.fresh hp t' rfl rfl S ?_)⟩
    exact Reps.flat (Reps.free as xs c.2 r1) _
  . exact h.elim
 | Sub=>
  dsimp only[opD,vH] at h
  split at h
  . rename_i i j d1 d2
    exact go aGO ⟨i,j,hx.int d1,hy.int d2,λ_=>h.val t λ_=>rfl⟩
  . exact h.elim
 | FloorDiv=>
  dsimp only[opD,vH] at h
  split at h
  . rename_i i j d1 d2
    obtain⟨c,h⟩:=h.iff
    refine go aEA ⟨i,j,hx.int d1,hy.int d2,?_,λ_=>Wn.val h t λ_=>rfl⟩
    simp only[vG,bA,decide_eq_true_eq] at c
    exact c
  . exact h.elim
 | Mod=>
  dsimp only[opD,vH] at h
  split at h
  . rename_i i j d1 d2
    obtain⟨c,h⟩:=h.iff
    exact go aGQ ⟨i,j,hx.int d1,hy.int d2,of_decide_eq_true c,λ_=>Wn.val h t λ_=>rfl⟩
  . exact h.elim
 | Pow=>
  dsimp only[opD,vH] at h
  split at h
  . rename_i i j d1 d2
    obtain⟨c,h⟩:=h.iff
    refine go aGR ⟨i,j,hx.int d1,hy.int d2,?_,λ_=>Wn.val h t λ_=>rfl⟩
    simp only[aFV,bA,decide_eq_true_eq] at c
    exact⟨c.1.1,by omega,c.2⟩
  . exact h.elim
 | _=>exact h.elim
end
end Hp
end
noncomputable section
namespace Hp
open PySem PySem.Spec PyProof.Rows L2 PySem.SeqAt
def iX(n:Nat)(ds es:List D)(j:Nat):Bool:=match ds[j]?,es[j]? with
 | some x,some y=>(eqF n x y).getD false
 | _,_=>false
theorem aAc:∀{n:Nat} {ds es:List D} {k:Bool},gM n ds es=some k->∀{j:Nat} {x y:D},ds[j]? = some x->es[j]? = some y->∃b,eqF n x y=some b
 | n,[],es,k,h,j,x,y,e1,e2=>by simp at e1
 | n,d::ds,[],k,h,j,x,y,e1,e2=>by simp at e2
 | n,d::ds,e::es,k,h,j,x,y,e1,e2=>by
  rw[gM] at h
  cases h1:eqF n d e with
  | none=>rw[h1] at h;simp at h
  | some b=>
   cases h2:gM n ds es with
   | none=>rw[h1,h2] at h;simp at h
   | some b'=>
    cases j with
    | zero=>simp at e1 e2;subst e1 e2;exact⟨b,h1⟩
    | succ j=>exact aAc h2 (by simpa using e1) (by simpa using e2)
theorem pE:∀{n:Nat} {ds es:List D} {k:Bool},gM n ds es=some k->k=((List.range (min ds.length es.length)).all (iX n ds es)&&ds.length==es.length)
 | n,[],[],k,h=>by simp[gM] at h;simp[<-h]
 | n,[],e::es,k,h=>by simp[gM] at h;simp[<-h]
 | n,d::ds,[],k,h=>by simp[gM] at h;simp[<-h]
 | n,d::ds,e::es,k,h=>by
  rw[gM] at h
  cases h1:eqF n d e with
  | none=>rw[h1] at h;simp at h
  | some b=>
   cases h2:gM n ds es with
   | none=>rw[h1,h2] at h;simp at h
   | some b'=>
    rw[h1,h2] at h
    have hk:(b&&b')=k:=Option.some.inj h
    have ih:=pE h2
    have e0:iX n (d::ds) (e::es) 0=b:=by simp[iX,h1]
    have es':∀j,iX n (d::ds) (e::es) (j+1)=iX n ds es j:=λj=>by simp[iX]
    have hm:min (d::ds).length (e::es).length=min ds.length es.length+1:=by simp only[lC];omega
    rw[hm,List.range_succ_eq_map,List.all_cons,e0,List.all_map]
    have:(iX n (d::ds) (e::es))∘Nat.succ=iX n ds es:=funext λj=>es' j
    rw[this,<-hk,ih]
    simp[Bool.and_assoc]
section
variable {X:Cx} {σV:L2.St} {H:Hp} {s:Shared} {pins:List (Addr×Obj)}
theorem _root_.L2.Inv.lt_ne(I:L2.Inv X pins σV H s){a:Addr}{xs ys:List V}(h1:SqL X.K H a xs)(h2:SqT X.K H a ys):False:=by
 obtain⟨its,_,pl,_⟩:=I.list h1
 obtain⟨its2,_,pt,_⟩:=I.tuple h2
 exact ne_of_list_tuple pl.isList (show s.heap.IsTuple a its2.toArray from pt) rfl
theorem aCG{n:Nat}{ds:List (D×D)}{e:D}{k:Bool}(h:eqF (n+1) (.dic ds) e=some k):False:=by
 unfold eqF at h
 split at h <;> first|(cases h;done)|(rename_i e1 e2;cases e1;done)|(rename_i e1;cases e1;done)
mutual
theorem tH(I:L2.Inv X pins σV H s):∀(n:Nat) (d e:D) (u:V) (k:Bool) (ex ex':Addr->Prop),Rep X.K H ex d u->Rep X.K H ex' e u->eqF n d e=some k->k=true
 | 0,d,e,u,k,_,_,_,_,h=>by simp[eqF] at h
 | n+1,.non,e,u,k,_,_,h1,h2,h=>by
  rw[show u=.non from h1] at h2
  cases e with
  | non=>simpa[eqF] using h.symm
  | tup ds=>obtain⟨a,xs,z,_⟩:=h2;cases z
  | lst ds=>obtain⟨a,xs,z,_⟩:=h2;cases z
  | dic ds=>obtain⟨a,xs,z,_⟩:=h2;cases z
  | err _ _=>exact h2.elim
  | bl b=>cases(show V.non=.bl b from h2)
  | int b=>cases(show V.non=.int b from h2)
  | str b=>cases(show V.non=.str b from h2)
 | n+1,.bl b,e,u,k,_,_,h1,h2,h=>by
  rw[show u=.bl b from h1] at h2
  cases e with
  | bl b'=>cases(show V.bl b=.bl b' from h2);simpa[eqF] using h.symm
  | tup ds=>obtain⟨a,xs,z,_⟩:=h2;cases z
  | lst ds=>obtain⟨a,xs,z,_⟩:=h2;cases z
  | dic ds=>obtain⟨a,xs,z,_⟩:=h2;cases z
  | err _ _=>exact h2.elim
  | non=>cases(show V.bl b=.non from h2)
  | int b'=>cases(show V.bl b=.int b' from h2)
  | str b'=>cases(show V.bl b=.str b' from h2)
 | n+1,.int b,e,u,k,_,_,h1,h2,h=>by
  rw[show u=.int b from h1] at h2
  cases e with
  | int b'=>cases(show V.int b=.int b' from h2);simpa[eqF] using h.symm
  | tup ds=>obtain⟨a,xs,z,_⟩:=h2;cases z
  | lst ds=>obtain⟨a,xs,z,_⟩:=h2;cases z
  | dic ds=>obtain⟨a,xs,z,_⟩:=h2;cases z
  | err _ _=>exact h2.elim
  | non=>cases(show V.int b=.non from h2)
  | bl b'=>cases(show V.int b=.bl b' from h2)
  | str b'=>cases(show V.int b=.str b' from h2)
 | n+1,.str b,e,u,k,_,_,h1,h2,h=>by
  rw[show u=.str b from h1] at h2
  cases e with
  | str b'=>cases(show V.str b=.str b' from h2);simpa[eqF] using h.symm
  | tup ds=>obtain⟨a,xs,z,_⟩:=h2;cases z
  | lst ds=>obtain⟨a,xs,z,_⟩:=h2;cases z
  | dic ds=>obtain⟨a,xs,z,_⟩:=h2;cases z
  | err _ _=>exact h2.elim
  | non=>cases(show V.str b=.non from h2)
  | bl b'=>cases(show V.str b=.bl b' from h2)
  | int b'=>cases(show V.str b=.int b' from h2)
 | n+1,.tup ds,e,u,k,ex,ex',h1,h2,h=>by
  obtain⟨a,xs,z,q,r⟩:=h1
  subst z
  cases e with
  | tup es=>
   obtain⟨a',ys,z,q',r'⟩:=h2
   cases z
   have:xs=ys:=I.tuple_inj q q'
   subst this
   exact eqs_same I n ds es xs k ex ex' r r' (by simpa[eqF] using h)
  | lst es=>
   obtain⟨a',ys,z,q',_,r'⟩:=h2
   cases z
   exact(I.lt_ne q' q).elim
  | dic ds=>simp[eqF] at h
  | err _ _=>exact h2.elim
  | non=>cases(show V.ref a=.non from h2)
  | bl b'=>cases(show V.ref a=.bl b' from h2)
  | int b'=>cases(show V.ref a=.int b' from h2)
  | str b'=>cases(show V.ref a=.str b' from h2)
 | n+1,.lst ds,e,u,k,ex,ex',h1,h2,h=>by
  obtain⟨a,xs,z,q,_,r⟩:=h1
  subst z
  cases e with
  | lst es=>
   obtain⟨a',ys,z,q',_,r'⟩:=h2
   cases z
   have:xs=ys:=I.list_inj q q'
   subst this
   have hl:ds.length=es.length:=r.length.trans r'.length.symm
   exact eqs_same I n ds es xs k ex ex' r r' (by simpa[eqF,hl] using h)
  | tup es=>
   obtain⟨a',ys,z,q',r'⟩:=h2
   cases z
   exact(I.lt_ne q q').elim
  | dic ds=>simp[eqF] at h
  | err _ _=>exact h2.elim
  | non=>cases(show V.ref a=.non from h2)
  | bl b'=>cases(show V.ref a=.bl b' from h2)
  | int b'=>cases(show V.ref a=.int b' from h2)
  | str b'=>cases(show V.ref a=.str b' from h2)
 | n+1,.dic ds,e,u,k,ex,ex',h1,h2,h=>by
  exact(aCG h).elim
 | n+1,.err _ _,e,u,k,ex,ex',h1,h2,h=>h1.elim
theorem eqs_same(I:L2.Inv X pins σV H s):∀(n:Nat) (ds es:List D) (us:List V) (k:Bool) (ex ex':Addr->Prop),Reps X.K H ex ds us->Reps X.K H ex' es us->gM n ds es=some k->k=true
 | n,[],[],us,k,_,_,h1,h2,h=>by simpa[gM] using h.symm
 | n,[],e::es,us,k,_,_,h1,h2,h=>by
  obtain⟨x,r,z,_⟩:=h2
  rw[show us=[] from h1] at z;cases z
 | n,d::ds,[],us,k,_,_,h1,h2,h=>by
  obtain⟨x,r,z,_⟩:=h1
  rw[show us=[] from h2] at z;cases z
 | n,d::ds,e::es,us,k,ex,ex',h1,h2,h=>by
  obtain⟨x,r,z,a1,b1⟩:=h1
  obtain⟨x',r',z',a2,b2⟩:=h2
  rw[z] at z'
  cases z'
  rw[gM] at h
  cases q1:eqF n d e with
  | none=>rw[q1] at h;simp at h
  | some b=>
   cases q2:gM n ds es with
   | none=>rw[q1,q2] at h;simp at h
   | some b'=>
    rw[q1,q2] at h
    have e1:=tH I n d e x b ex ex' a1 a2 q1
    have e2:=eqs_same I n ds es r b' ex ex' b1 b2 q2
    subst e1 e2
    simpa using h.symm
end
def Eq3(A:Around)(s:Shared)(v z:Value)(k:Bool):Prop:=EqAt A s v z k/\RcAt A s v z k/\RcNeAt A s v z (!k)
theorem aAd{xs:List V}{us:List Value}(r:bC xs us){j:Nat}(h:j<us.toArray.size):∃x,xs[j]? = some x/\bQ x us.toArray[j]:=by
 have hl:=r.length
 have hj:j<xs.length:=by rw[List.size_toArray] at h;omega
 obtain⟨u,e,q⟩:=r.get (List.getElem?_eq_getElem hj)
 refine⟨xs[j],List.getElem?_eq_getElem hj,?_⟩
 have:us.toArray[j]=u:=by
  have e':us[j]? = some us.toArray[j]:=by simp[List.getElem?_eq_getElem (show j<us.length by simpa using h)]
  rw[e'] at e
  exact Option.some.inj e
 rw[this]
 exact q
theorem rP(A:Around):A.in1.units=A.units+1:=rfl
theorem aAe(I:L2.Inv X pins σV H s):∀(n:Nat) (A:Around) (d e:D) (u w:V) (v z:Value) (k:Bool) (ex ex':Addr->Prop),A.units+n<cLine->Rep X.K H ex d u->Rep X.K H ex' e w->bQ u v->bQ w z->eqF n d e=some k->Eq3 A s v z k:=by
 intro n
 induction n with
 | zero=>intro A d e u w v z k ex ex' _ _ _ _ _ h;simp[eqF] at h
 | succ n ih=>
  intro A d e u w v z k ex ex' hA h1 h2 r1 r2 h
  have hu:A.units<cLine:=by omega
  have items:∀{ds es:List D} {xs ys:List V} {its its2:List Value} {k:Bool},Reps X.K H ex ds xs->Reps X.K H ex' es ys->bC xs its->bC ys its2->gM n ds es=some k ->
   ∀j (_:j<its.toArray.size) (_:j<its2.toArray.size),EqAt A.in1 s its.toArray[j] its2.toArray[j] (iX n ds es j):=by
   intro ds es xs ys its its2 k q1 q2 v1 v2 hk j hj1 hj2
   obtain⟨x,ex1,rx⟩:=aAd v1 hj1
   obtain⟨y,ey1,ry⟩:=aAd v2 hj2
   obtain⟨d',ed,rd⟩:=q1.get' ex1
   obtain⟨e',ee,re⟩:=q2.get' ey1
   obtain⟨b,hb⟩:=aAc hk ed ee
   have hj:iX n ds es j=b:=by simp[iX,ed,ee,hb]
   rw[hj]
   exact(ih A.in1 d' e' x y _ _ b ex ex' (by rw[rP];omega) rd re rx ry hb).1
  cases d with
  | err _ _=>exact h1.elim
  | dic ds=>
   exact(aCG h).elim
  | non=>
   rw[show u=.non from h1] at r1
   cases r1
   cases e with
   | err _ _=>exact h2.elim
   | dic _=>simp[eqF] at h
   | non=>rw[show w=.non from h2] at r2;cases r2;simp[eqF] at h;subst h;exact⟨EqAt.same _,RcAt.none_none,RcNeAt.none_none⟩
   | bl b=>rw[show w=.bl b from h2] at r2;cases r2;simp[eqF] at h;subst h;exact⟨EqAt.none_bool _,RcAt.none_bool _,RcNeAt.none_bool _⟩
   | int b=>rw[show w=.int b from h2] at r2;obtain⟨t,rfl⟩:=r2;simp[eqF] at h;subst h;exact⟨EqAt.none_int _ _,RcAt.none_int _ _,RcNeAt.none_int _ _⟩
   | str b=>rw[show w=.str b from h2] at r2;obtain⟨t,rfl⟩:=r2;simp[eqF] at h;subst h;exact⟨EqAt.none_str _ _,RcAt.none_str _ _,RcNeAt.none_str _ _⟩
   | tup es=>
    obtain⟨b,ys,rfl,q,r⟩:=h2
    cases r2
    obtain⟨its,_,p,_⟩:=I.tuple q
    simp[eqF] at h;subst h
    exact⟨EqAt.none_tuple (show s.heap.IsTuple b its.toArray from p) hu,RcAt.none_tuple (show s.heap.IsTuple b its.toArray from p) hu,RcNeAt.none_tuple (show s.heap.IsTuple b its.toArray from p) hu⟩
   | lst es=>
    obtain⟨b,ys,rfl,q,_,r⟩:=h2
    cases r2
    obtain⟨its,_,p,_⟩:=I.list q
    simp[eqF] at h;subst h
    exact⟨EqAt.none_list p.isList hu,RcAt.none_list p.isList hu,RcNeAt.none_list p.isList hu⟩
  | bl a=>
   rw[show u=.bl a from h1] at r1
   cases r1
   cases e with
   | err _ _=>exact h2.elim
   | dic _=>simp[eqF] at h
   | non=>rw[show w=.non from h2] at r2;cases r2;simp[eqF] at h;subst h;exact⟨EqAt.bool_none _,RcAt.bool_none _,RcNeAt.bool_none _⟩
   | bl b=>rw[show w=.bl b from h2] at r2;cases r2;simp only[eqF,Option.some.injEq] at h;subst h;exact⟨EqAt.bool_bool _ _,RcAt.bool_bool _ _,RcNeAt.bool_bool _ _⟩
   | int b=>rw[show w=.int b from h2] at r2;obtain⟨t,rfl⟩:=r2;simp only[eqF,Option.some.injEq] at h;subst h;exact⟨EqAt.bool_int _ _ _,RcAt.bool_int _ _ _,RcNeAt.bool_int _ _ _⟩
   | str b=>rw[show w=.str b from h2] at r2;obtain⟨t,rfl⟩:=r2;simp[eqF] at h;subst h;exact⟨EqAt.bool_str _ _ _,RcAt.bool_str _ _ _,RcNeAt.bool_str _ _ _⟩
   | tup es=>
    obtain⟨b,ys,rfl,q,r⟩:=h2
    cases r2
    obtain⟨its,_,p,_⟩:=I.tuple q
    simp[eqF] at h;subst h
    exact⟨EqAt.bool_tuple _ (show s.heap.IsTuple b its.toArray from p) hu,RcAt.bool_tuple _ (show s.heap.IsTuple b its.toArray from p) hu,RcNeAt.bool_tuple _ (show s.heap.IsTuple b its.toArray from p) hu⟩
   | lst es=>
    obtain⟨b,ys,rfl,q,_,r⟩:=h2
    cases r2
    obtain⟨its,_,p,_⟩:=I.list q
    simp[eqF] at h;subst h
    exact⟨EqAt.bool_list _ p.isList hu,RcAt.bool_list _ p.isList hu,RcNeAt.bool_list _ p.isList hu⟩
  | int a=>
   rw[show u=.int a from h1] at r1
   obtain⟨t1,rfl⟩:=r1
   cases e with
   | err _ _=>exact h2.elim
   | dic _=>simp[eqF] at h
   | non=>rw[show w=.non from h2] at r2;cases r2;simp[eqF] at h;subst h;exact⟨EqAt.int_none _ _,RcAt.int_none _ _,RcNeAt.int_none _ _⟩
   | bl b=>rw[show w=.bl b from h2] at r2;cases r2;simp only[eqF,Option.some.injEq] at h;subst h;exact⟨EqAt.int_bool _ _ _,RcAt.int_bool _ _ _,RcNeAt.int_bool _ _ _⟩
   | int b=>rw[show w=.int b from h2] at r2;obtain⟨t,rfl⟩:=r2;simp only[eqF,Option.some.injEq] at h;subst h;exact⟨EqAt.int_int _ _ _ _,RcAt.int_int _ _ _ _,RcNeAt.int_int _ _ _ _⟩
   | str b=>rw[show w=.str b from h2] at r2;obtain⟨t,rfl⟩:=r2;simp[eqF] at h;subst h;exact⟨EqAt.int_str _ _ _ _,RcAt.int_str _ _ _ _,RcNeAt.int_str _ _ _ _⟩
   | tup es=>
    obtain⟨b,ys,rfl,q,r⟩:=h2
    cases r2
    obtain⟨its,_,p,_⟩:=I.tuple q
    simp[eqF] at h;subst h
    exact⟨EqAt.int_tuple _ _ (show s.heap.IsTuple b its.toArray from p) hu,RcAt.int_tuple _ _ (show s.heap.IsTuple b its.toArray from p) hu,RcNeAt.int_tuple _ _ (show s.heap.IsTuple b its.toArray from p) hu⟩
   | lst es=>
    obtain⟨b,ys,rfl,q,_,r⟩:=h2
    cases r2
    obtain⟨its,_,p,_⟩:=I.list q
    simp[eqF] at h;subst h
    exact⟨EqAt.int_list _ _ p.isList hu,RcAt.int_list _ _ p.isList hu,RcNeAt.int_list _ _ p.isList hu⟩
  | str a=>
   rw[show u=.str a from h1] at r1
   obtain⟨t1,rfl⟩:=r1
   cases e with
   | err _ _=>exact h2.elim
   | dic _=>simp[eqF] at h
   | non=>rw[show w=.non from h2] at r2;cases r2;simp[eqF] at h;subst h;exact⟨EqAt.str_none _ _,RcAt.str_none _ _,RcNeAt.str_none _ _⟩
   | bl b=>rw[show w=.bl b from h2] at r2;cases r2;simp[eqF] at h;subst h;exact⟨EqAt.str_bool _ _ _,RcAt.str_bool _ _ _,RcNeAt.str_bool _ _ _⟩
   | int b=>rw[show w=.int b from h2] at r2;obtain⟨t,rfl⟩:=r2;simp[eqF] at h;subst h;exact⟨EqAt.str_int _ _ _ _,RcAt.str_int _ _ _ _,RcNeAt.str_int _ _ _ _⟩
   | str b=>rw[show w=.str b from h2] at r2;obtain⟨t,rfl⟩:=r2;simp only[eqF,Option.some.injEq] at h;subst h;exact⟨EqAt.str_str _ _ _ _,RcAt.str_str _ _ _ _,RcNeAt.str_str _ _ _ _⟩
   | tup es=>
    obtain⟨b,ys,rfl,q,r⟩:=h2
    cases r2
    obtain⟨its,_,p,_⟩:=I.tuple q
    simp[eqF] at h;subst h
    exact⟨EqAt.str_tuple _ _ (show s.heap.IsTuple b its.toArray from p) hu,RcAt.str_tuple _ _ (show s.heap.IsTuple b its.toArray from p) hu,RcNeAt.str_tuple _ _ (show s.heap.IsTuple b its.toArray from p) hu⟩
   | lst es=>
    obtain⟨b,ys,rfl,q,_,r⟩:=h2
    cases r2
    obtain⟨its,_,p,_⟩:=I.list q
    simp[eqF] at h;subst h
    exact⟨EqAt.str_list _ _ p.isList hu,RcAt.str_list _ _ p.isList hu,RcNeAt.str_list _ _ p.isList hu⟩
  | tup ds=>
   have h1':=h1
   obtain⟨a,xs,rfl,q1,rp1⟩:=h1
   cases r1
   obtain⟨its1,v1,p1,_⟩:=I.tuple q1
   have p1':s.heap.IsTuple a its1.toArray:=p1
   cases e with
   | err _ _=>exact h2.elim
   | dic _=>simp[eqF] at h
   | non=>rw[show w=.non from h2] at r2;cases r2;simp[eqF] at h;subst h;exact⟨EqAt.tuple_none p1' hu,RcAt.tuple_none p1' hu,RcNeAt.tuple_none p1' hu⟩
   | bl b=>rw[show w=.bl b from h2] at r2;cases r2;simp[eqF] at h;subst h;exact⟨EqAt.tuple_bool _ p1' hu,RcAt.tuple_bool _ p1' hu,RcNeAt.tuple_bool _ p1' hu⟩
   | int b=>rw[show w=.int b from h2] at r2;obtain⟨t,rfl⟩:=r2;simp[eqF] at h;subst h;exact⟨EqAt.tuple_int _ _ p1' hu,RcAt.tuple_int _ _ p1' hu,RcNeAt.tuple_int _ _ p1' hu⟩
   | str b=>rw[show w=.str b from h2] at r2;obtain⟨t,rfl⟩:=r2;simp[eqF] at h;subst h;exact⟨EqAt.tuple_str _ _ p1' hu,RcAt.tuple_str _ _ p1' hu,RcNeAt.tuple_str _ _ p1' hu⟩
   | tup es=>
    have h2':=h2
    obtain⟨b,ys,rfl,q2,rp2⟩:=h2
    cases r2
    obtain⟨its2,v2,p2,_⟩:=I.tuple q2
    have hk:gM n ds es=some k:=by simpa[eqF] using h
    have hv:=pE hk
    have l1:its1.toArray.size=ds.length:=by rw[List.size_toArray,<-v1.length,rp1.length]
    have l2:its2.toArray.size=es.length:=by rw[List.size_toArray,<-v2.length,rp2.length]
    have rc:RcAt A s (.ref a) (.ref b) k:=by
     rw[hv,<-l1,<-l2]
     exact RcAt.tuples p1' (show s.heap.IsTuple b its2.toArray from p2) hu (items rp1 rp2 v1 v2 hk)
    have rn:RcNeAt A s (.ref a) (.ref b) (!k):=by
     rw[hv,<-l1,<-l2]
     exact RcNeAt.tuples p1' (show s.heap.IsTuple b its2.toArray from p2) hu (items rp1 rp2 v1 v2 hk)
    refine⟨?_,rc,rn⟩
    by_cases hab:a=b
    . subst hab
      have:=tH I (n+1) (.tup ds) (.tup es) (.ref a) k ex ex' h1' h2' h
      subst this
      exact EqAt.same _
    . exact EqAt.of_refs hab rc
   | lst es=>
    obtain⟨b,ys,rfl,q2,_,rp2⟩:=h2
    cases r2
    obtain⟨its2,v2,p2,_⟩:=I.list q2
    simp[eqF] at h;subst h
    exact⟨EqAt.tuple_list p1' p2.isList hu,RcAt.tuple_list p1' p2.isList hu,RcNeAt.tuple_list p1' p2.isList hu⟩
  | lst ds=>
   have h1':=h1
   obtain⟨a,xs,rfl,q1,_,rp1⟩:=h1
   cases r1
   obtain⟨its1,v1,p1,_⟩:=I.list q1
   have p1':=p1.isList
   cases e with
   | err _ _=>exact h2.elim
   | dic _=>simp[eqF] at h
   | non=>rw[show w=.non from h2] at r2;cases r2;simp[eqF] at h;subst h;exact⟨EqAt.list_none p1' hu,RcAt.list_none p1' hu,RcNeAt.list_none p1' hu⟩
   | bl b=>rw[show w=.bl b from h2] at r2;cases r2;simp[eqF] at h;subst h;exact⟨EqAt.list_bool _ p1' hu,RcAt.list_bool _ p1' hu,RcNeAt.list_bool _ p1' hu⟩
   | int b=>rw[show w=.int b from h2] at r2;obtain⟨t,rfl⟩:=r2;simp[eqF] at h;subst h;exact⟨EqAt.list_int _ _ p1' hu,RcAt.list_int _ _ p1' hu,RcNeAt.list_int _ _ p1' hu⟩
   | str b=>rw[show w=.str b from h2] at r2;obtain⟨t,rfl⟩:=r2;simp[eqF] at h;subst h;exact⟨EqAt.list_str _ _ p1' hu,RcAt.list_str _ _ p1' hu,RcNeAt.list_str _ _ p1' hu⟩
   | lst es=>
    have h2':=h2
    obtain⟨b,ys,rfl,q2,_,rp2⟩:=h2
    cases r2
    obtain⟨its2,v2,p2,_⟩:=I.list q2
    have l1:its1.toArray.size=ds.length:=by rw[List.size_toArray,<-v1.length,rp1.length]
    have l2:its2.toArray.size=es.length:=by rw[List.size_toArray,<-v2.length,rp2.length]
    have both:RcAt A s (.ref a) (.ref b) k/\RcNeAt A s (.ref a) (.ref b) (!k):=by
     by_cases hl:ds.length=es.length
     . have hk:gM n ds es=some k:=by simpa[eqF,hl] using h
       have hv:=pE hk
       rw[<-hl,Nat.min_self,beq_self_eq_true,Bool.and_true,<-l1] at hv
       rw[hv]
       exact⟨RcAt.lists p1' p2.isList (by rw[l1,l2,hl]) hu (items rp1 rp2 v1 v2 hk),RcNeAt.lists p1' p2.isList (by rw[l1,l2,hl]) hu (items rp1 rp2 v1 v2 hk)⟩
     . have hk:k=false:=by simpa[eqF,hl] using h.symm
       subst hk
       have hz:(its1.toArray.size != its2.toArray.size)=true:=by rw[l1,l2];simpa using hl
       exact⟨RcAt.lists_lengths p1' p2.isList hz hu,RcNeAt.lists_lengths p1' p2.isList hz hu⟩
    refine⟨?_,both.1,both.2⟩
    by_cases hab:a=b
    . subst hab
      have:=tH I (n+1) (.lst ds) (.lst es) (.ref a) k ex ex' h1' h2' h
      subst this
      exact EqAt.same _
    . exact EqAt.of_refs hab both.1
   | tup es=>
    obtain⟨b,ys,rfl,q2,rp2⟩:=h2
    cases r2
    obtain⟨its2,v2,p2,_⟩:=I.tuple q2
    have p2':s.heap.IsTuple b its2.toArray:=p2
    simp[eqF] at h;subst h
    exact⟨EqAt.list_tuple p1' p2' hu,RcAt.list_tuple p1' p2' hu,RcNeAt.list_tuple p1' p2' hu⟩
end
end Hp
end
noncomputable section
namespace HT
open PySem PyProof.Rows
section
open PySem.SeqAt
open PySem.AutoSeq1 (wpAny_loadPart')
open PySem.MeetsSeq PySem.MeetsSeq2 PySem.MeetsSeq3
end
section
variable {prog:Program} {w:World} {A:Around} {E:Value->Shared->Prop} {s:Shared}
end
end HT
end
noncomputable section
namespace Hp
open PySem PySem.Spec PyProof.Rows L2 PySem.SeqAt
section
variable {X:Cx} {σV:L2.St} {H:Hp} {s:Shared} {pins:List (Addr×Obj)}
mutual
theorem aAf(I:L2.Inv X pins σV H s):∀(d e:D) (u:V) (ex ex':Addr->Prop),Rep X.K H ex d u->Rep X.K H ex' e u->(∀kvs,d≠.dic kvs)->iP d=true->iP e=true->d=e
 | .non,e,u,_,_,h1,h2,_,_,_=>by
  rw[show u=.non from h1] at h2
  cases e with
  | non=>rfl
  | _=>first|(obtain⟨a,xs,z,_⟩:=h2;cases z)|exact h2.elim|(injection h2)
 | .bl b,e,u,_,_,h1,h2,_,_,_=>by
  rw[show u=.bl b from h1] at h2
  cases e with
  | bl b'=>cases(show V.bl b=.bl b' from h2);rfl
  | _=>first|(obtain⟨a,xs,z,_⟩:=h2;cases z)|exact h2.elim|(injection h2)
 | .int b,e,u,_,_,h1,h2,_,_,_=>by
  rw[show u=.int b from h1] at h2
  cases e with
  | int b'=>cases(show V.int b=.int b' from h2);rfl
  | _=>first|(obtain⟨a,xs,z,_⟩:=h2;cases z)|exact h2.elim|(injection h2)
 | .str b,e,u,_,_,h1,h2,_,_,_=>by
  rw[show u=.str b from h1] at h2
  cases e with
  | str b'=>cases(show V.str b=.str b' from h2);rfl
  | _=>first|(obtain⟨a,xs,z,_⟩:=h2;cases z)|exact h2.elim|(injection h2)
 | .tup ds,e,u,ex,ex',h1,h2,_,n1,n2=>by
  obtain⟨a,xs,z,q,r⟩:=h1
  subst z
  cases e with
  | tup es=>
   obtain⟨a',ys,z,q',r'⟩:=h2
   cases z
   have:xs=ys:=I.tuple_inj q q'
   subst this
   rw[reps_inj I ds es xs ex ex' r r' (by simpa[iP] using n1) (by simpa[iP] using n2)]
  | lst es=>
   obtain⟨a',ys,z,q',_,r'⟩:=h2
   cases z
   exact(I.lt_ne q' q).elim
  | dic _=>simp[iP] at n2
  | err _ _=>exact h2.elim
  | _=>injection h2
 | .lst ds,e,u,ex,ex',h1,h2,_,n1,n2=>by
  obtain⟨a,xs,z,q,_,r⟩:=h1
  subst z
  cases e with
  | lst es=>
   obtain⟨a',ys,z,q',_,r'⟩:=h2
   cases z
   have:xs=ys:=I.list_inj q q'
   subst this
   rw[reps_inj I ds es xs ex ex' r r' (by simpa[iP] using n1) (by simpa[iP] using n2)]
  | tup es=>
   obtain⟨a',ys,z,q',r'⟩:=h2
   cases z
   exact(I.lt_ne q q').elim
  | dic _=>simp[iP] at n2
  | err _ _=>exact h2.elim
  | _=>injection h2
 | .dic kvs,e,u,_,_,_,_,hn,_,_=>absurd rfl (hn kvs)
 | .err _ _,e,u,_,_,h1,_,_,_,_=>h1.elim
theorem reps_inj(I:L2.Inv X pins σV H s):∀(ds es:List D) (us:List V) (ex ex':Addr->Prop),Reps X.K H ex ds us->Reps X.K H ex' es us->noDics ds=true->noDics es=true->ds=es
 | [],[],_,_,_,_,_,_,_=>rfl
 | [],e::es,us,_,_,h1,h2,_,_=>by
  obtain⟨x,r,z,_⟩:=h2
  rw[show us=[] from h1] at z;cases z
 | d::ds,[],us,_,_,h1,h2,_,_=>by
  obtain⟨x,r,z,_⟩:=h1
  rw[show us=[] from h2] at z;cases z
 | d::ds,e::es,us,ex,ex',h1,h2,n1,n2=>by
  obtain⟨x,r,z,a1,b1⟩:=h1
  obtain⟨x',r',z',a2,b2⟩:=h2
  rw[z] at z'
  cases z'
  simp only[noDics,bA] at n1 n2
  rw[aAf I d e x ex ex' a1 a2 (λkvs z=>by subst z;simp[iP] at n1) n1.1 n2.1,reps_inj I ds es r ex ex' b1 b2 n1.2 n2.2]
end
theorem aAg:∀{x:D} {ys:List D} {k:Bool},oW x ys=some k->(∀y∈ys,∃b,eqD y x=some b)/\(k=true↔∃y∈ys,eqD y x=some true)
 | x,[],k,h=>by
  simp[oW] at h
  subst h
  simp
 | x,y::ys,k,h=>by
  rw[oW] at h
  cases q1:eqD y x with
  | none=>rw[q1] at h;simp at h
  | some a=>
   cases q2:oW x ys with
   | none=>rw[q1,q2] at h;simp at h
   | some b=>
    rw[q1,q2] at h
    have hk:(a||b)=k:=Option.some.inj h
    obtain⟨i1,i2⟩:=aAg q2
    refine⟨λz hz=>?_,?_⟩
    . rcases List.mem_cons.mp hz with e|e
      . subst e;exact⟨a,q1⟩
      . exact i1 z e
    . rw[<-hk,Bool.or_eq_true,i2]
      constructor
      . rintro (e|⟨z,hz,e⟩)
        . exact⟨y,List.mem_cons_self,by rw[q1,e]⟩
        . exact⟨z,List.mem_cons_of_mem _ hz,e⟩
      . rintro ⟨z,hz,e⟩
        rcases List.mem_cons.mp hz with e'|e'
        . subst e';rw[q1] at e;exact .inl (Option.some.inj e)
        . exact .inr ⟨z,e',e⟩
theorem kM:∀{ds:List D} {d:D},noDics ds=true->d∈ds->iP d=true
 | d'::ds,d,h,hm=>by
  simp only[noDics,bA] at h
  rcases List.mem_cons.mp hm with e|e
  . subst e;exact h.1
  . exact kM h.2 e
open Classical in
theorem jQ(I:L2.Inv X pins σV H s){A:Around}(hA:A.units+lD+1<cLine){x:D}{ux:V}{vx:Value}{ex ex':Addr->Prop}{ys:List D}{xs:List V}{its:List Value}{k:Bool}
 (hx:Rep X.K H ex x ux) (rx:bQ ux vx) (r:Reps X.K H ex' ys xs) (v:bC xs its) (hn:noDics ys=true) (h:oW x ys=some k) :
 ∃e:Value->Bool,(∀y,y∈its.toArray->EqAt A.in1 s y vx (e y))/\its.toArray.any e=k:=by
 obtain⟨h1,h2⟩:=aAg h
 have at':∀y∈its,∃u d,bQ u y/\Rep X.K H ex' d u/\d∈ys:=λy hy=>by
  obtain⟨j,hj⟩:=List.getElem?_of_mem hy
  have hl:=v.length
  have hjl:j<xs.length:=by have:=(List.getElem?_eq_some_iff.mp hj).1;omega
  obtain⟨u',e',q⟩:=v.get (List.getElem?_eq_getElem hjl)
  rw[hj] at e'
  cases e'
  obtain⟨d,hd,rd⟩:=r.get' (List.getElem?_eq_getElem hjl)
  exact⟨_,d,q,rd,mG hd⟩
 refine⟨λy=>decide (∃u d,bQ u y/\Rep X.K H ex' d u/\d∈ys/\eqD d x=some true),λy hy=>?_,?_⟩
 . obtain⟨u,d,q,rd,hd⟩:=at' y (by simpa using hy)
   obtain⟨b,hb⟩:=h1 d hd
   have key:(decide (∃u d,bQ u y/\Rep X.K H ex' d u/\d∈ys/\eqD d x=some true))=b:=by
    cases b with
    | true=>exact decide_eq_true ⟨u,d,q,rd,hd,hb⟩
    | false=>
     refine decide_eq_false ?_
     rintro ⟨u',d',q',rd',hd',hb'⟩
     have e1:u'=u:=q'.inj q
     subst e1
     have n1:=kM hn hd
     have n2:=kM hn hd'
     have e2:d=d':=aAf I d d' u' ex' ex' rd rd' (λkvs z=>by subst z;simp[iP] at n1) n1 n2
     subst e2
     rw[hb] at hb'
     cases hb'
   show EqAt A.in1 s y vx (decide (∃u d,bQ u y/\Rep X.K H ex' d u/\d∈ys/\eqD d x=some true))
   rw[key]
   exact(aAe I lD A.in1 d x u ux y vx b ex' ex (by rw[rP];omega) rd hx q rx hb).1
 . rw[Bool.eq_iff_iff,h2]
   constructor
   . intro q
     have q':its.any (λy=>decide (∃u d,bQ u y/\Rep X.K H ex' d u/\d∈ys/\eqD d x=some true))=true:=by simpa using q
     obtain⟨y,hy,q''⟩:=List.any_eq_true.mp q'
     obtain⟨u,d,_,_,hd,e⟩:=of_decide_eq_true q''
     exact⟨d,hd,e⟩
   . rintro ⟨d,hd,e⟩
     have:its.any (λy=>decide (∃u d,bQ u y/\Rep X.K H ex' d u/\d∈ys/\eqD d x=some true))=true:=by
      obtain⟨j,hj⟩:=List.getElem?_of_mem hd
      obtain⟨u,hu,ru⟩:=r.get hj
      obtain⟨y,hy,q⟩:=v.get hu
      exact List.any_eq_true.mpr ⟨y,mG hy,decide_eq_true ⟨u,d,q,ru,hd,e⟩⟩
     simpa using this
end
section
variable {X:Cx} {RT Y old:Addr->Prop} {σ:Sg} {σV:L2.St} {H:Hp} {s:Shared} {pins:List (Addr×Obj)} {Q:VK} {ux uy:V} {vx vy:Value} {x y:Vl}
theorem aBe{o:CmpOp}{k:Bool}{σV2:L2.St}(I:L2.Inv X pins σV H s)(hA:X.A.units+200<cLine)(rx:bQ ux vx)(ry:bQ uy vy)(hx:Rv X.K RT Y old σ σV2 H x ux)(hy:Rv X.K RT Y old σ σV2 H y uy)
 (h:cG o x.d y.d=some k) (q:Q (.bl k) H):wpAny (model X.prog X.w) X.A (compareOp o vx vy) (EP X pins σV Q) X.xe s:=by
 have hu:X.A.units<cLine:=by omega
 have fin:EP X pins σV Q (.bool k) s:=⟨.bl k,H,I,rfl,q⟩
 have hD:lD=120:=rfl
 have go:∀{f:Value->Value->Sem Value} {r:R2},OpR X f r->r ux uy H Q->wpAny (model X.prog X.w) X.A (f vx vy) (EP X pins σV Q) X.xe s:=λhr q=>hr pins s σV H ux uy vx vy Q I rx ry q
 have e3:∀{b:Bool},eqD x.d y.d=some b->Eq3 X.A s vx vy b:=λ{b} hb=>aAe I lD X.A x.d y.d ux uy vx vy b _ _ (by omega) hx hy rx ry hb
 cases o with
 | Eq=>exact(e3 h).2.1 X.prog X.w X.xe _ fin
 | NotEq=>
  simp only[cG,Option.map_eq_some_iff] at h
  obtain⟨b,hb,e⟩:=h
  subst e
  exact(e3 hb).2.2 X.prog X.w X.xe _ fin
 | Lt=>
  simp only[cG] at h
  unfold ltD at h
  split at h
  . rename_i a b d1 d2
    exact go aJg ⟨a,b,hx.int d1,hy.int d2,by show Q (.bl (decide (a<b))) H;rw[Option.some.inj h];exact q⟩
  . cases h
 | Gt=>
  simp only[cG] at h
  split at h
  . rename_i a b d1 d2
    exact go aJi ⟨a,b,hx.int d1,hy.int d2,by show Q (.bl (decide (b<a))) H;rw[Option.some.inj h];exact q⟩
  . cases h
 | LtE=>
  simp only[cG] at h
  unfold leD at h
  split at h
  . rename_i a b d1 d2
    exact go aJh ⟨a,b,hx.int d1,hy.int d2,by show Q (.bl (decide (a<=b))) H;rw[Option.some.inj h];exact q⟩
  . cases h
 | GtE=>
  simp only[cG] at h
  split at h
  . rename_i a b d1 d2
    exact go aJj ⟨a,b,hx.int d1,hy.int d2,by show Q (.bl (decide (b<=a))) H;rw[Option.some.inj h];exact q⟩
  . cases h
 | Is=>
  simp only[cG] at h
  split at h
  . rename_i d2
    refine go aGT ⟨hy.non d2,?_⟩
    have:decide (ux=V.non)=k:=by
     rw[<-Option.some.inj h]
     unfold isNone
     split
     . rename_i d1;rw[hx.non d1];simp
     . rename_i d1
       refine decide_eq_false λz=>?_
       rw[z] at hx
       unfold Rv at hx
       cases q':x.d with
       | non=>exact d1 q'
       | _=>rw[q'] at hx;first|(obtain⟨a,xs,z',_⟩:=hx;cases z')|exact hx.elim|injection hx
    rw[this]
    exact q
  . cases h
 | IsNot=>
  simp only[cG] at h
  split at h
  . rename_i d2
    refine go aEB ⟨hy.non d2,?_⟩
    have:(!decide (ux=V.non))=k:=by
     rw[<-Option.some.inj h]
     unfold isNone
     split
     . rename_i d1;rw[hx.non d1];simp
     . rename_i d1
       rw[decide_eq_false λz=>?_]
       rw[z] at hx
       unfold Rv at hx
       cases q':x.d with
       | non=>exact d1 q'
       | _=>rw[q'] at hx;first|(obtain⟨a,xs,z',_⟩:=hx;cases z')|exact hx.elim|injection hx
    rw[this]
    exact q
  . cases h
 | In=>
  simp only[cG] at h
  unfold inD at h
  split at h
  . rename_i ys d2
    by_cases hn:noDics ys=true
    . rw[if_pos hn] at h
      obtain⟨b,xs,e2,p2,_,r2⟩:=hy.lst d2
      subst e2
      cases ry
      obtain⟨its,v2,t2,_⟩:=I.list p2
      obtain⟨e,he,hk⟩:=jQ I (A:=X.A) (by omega) hx rx r2 v2 hn h
      exact in_listAt e t2.isList he (by rw[hk];exact fin)
    . rw[if_neg hn] at h;cases h
  . rename_i ys d2
    by_cases hn:noDics ys=true
    . rw[if_pos hn] at h
      obtain⟨b,xs,e2,p2,r2⟩:=hy.tup d2
      subst e2
      cases ry
      obtain⟨its,v2,t2,_⟩:=I.tuple p2
      obtain⟨e,he,hk⟩:=jQ I (A:=X.A) (by omega) hx rx r2 v2 hn h
      exact in_tupleAt e (show s.heap.IsTuple b its.toArray from t2) he (by rw[hk];exact fin)
    . rw[if_neg hn] at h;cases h
  . rename_i a b d1 d2
    exact go aAV ⟨a,b,hx.str d1,hy.str d2,by rw[show(!(Builtin.Str.occurrences b a 0 b.length 1).isEmpty)=k from Option.some.inj h];exact q⟩
  . cases h
 | NotIn=>
  simp only[cG,Option.map_eq_some_iff] at h
  obtain⟨k',h,ek⟩:=h
  subst ek
  unfold inD at h
  split at h
  . rename_i ys d2
    by_cases hn:noDics ys=true
    . rw[if_pos hn] at h
      obtain⟨b,xs,e2,p2,_,r2⟩:=hy.lst d2
      subst e2
      cases ry
      obtain⟨its,v2,t2,_⟩:=I.list p2
      obtain⟨e,he,hk⟩:=jQ I (A:=X.A) (by omega) hx rx r2 v2 hn h
      exact notIn_listAt e t2.isList he (by rw[hk];exact fin)
    . rw[if_neg hn] at h;cases h
  . rename_i ys d2
    by_cases hn:noDics ys=true
    . rw[if_pos hn] at h
      obtain⟨b,xs,e2,p2,r2⟩:=hy.tup d2
      subst e2
      cases ry
      obtain⟨its,v2,t2,_⟩:=I.tuple p2
      obtain⟨e,he,hk⟩:=jQ I (A:=X.A) (by omega) hx rx r2 v2 hn h
      exact notIn_tupleAt e (show s.heap.IsTuple b its.toArray from t2) he (by rw[hk];exact fin)
    . rw[if_neg hn] at h;cases h
  . rename_i a b d1 d2
    exact go tB ⟨a,b,hx.str d1,hy.str d2,by rw[show(!(Builtin.Str.occurrences b a 0 b.length 1).isEmpty)=k' from Option.some.inj h];exact q⟩
  . cases h
end
end Hp
end
noncomputable section
namespace Hp
open PySem PySem.Spec PyProof.Rows L2
section
variable {X:Cx} {RT Y old:Addr->Prop} {σ:Sg} {σV:L2.St} {H:Hp} {s:Shared} {pins:List (Addr×Obj)} {Q:VK} {ux uy:V} {vx vy:Value} {x y:Vl}
theorem tJ(n:Nat)(k:Int):Hp.ixN n k=L2.ixN n k:=rfl
theorem Rv.ofSub{d:D}{u:V}(h:Rep X.K H (exV RT Y old σ σV x.pa x.al) d u):Ro X.K RT Y old σ σV H H (x.sub d) u:=by
 refine Ro.plain (aU.refl H) ?_ (Rv.sub (ds:=[]) (xs:=[]) (j:=0) h)
 unfold Vl.sub Vl.cl
 split <;> rfl
theorem aBf(t:Tk X.K H)(hx:Rv X.K RT Y old σ σV H x ux)(hy:Rv X.K RT Y old σ σV H y uy)(h:RE (eA x y) (Wn X RT Y old σ σV H Q)):rIx X.K ux uy H (λv H'=>Tk X.K H'->Q v H'):=by
 unfold eA at h
 split at h
 . rename_i ds k d1 d2
   obtain⟨a,xs,e,q,_,r⟩:=hx.lst d1
   cases hj:Hp.ixN ds.length k with
   | none=>rw[hj] at h;exact h.elim
   | some j=>
    rw[hj] at h
    cases hd:ds[j]? with
    | none=>simp only[hd] at h;exact h.elim
    | some d=>
     simp only[hd] at h
     obtain⟨v,hv,rv⟩:=r.get hd
     refine .inl ⟨a,xs,k,v,e,hy.int d2,q,?_,λt'=>h v H t' (Rv.ofSub rv)⟩
     unfold atI
     rw[<-r.length,<-tJ,hj]
     exact hv
 . rename_i ds k d1 d2
   obtain⟨a,xs,e,q,r⟩:=hx.tup d1
   cases hj:Hp.ixN ds.length k with
   | none=>rw[hj] at h;exact h.elim
   | some j=>
    rw[hj] at h
    cases hd:ds[j]? with
    | none=>simp only[hd] at h;exact h.elim
    | some d=>
     simp only[hd] at h
     obtain⟨v,hv,rv⟩:=r.get hd
     refine .inr (.inl ⟨a,xs,k,v,e,hy.int d2,q,?_,λt'=>h v H t' (Rv.ofSub rv)⟩)
     unfold atI
     rw[<-r.length,<-tJ,hj]
     exact hv
 . rename_i z k d1 d2
   obtain⟨c,h⟩:=h.iff
   have c':=of_decide_eq_true c
   cases hj:Hp.ixN z.length k with
   | none=>rw[hj] at h;exact h.elim
   | some j=>
    rw[hj] at h
    cases hd:z.cps.toList[j]? with
    | none=>simp only[hd] at h;exact h.elim
    | some c=>
     simp only[hd] at h
     refine .inr (.inr ⟨z,k,c,hx.str d1,hy.int d2,fU c',?_,λt'=>Wn.val h t' λ_=>rfl⟩)
     unfold atI
     have hl:z.cps.toList.length=z.length:=by simp[Str.length]
     rw[hl,<-tJ,hj]
     exact hd
 . exact h.elim
theorem tK(n d:Nat)(o:Option Int):Hp.sIx n d o=HT.sIx n d o:=by cases o <;> rfl
theorem vM{K:Fg}{ex:Addr->Prop}{ds:List D}{xs:List V}(r:Reps K H ex ds xs)(lo hi:Option Int):Reps K H ex (cut ds lo hi) (vE xs lo hi):=by
 unfold cut vE
 rw[tK,tK,r.length]
 exact(r.drop _).take _
theorem jZ{prog:Program}{w:World}{A:Around}{E:Value->Shared->Prop}{t sl:Addr}{items:Array Value}{vl vu:Value}{lo hi:Option Int}{Q:Value->Shared->Prop}(ht:IsTup s.heap t items)(hs:s.heap.IsSliceOf sl vl vu .none)(pl:IsPart vl lo)(pu:IsPart vu hi)
 (hw:HT.sIx items.size 0 lo=0/\HT.sIx items.size items.size hi=items.size) (h:Q (.ref t) s):wpAny (model prog w) A (getItem (.ref t) (.ref sl)) Q E s:=by
 obtain⟨os,hos,hcs,hds⟩:=id hs
 have hTs:s.TypeIs (.ref sl) "slice" := ⟨os,hos,hcs⟩
 unfold getItem
 try with_reducible refine wpAny_holding ?_
 first|refine wpAny_bind (wpAny_pure ?_)|skip
 refine wpAny_bind (wpAny_sequenceKey ht.typeIs (by decide) ?_)
 refine wpAny_bind (wpAny_callSpecial?_slot (name:=Str.ofString "__getitem__") ht.typeIs PyProof.Rows.slot_tuple_getitem
  (wpAny_call_entry PyProof.Rows.slot_tuple_getitem ht.typeIs entry_tuple_getitem ?_ (args_tuple_getitem _ _)))
 show wpAny _ _ (Builtin.Tuple.tupleItemsOf (.ref t) >>= _) _ _ s
 refine wpAny_bind (tupleItemsOf_ ht ?_)
 refine wpAny_bind (wpAny_typeOf hTs ?_)
 rw[if_pos (by decide)]
 refine wpAny_bind (HT.sliceApplied_gen hs pl pu ?_)
 have hyes:(((HT.sIx items.size 0 lo:Nat):Int)==0&&(1:Int)==1&&(HT.sIx items.size items.size hi-HT.sIx items.size 0 lo)==items.size)=true:=by
  rw[hw.1,hw.2]
  simp
 show wpAny _ _ (if (((HT.sIx items.size 0 lo:Nat):Int)==0&&(1:Int)==1&&(HT.sIx items.size items.size hi-HT.sIx items.size 0 lo)==items.size)=true then _ else _) _ _ s
 rw[if_pos hyes]
 unfold Builtin.Tuple.tupleIsExact
 refine wpAny_bind (wpAny_bind (wpAny_typeOf ht.typeIs (wpAny_pure ?_)))
 rw[if_pos (beq_self_eq_true _)]
 exact wpAny_bind (wpAny_rule (wpAny_pure ⟨_,rfl,wpAny_pure h⟩))
def vN(K:Fg):V->Option Int->Option Int->Hp->VK->Prop:=λx lo hi H Q=>∃a xs,x=.ref a/\SqT K H a xs/\(HT.sIx xs.length 0 lo=0/\HT.sIx xs.length xs.length hi=xs.length)/\Q (.ref a) H
theorem aEV:SlR X (vN X.K):=by
 intro pins s σ H x v vl vu lo hi sl Q I rx hs pl pu h
 obtain⟨a,xs,rfl,hx,hw,q⟩:=h
 cases rx
 obtain⟨its,r,ht,hz⟩:=I.tuple hx
 have hlen:its.toArray.size=xs.length:=by rw[List.size_toArray];exact r.length.symm
 refine⟨"tuple",_,PyProof.Rows.slot_tuple_getitem.lookup,ht.typeIs,?_⟩
 exact jZ ht hs pl pu (by rw[hlen];exact hw) ⟨.ref a,H,I,rfl,q⟩
theorem aHl:SlR X (λx lo hi H Q=>aCu X.K x lo hi H Q\/aCs X.K x lo hi H Q\/vN X.K x lo hi H Q\/aCD x lo hi H Q):=aEM.or (aGX.or (aEV.or aHi))
theorem aBg{α:Type}{xs:List α}{lo hi:Option Int}(h1:Hp.sIx xs.length 0 lo=0)(h2:Hp.sIx xs.length xs.length hi=xs.length):cut xs lo hi=xs:=by
 unfold cut
 rw[h1,h2,List.drop_zero,Nat.sub_zero,List.take_length]
theorem aBh{lo hi:Option Int}(S:Sx X.K RT Y old σ σV H)(t:Tk X.K H)(hx:Rv X.K RT Y old σ σV H x ux)(h:RE (eG x lo hi) (Wn X RT Y old σ σV H Q)) :
 aCu X.K ux lo hi H (λv H'=>Tk X.K H'->Q v H')\/aCs X.K ux lo hi H (λv H'=>Tk X.K H'->Q v H')\/vN X.K ux lo hi H (λv H'=>Tk X.K H'->Q v H')\/aCD ux lo hi H (λv H'=>Tk X.K H'->Q v H'):=by
 unfold eG at h
 split at h
 . rename_i ds d1
   obtain⟨a,xs,e,q,_,r⟩:=hx.lst d1
   refine .inl ⟨a,xs,e,q,λp hp t'=>h _ _ t' (Ro.fresh hp t' rfl rfl S ?_)⟩
   exact vM (gD r) lo hi
 . rename_i ds d1
   obtain⟨a,xs,e,q,r⟩:=hx.tup d1
   have r':=gD r
   by_cases hw:HT.sIx xs.length 0 lo=0/\HT.sIx xs.length xs.length hi=xs.length
   . refine .inr (.inr (.inl ⟨a,xs,e,q,hw,λt'=>h _ _ t' (Ro.plain (aU.refl H) rfl ?_)⟩))
     have e':cut ds lo hi=ds:=aBg (by rw[tK,r.length];exact hw.1) (by rw[tK,r.length];exact hw.2)
     unfold Rv
     show Rep X.K H _ (.tup (cut ds lo hi)) (.ref a)
     rw[e']
     exact⟨a,xs,rfl,q,r'⟩
   . exact .inr (.inl ⟨a,xs,e,q,hw,λp hp t'=>h _ _ t' (Ro.tup hp rfl rfl (vM r' lo hi))⟩)
 . rename_i a d1
   obtain⟨hl,h⟩:=h.iff
   have e:ux=.str a:=by
    have z:=hx
    unfold Rv at z
    rw[d1] at z
    exact z
   exact .inr (.inr (.inr ⟨a,e,fU (of_decide_eq_true hl),λt'=>h _ _ t' (Ro.cl (aU.refl H) rfl)⟩))
 . exact h.elim
theorem iF:∀{ds:List D} {bs:List Bool} {xs:List V} {ex:Addr->Prop},cE ds=some bs->Reps X.K H ex ds xs->xs=bs.map V.bl
 | [],bs,xs,ex,h,r=>by
  simp[cE] at h
  subst h
  exact r
 | .bl a::ds,bs,xs,ex,h,r=>by
  obtain⟨x,r',z,h1,h2⟩:=r
  rw[cE] at h
  cases q:cE ds with
  | none=>rw[q] at h;cases h
  | some ms=>
   rw[q] at h
   cases h
   rw[z,show x=.bl a from h1,iF q h2]
   rfl
 | .non::ds,ns,xs,ex,h,r=>by simp[cE] at h
 | .int _::ds,ns,xs,ex,h,r=>by simp[cE] at h
 | .str _::ds,ns,xs,ex,h,r=>by simp[cE] at h
 | .tup _::ds,ns,xs,ex,h,r=>by simp[cE] at h
 | .lst _::ds,ns,xs,ex,h,r=>by simp[cE] at h
 | .dic _::ds,ns,xs,ex,h,r=>by simp[cE] at h
 | .err _ _::ds,ns,xs,ex,h,r=>by simp[cE] at h
theorem rQ:∀{bs:List Bool} {us:List Value},bC (bs.map V.bl) us->us=bs.map Value.bool:=by
 intro bs
 induction bs with
 | nil=>intro us r;rw[mN] at r;cases r;rfl
 | cons b bs ih=>
  intro us r
  rw[mC] at r
  cases r with
  | cons r1 r2=>
   rw[show _=Value.bool b from r1,ih r2]
   rfl
theorem yM(bs:List Bool):((List.range bs.length).all λi=>(bs[i]?).getD true)=bs.all id:=by
 rw[Bool.eq_iff_iff]
 simp only[List.all_eq_true,List.mem_range,id]
 constructor
 . intro h b hb
   obtain⟨i,hi⟩:=List.getElem?_of_mem hb
   have:=h i (List.getElem?_eq_some_iff.mp hi).1
   rw[hi] at this
   simpa using this
 . intro h i hi
   have e:=List.getElem?_eq_getElem hi
   rw[e]
   exact h _ (List.getElem_mem hi)
theorem aBi(hc:X.calm=true):fR X (.builtin "all") (λxs H Q=>∃(p:Addr) (bs:List Bool),xs=[.ref p]/\SqL X.K H p (bs.map V.bl)/\Q (.bl (bs.all id)) H):=by
 intro pins s σ H xs us Q I r h
 obtain⟨p,bs,rfl,hq,q⟩:=h
 obtain⟨u,rfl,rx⟩:=nJ r
 cases rx
 obtain⟨its,rv,pl,hz⟩:=I.list hq
 have hit:=rQ rv
 subst hit
 have hl:=pl.isList
 have hlt:p<s.heap.objs.size:=pl.lt
 refine call_all_walk (wpAny_pyIter_list hl ?_)
 refine⟨s.heap.objs.size,[s.heap.objs.size,p],[s.heap.objs.size],(bs.map Value.bool).toArray.size,_,_,λi=>(bs[i]?).getD true,rfl,Walks.list (A:=X.A.in1) (I.ok.hd hc) _ p (Nat.ne_of_lt hlt) _,
  ⟨⟨_,Heap.get?_push_size _ rfl,rfl,rfl⟩,hl.push _⟩,λi v s' Q' E' hP hQ=>?_,λh' tk hk=>?_⟩
 . have hP':bs[i]?.map Value.bool=some v:=by simpa using hP
   cases e:bs[i]? with
   | none=>rw[e] at hP';cases hP'
   | some b=>
    rw[e] at hP'
    cases hP'
    simp only[e,Option.getD_some] at hQ
    exact wpAny_truthy_bool hQ
 . have e:((List.range (bs.map Value.bool).toArray.size).all λi=>(bs[i]?).getD true)=bs.all id:=by
    rw[List.size_toArray,lM];exact yM bs
   rw[e]
   refine⟨.bl _,H,I.kept (t':=tk) λb o e'=>hk b o ?_ (Heap.get?_push_of_some _ e'),rfl,q⟩
   intro hm
   rw[List.mem_singleton.mp hm] at e'
   exact Nat.lt_irrefl _ (Heap.lt_size e')
theorem yN(bs:List Bool):((List.range bs.length).any λi=>(bs[i]?).getD true)=bs.any id:=by
 rw[Bool.eq_iff_iff]
 simp only[List.any_eq_true,List.mem_range,id]
 constructor
 . rintro ⟨i,hi,h⟩
   rw[List.getElem?_eq_getElem hi] at h
   exact⟨bs[i],List.getElem_mem hi,h⟩
 . rintro ⟨b,hb,h⟩
   obtain⟨i,hi⟩:=List.getElem?_of_mem hb
   exact⟨i,(List.getElem?_eq_some_iff.mp hi).1,by rw[hi];exact h⟩
theorem aBj(hc:X.calm=true):fR X (.builtin "any") (λxs H Q=>∃(p:Addr) (bs:List Bool),xs=[.ref p]/\SqL X.K H p (bs.map V.bl)/\Q (.bl (bs.any id)) H):=by
 intro pins s σ H xs us Q I r h
 obtain⟨p,bs,rfl,hq,q⟩:=h
 obtain⟨u,rfl,rx⟩:=nJ r
 cases rx
 obtain⟨its,rv,pl,hz⟩:=I.list hq
 have hit:=rQ rv
 subst hit
 have hl:=pl.isList
 have hlt:p<s.heap.objs.size:=pl.lt
 refine call_any_walk (wpAny_pyIter_list hl ?_)
 refine⟨s.heap.objs.size,[s.heap.objs.size,p],[s.heap.objs.size],(bs.map Value.bool).toArray.size,_,_,λi=>(bs[i]?).getD true,rfl,Walks.list (A:=X.A.in1) (I.ok.hd hc) _ p (Nat.ne_of_lt hlt) _,
  ⟨⟨_,Heap.get?_push_size _ rfl,rfl,rfl⟩,hl.push _⟩,λi v s' Q' E' hP hQ=>?_,λh' tk hk=>?_⟩
 . have hP':bs[i]?.map Value.bool=some v:=by simpa using hP
   cases e:bs[i]? with
   | none=>rw[e] at hP';cases hP'
   | some b=>
    rw[e] at hP'
    cases hP'
    simp only[e,Option.getD_some] at hQ
    exact wpAny_truthy_bool hQ
 . have e:((List.range (bs.map Value.bool).toArray.size).any λi=>(bs[i]?).getD true)=bs.any id:=by
    rw[List.size_toArray,lM];exact yN bs
   rw[e]
   refine⟨.bl _,H,I.kept (t':=tk) λb o e'=>hk b o ?_ (Heap.get?_push_of_some _ e'),rfl,q⟩
   intro hm
   rw[List.mem_singleton.mp hm] at e'
   exact Nat.lt_irrefl _ (Heap.lt_size e')
def rBi(X:Cx)(b:Bi):List V->Hp->VK->Prop:=match b with
 | .len=>λxs H Q=>(∃p ys,xs=[.ref p]/\(SqL X.K H p ys\/SqT X.K H p ys)/\Q (.int ys.length) H)\/∃z,xs=[.str z]/\z.length<=sizeLine/\Q (.int z.length) H
 | .list=>λxs H Q=>∃p ys,xs=[.ref p]/\(SqL X.K H p ys\/SqT X.K H p ys)/\∀l,H l=none->Q (.ref l) (upd H l (.lst ys))
 | .tuple=>λxs H Q=>∃p ys,xs=[.ref p]/\((SqL X.K H p ys/\∀l,H l=none->Q (.ref l) (upd H l (.tup ys)))\/(SqT X.K H p ys/\Q (.ref p) H))
 | .min=>λxs H Q=>∃i j,xs=[.int i,.int j]/\Q (.int (if j<i then j else i)) H
 | .int=>λxs H Q=>(∃i,xs=[.int i]/\Q (.int i) H)\/∃k,xs=[.bl k]/\Q (.int (if k then 1 else 0)) H
 | .all=>λxs H Q=>∃(p:Addr) (bs:List Bool),xs=[.ref p]/\SqL X.K H p (bs.map V.bl)/\Q (.bl (bs.all id)) H
 | .any=>λxs H Q=>∃(p:Addr) (bs:List Bool),xs=[.ref p]/\SqL X.K H p (bs.map V.bl)/\Q (.bl (bs.any id)) H
 | _=>λ_ _ _=>False
def aGb:Bi->Value
 | .len=>.builtin "len" | .list=>.type "list" | .tuple=>.type "tuple" | .min=>.builtin "min" | .max=>.builtin "max" | .abs=>.builtin "abs" | .int=>.type "int" | .str=>.type "str"
 | .all=>.builtin "all" | .any=>.builtin "any" | .sum=>.builtin "sum" | .sorted=>.builtin "sorted" | .bool=>.type "bool" | .repr=>.builtin "repr"
theorem aEW(hc:X.calm=true)(hg:X.A.guards=some [])(hu:X.A.units+200<cLine)(b:Bi)(hb:aCB b=true):fR X (aGb b) (rBi X b):=by
 cases b with
 | len=>exact tD.or tE
 | list=>exact tF
 | tuple=>exact rA
 | min=>exact aAW hc
 | int=>exact aAX
 | all=>exact aBi hc
 | any=>exact aBj hc
 | _=>cases hb
theorem aCH{b:Bi}(hb:aCB b=true)(S:Sx X.K RT Y old σ σV H){vs:List Vl}{us:List V}(hv:Rvs X.K RT Y old σ σV H vs us)(h:RE (biD b vs) (Wn X RT Y old σ σV H Q)) :
 rBi X b us H (λv H'=>Tk X.K H'->Q v H'):=by
 unfold biD at h
 split at h
 . rename_i x
   obtain⟨u,r,e,hx,hr⟩:=hv
   rw[show r=[] from hr] at e
   subst e
   cases b with
   | len=>
    dsimp only[yG] at h
    split at h
    . rename_i ds d1
      obtain⟨a,xs,e,q,_,r⟩:=hx.lst d1
      exact .inl ⟨a,xs,by rw[e],.inl q,λt'=>by rw[<-r.length];exact Wn.val h t' λ_=>rfl⟩
    . rename_i ds d1
      obtain⟨a,xs,e,q,r⟩:=hx.tup d1
      exact .inl ⟨a,xs,by rw[e],.inr q,λt'=>by rw[<-r.length];exact Wn.val h t' λ_=>rfl⟩
    . rename_i z d1
      obtain⟨c,h⟩:=h.iff
      exact .inr ⟨z,by rw[hx.str d1],fU (of_decide_eq_true c),λt'=>Wn.val h t' λ_=>rfl⟩
    . exact h.elim
   | list=>
    dsimp only[yG] at h
    split at h
    . rename_i ds d1
      obtain⟨a,xs,e,q,_,r⟩:=hx.lst d1
      exact⟨a,xs,by rw[e],.inl q,λp hp t'=>h _ _ t' (Ro.fresh hp t' rfl rfl S (gD r))⟩
    . rename_i ds d1
      obtain⟨a,xs,e,q,r⟩:=hx.tup d1
      exact⟨a,xs,by rw[e],.inr q,λp hp t'=>h _ _ t' (Ro.fresh hp t' rfl rfl S (gD r))⟩
    . exact h.elim
   | tuple=>
    dsimp only[yG] at h
    split at h
    . rename_i ds d1
      obtain⟨a,xs,e,q,_,r⟩:=hx.lst d1
      exact⟨a,xs,by rw[e],.inl ⟨q,λp hp t'=>h _ _ t' (Ro.tup hp rfl rfl (gD r))⟩⟩
    . rename_i ds d1
      obtain⟨a,xs,e,q,r⟩:=hx.tup d1
      exact⟨a,xs,by rw[e],.inr ⟨q,λt'=>h _ _ t' (Ro.plain (aU.refl H) rfl ⟨a,xs,rfl,q,r⟩)⟩⟩
    . exact h.elim
   | abs=>cases hb
   | int=>
    dsimp only[yG] at h
    split at h
    . rename_i i d1
      exact .inl ⟨i,by rw[hx.int d1],λt'=>Wn.val h t' λ_=>rfl⟩
    . rename_i k d1
      exact .inr ⟨k,by rw[hx.bl d1],λt'=>Wn.val h t' λ_=>rfl⟩
    . exact h.elim
   | str=>cases hb
   | all=>
    dsimp only[yG] at h
    split at h
    . rename_i ds d1
      obtain⟨a,xs,e,q,_,r⟩:=hx.lst d1
      split at h
      . rename_i bs hbs
        rw[iF hbs r] at q
        exact⟨a,bs,by rw[e],q,λt'=>Wn.val h t' λ_=>rfl⟩
      . exact h.elim
    . exact h.elim
   | repr=>cases hb
   | bool=>cases hb
   | sum=>cases hb
   | any=>
    dsimp only[yG] at h
    split at h
    . rename_i ds d1
      obtain⟨a,xs,e,q,_,r⟩:=hx.lst d1
      split at h
      . rename_i bs hbs
        rw[iF hbs r] at q
        exact⟨a,bs,by rw[e],q,λt'=>Wn.val h t' λ_=>rfl⟩
      . exact h.elim
    . exact h.elim
   | sorted=>cases hb
   | min=>exact h.elim
   | max=>exact h.elim
 . rename_i x y
   obtain⟨u,r,e,hx,u',r',e',hy,hr⟩:=hv
   rw[show r'=[] from hr] at e'
   subst e' e
   cases b with
   | min=>
    dsimp only[aJz] at h
    split at h
    . rename_i i j d1 d2
      exact⟨i,j,by rw[hx.int d1,hy.int d2],λt'=>Wn.val h t' λ_=>rfl⟩
    . exact h.elim
   | max=>cases hb
   | _=>exact h.elim
 . exact h.elim
def vO:Cl->Option Value
 | .tInt=>some (.type "int")|.tBool=>some (.type "bool")|.tStr=>some (.type "str")|.tList=>some (.type "list")|.tTuple=>some (.type "tuple")|.tDict=>some (.type "dict")
 | _=>none
def tyD:D->Option String
 | .non=>some "NoneType" | .bl _=>some "bool" | .int _=>some "int" | .str _=>some "str" | .tup _=>some "tuple" | .lst _=>some "list" | .dic _=>some "dict" | .err _ _=>none
theorem iG(K:Fg)(P:Pg){c:Cl}{cv:Value}{d:D}{k:Bool}{T:String}(hc:vO c=some cv)(hT:tyD d=some T)(h:isI [c] P d=some k):PySem.W.kitOne K (.type T) cv=some k:=by
 cases c with
 | own c=>cases hc
 | tValueError=>cases hc
 | tInt=>cases hc;cases d <;> cases hT <;> simp[isI] at h <;> subst h <;> kernel_rfl
 | tBool=>cases hc;cases d <;> cases hT <;> simp[isI] at h <;> subst h <;> kernel_rfl
 | tStr=>cases hc;cases d <;> cases hT <;> simp[isI] at h <;> subst h <;> kernel_rfl
 | tList=>cases hc;cases d <;> cases hT <;> simp[isI] at h <;> subst h <;> kernel_rfl
 | tTuple=>cases hc;cases d <;> cases hT <;> simp[isI] at h <;> subst h <;> kernel_rfl
 | tDict=>cases hc;cases d <;> cases hT <;> simp[isI] at h <;> subst h <;> kernel_rfl
theorem aBk(P:Pg){c:Cl}{cv:Value}{k:Bool}(I:L2.Inv X pins σV H s)(rx:bQ ux vx)(hx:Rv X.K RT Y old σ σV H x ux)(hc:vO c=some cv)(h:isI [c] P x.d=some k)(q:Q (.bl k) H) :
 wpAny (model X.prog X.w) X.A (PySem.call (.builtin "isinstance") [vx,cv]) (EP X pins σV Q) X.xe s:=by
 have fin:∀tk,EP X pins σV Q (.bool k) { s with toks:=tk }:=λtk=>⟨.bl k,H,I.tok tk,rfl,q⟩
 cases d:x.d with
 | non=>
  have e:=iG X.K P hc (by rw[d];rfl) h
  rw[hx.non d] at rx;cases rx
  exact PySem.W.kia_one PySem.W.kitx_none I.kIn True.intro e (λz=>nomatch z) fin
 | bl b=>
  have e:=iG X.K P hc (by rw[d];rfl) h
  rw[hx.bl d] at rx;cases rx
  exact PySem.W.kia_one PySem.W.kitx_bool I.kIn True.intro e (λz=>nomatch z) fin
 | int i=>
  have e:=iG X.K P hc (by rw[d];rfl) h
  rw[hx.int d] at rx;obtain⟨t,rfl⟩:=rx
  exact PySem.W.kia_one PySem.W.kitx_int I.kIn True.intro e (λz=>nomatch z) fin
 | str z=>
  have e:=iG X.K P hc (by rw[d];rfl) h
  rw[hx.str d] at rx;obtain⟨t,rfl⟩:=rx
  exact PySem.W.kia_one PySem.W.kitx_str I.kIn True.intro e (λz=>nomatch z) fin
 | tup ds=>
  have e:=iG X.K P hc (by rw[d];rfl) h
  obtain⟨a,xs,e1,p,_⟩:=hx.tup d
  subst e1
  cases rx
  obtain⟨its,_,t,_⟩:=I.tuple p
  obtain⟨o,h1,h2,_⟩:=t
  exact PySem.W.kia_one PySem.W.kitx_tuple I.kIn ⟨o,h1,h2⟩ e (λz=>nomatch z) fin
 | lst ds=>
  have e:=iG X.K P hc (by rw[d];rfl) h
  obtain⟨a,xs,e1,p,_⟩:=hx.lst d
  subst e1
  cases rx
  obtain⟨its,_,t,_⟩:=I.list p
  obtain⟨o,n,h1,h2,_⟩:=t
  exact PySem.W.kia_one PySem.W.kitx_list I.kIn ⟨o,h1,h2⟩ e (λz=>nomatch z) fin
 | dic kvs=>
  have e:=iG X.K P hc (by rw[d];rfl) h
  unfold Rv at hx
  rw[d] at hx
  obtain⟨a,ks,e1,p,_⟩:=hx
  subst e1
  cases rx
  obtain⟨_,_,vs,_,o,es,ep,h1,h2,_⟩:=(show fC X.prog X.w H s.heap a (.dK ks) from I.hok a _ p)
  exact PySem.W.kia_one PySem.W.kitx_dict I.kIn ⟨o,h1,h2.1⟩ e (λz=>nomatch z) fin
 | err _ _=>
  unfold Rv at hx
  rw[d] at hx
  exact hx.elim
end
end Hp
end
noncomputable section
namespace L2
open PySem PySem.Spec PyProof.Rows
def kA(cells:List (Str×Addr)):List (Str×NameKind)->List (Str×Addr)->List (Str×Addr)
 | [],acc=>acc
 | (n,k)::r,acc=>if k==.free then kA cells r ((n,(cells.lookup n).getD 0)::acc) else kA cells r acc
theorem clos_mem{cells:List (Str×Addr)}:∀{names:List (Str×NameKind)} {acc:List (Str×Addr)} {p:Str×Addr},p∈kA cells names acc->p∈acc\/((p.1,NameKind.free)∈names/\p.2=(cells.lookup p.1).getD 0)
 | [],_,_,h=>.inl h
 | (n,k)::r,acc,p,h=>by
  unfold kA at h
  by_cases hk:(k==NameKind.free)=true
  . rw[if_pos hk] at h
    rcases clos_mem h with q|q
    . rcases List.mem_cons.mp q with q|q
      . subst q
        have:k=.free:=eq_of_beq hk
        subst this
        exact .inr ⟨List.mem_cons_self,rfl⟩
      . exact .inl q
    . exact .inr ⟨List.mem_cons_of_mem _ q.1,q.2⟩
  . rw[if_neg hk] at h
    rcases clos_mem h with q|q
    . exact .inl q
    . exact .inr ⟨List.mem_cons_of_mem _ q.1,q.2⟩
theorem pF{cells:List (Str×Addr)}:∀{names:List (Str×NameKind)} {acc:List (Str×Addr)} {p:Str×Addr},p∈acc->p∈kA cells names acc
 | [],_,_,h=>h
 | (n,k)::r,acc,p,h=>by
  unfold kA
  by_cases hk:(k==NameKind.free)=true
  . rw[if_pos hk];exact pF (List.mem_cons_of_mem _ h)
  . rw[if_neg hk];exact pF h
theorem lG{cells:List (Str×Addr)}:∀{names:List (Str×NameKind)} {acc:List (Str×Addr)} {n:Str},(n,NameKind.free)∈names->(n,(cells.lookup n).getD 0)∈kA cells names acc
 | [],_,_,h=>by simp at h
 | (m,k)::r,acc,n,h=>by
  unfold kA
  rcases List.mem_cons.mp h with q|q
  . cases q
    rw[if_pos (by rfl:(NameKind.free==NameKind.free)=true)]
    exact pF List.mem_cons_self
  . by_cases hk:(k==NameKind.free)=true
    . rw[if_pos hk];exact lG q
    . rw[if_neg hk];exact lG q
theorem fG{α:Type}:∀{l:List (Str×α)} {x:Str} {a:α},(x,a)∈l->∃b,l.lookup x=some b
 | (y,b)::r,x,a,h=>by
  rw[List.lookup_cons]
  cases hx:x==y with
  | true=>exact⟨b,rfl⟩
  | false=>
   rcases List.mem_cons.mp h with q|q
   . cases q
     simp at hx
   . exact fG q
theorem cX{cells:List (Str×Addr)}{names:List (Str×NameKind)}(hh:∀n,(n,NameKind.free)∈names->∃c,cells.lookup n=some c){x:Str}{c:Addr}(h:(kA cells names []).lookup x=some c):cells.lookup x=some c:=by
 rcases clos_mem (PySem.mem_of_lookup h) with q|⟨q1,q2⟩
 . simp at q
 . obtain⟨c',e⟩:=hh x q1
   simp only at q2
   rw[e] at q2
   rw[e,q2];rfl
theorem iQ{scope:Scope}{env:Env}(hh:∀n,(n,NameKind.free)∈scope.names->∃c,env.cells.lookup n=some c):closureFor scope env=pure (kA env.cells scope.names []):=by
 have go:∀(l:List (Str×NameKind)) (acc:List (Str×Addr)),(∀n,(n,NameKind.free)∈l->∃c,env.cells.lookup n=some c) ->
  (forIn l acc (λ(x:Str×NameKind) (r:List (Str×Addr))=>(match x with|(name,kind)=>if (kind==NameKind.free)=true then do let __do_lift<-cellOf env name;pure (ForInStep.yield ((name,__do_lift)::r)) else pure (ForInStep.yield r):Sem (ForInStep (List (Str×Addr))))))=(pure (kA env.cells l acc):Sem (List (Str×Addr))):=by
  intro l
  induction l with
  | nil=>intro acc _;rfl
  | cons p r ih=>
   intro acc hl
   obtain⟨n,k⟩:=p
   rw[List.forIn_cons]
   unfold kA
   by_cases hk:(k==NameKind.free)=true
   . have:k=.free:=eq_of_beq hk
     subst this
     obtain⟨c,e⟩:=hl n List.mem_cons_self
     have e':cellOf env n=pure c:=by unfold cellOf;rw[e]
     simp only[beq_self_eq_true,if_true,e']
     rw[e]
     exact ih _ λm hm=>hl m (List.mem_cons_of_mem _ hm)
   . simp only[hk,if_false]
     exact ih _ λm hm=>hl m (List.mem_cons_of_mem _ hm)
 unfold closureFor
 exact(bind_pure _).trans (go scope.names [] hh)
section
variable {prog:Program} {w:World} {A:Around} {R:Result->Shared->Prop} {s:Shared}
theorem iY{elt target iter:Expr}{ifs:List Expr}{scope:Scope}{pos:Pos}{it acc:Value}{env:Env}(I:Nat->Shared->Prop)
 (turn:∀n s,I n s->wpAny (model prog w) A (pyNext it) (λr s₁=>match r with
  | none=>R (.ok .next) s₁
  | some v=>wpAny (model prog w) A (letOwnedTupleGo target it v) (λ_ s₁'=>wpAny (model prog w) A (assign target env v) (λ_ s₂=>
   wpAny (model prog w) A (forIn ifs true λc r=>if r=true then do let ok<-isTrue c env (eval c env);pure (ForInStep.yield ok) else pure (ForInStep.yield r)) (λok s₃=>
    if ok=true then wpAny (model prog w) A (eval elt env) (λx s₄=>
     wpAny (model prog w) A (call (.builtin "list.append") [acc,x]) (λ_ s₅=>∃m,m<n/\I m s₅) (λ_ _=>False) s₄) (λ_ _=>False) s₃
    else ∃m,m<n/\I m s₃) (λ_ _=>False) s₂) (λ_ _=>False) s₁') (λ_ _=>False) s₁) (λ_ _=>False) s)
 (n:Nat) (h:I n s) :
 codeAny (model prog w) A (.compLoop (.ListComp elt [⟨target,iter,ifs,0⟩] scope pos) 0 it acc env) R s:=by
 refine codeAny_loop rfl I (λn s hI=>?_) n h
 show wpAny _ A ((compTurn (.ListComp elt [⟨target,iter,ifs,0⟩] scope pos) 0 it acc env).onRaise (λx=>do noteFrame x env;theTreesLotGoes x)) _ _ s
 refine wpAny_noted ?_
 rw[compTurn_list]
 refine wpAny_bind (wpAny_standAt (wpAny_bind (wpAny_mono (turn n s hI) (λr s₁ h₁=>?_) λ_ _ h'=>h'.elim)))
 cases r with
 | none=>exact wpAny_pure h₁
 | some v=>
  refine wpAny_bind (wpAny_mono h₁ (λ_ s₁' h₁'=>?_) λ_ _ h'=>h'.elim)
  refine wpAny_bind (wpAny_mono h₁' (λ_ s₂ h₂=>wpAny_bind (wpAny_mono h₂ (λok s₃ h₃=>?_) λ_ _ h'=>h'.elim)) λ_ _ h'=>h'.elim)
  cases ok with
  | false=>exact wpAny_pure ⟨rfl,h₃⟩
  | true=>
   exact wpAny_bind (wpAny_bind (wpAny_mono h₃ (λx s₄ h₄=>wpAny_bind (wpAny_mono h₄ (λ_ s₅ h₅=>wpAny_pure (wpAny_pure ⟨rfl,h₅⟩)) λ_ _ h'=>h'.elim)) λ_ _ h'=>h'.elim))
end
def eL(X:Cx)(scope:Scope)(N':List Str)(C:Addr)(s₀:Shared)(H₀:Hp)(ex:List Addr):Cx:=
 { X with env:=compEnvC scope (kA X.env.cells scope.names []) C X.env,N:=N',s₀:=s₀,H₀:=H₀,outer:=X.stack,ex:=ex,fn:=λ_=>false,pn:=[],xe:=λ_ _=>False }
def PTs(X:Cx)(ifs:List Expr)(t:TT):Prop:=
 ∀(pins:List (Addr×Obj)) (s:Shared) (σ:St) (H:Hp) (Q:Bool->Hp->Prop),Inv X pins σ H s->t σ H Q ->
  wpAny (model X.prog X.w) X.A (forIn ifs true λc r=>if r=true then do let ok<-isTrue c X.env (eval c X.env);pure (ForInStep.yield ok) else pure (ForInStep.yield r)) (TP X pins σ Q) X.xe s
theorem aEX{X:Cx}:PTs X [] (λ_ H Q=>Q true H):=λpins s σ H Q I h=>wpAny_pure ⟨H,I,h⟩
theorem aEY{X:Cx}{c:Expr}{t:TT}(h:PT X c t):PTs X [c] t:=λpins s σ H Q I hw=>wpAny_tests_one (h pins s σ H Q I hw)
structure dP (X:Cx) (scope:Scope) (k:Nat) (caps:List Nat) (N':List Str):Prop where
 kind:scope.kind=.function
 nocell:∀y∈scope.names,y.2≠.cell
 loc:∀y∈scope.names,y.2=.local->scope.names.lookup y.1=some .local
 free:∀n,(n,NameKind.free)∈scope.names->X.env.kindOf n=some .cell\/X.env.kindOf n=some .free
 len:N'.length=k+caps.length
 cap:∀j i,caps[j]? = some i->∃x,N'[k+j]? = some x/\X.N[i]? = some x/\scope.names.lookup x=some .free/\X.env.kindOf x=some .cell
 ndp:X.N.Nodup
def kN(k:Nat)(caps:List Nat)(σ:St):St:=List.replicate k none++caps.map λi=>(σ[i]?).getD none
def aCI(k:Nat)(caps:List Nat)(wi:TI)(g:TG)(tt:TT)(te:TE):TE:=λσ H Q=>wi σ H λJ H1=>
 ∃W:Nat->Nat->List V->St->Hp->Prop,(∃m,W 0 m [] (kN k caps σ) H1)/\∀i m ys σ1 H,W i m ys σ1 H ->
  (J.stop i H/\ys.length<=sizeLine/\∀p,H p=none->Q (.ref p) (upd H p (.lst ys))) \/
  (J.go i H/\ys.length<sizeLine/\∀x H',J.yld i H x H'->g x σ1 H' λσ2 H2=>tt σ2 H2 λb H3=>
   if b=true then te σ2 H3 λy H4=>∃m',m'<m/\W (i+1) m' (ys++[y]) σ2 H4 else ∃m',m'<m/\W (i+1) m' ys σ2 H3)
theorem HOk.track{P:Program}{w:World}{H:Hp}{h:Heap}{a:Addr}{o:HO}(ok:HOk P w H h)(n:H a=none)(new:fC P w (upd H a o) h a o):HOk P w (upd H a o) h:=λb u e=>by
 by_cases hb:b=a
 . subst hb;rw[cU] at e;cases e;exact new
 . rw[aV hb] at e
   exact(ok b u e).stay (λ_ _ _ q=>q) (λc q=>by rw[aV (bP q n)];exact q) λc xs q=>by rw[aV (bP q n)];exact q
abbrev eH(its:List Value)(n:Nat):Obj:={ cls:=.type "list",data:=.seq its.toArray n }
section
variable {X:Cx} {scope:Scope} {k:Nat} {caps:List Nat} {N':List Str} {pins:List (Addr×Obj)} {σ:St} {H:Hp} {s:Shared} {fp:List Addr}
theorem Inv.cellLt(I:Inv X pins σ H s){x:Str}{c:Addr}(e:X.env.cells.lookup x=some c):c<s.heap.objs.size:=by
 obtain⟨v,q⟩:=I.cell x c e
 exact q.lt
theorem gE:∀{l:List (Str×NameKind)} {x:Str} {k:NameKind},l.lookup x=some k->(x,k)∈l:=λh=>PySem.mem_of_lookup h
theorem relabel_lookup{env:Env}:∀{names:List (Str×NameKind)} {x:Str} {k:NameKind},
 (names.map λ(n,k)=>if (k==NameKind.free&&env.scope.kind==.function&&env.kindOf n==some .cell) then (n,NameKind.cell) else (n,k)).lookup x=some k ->
 (k=.cell/\names.lookup x=some .free/\env.kindOf x=some .cell)\/names.lookup x=some k
 | [],_,_,h=>by simp at h
 | (n,k')::r,x,k,h=>by
  have ih:=@relabel_lookup env r x k
  rw[mC] at h
  by_cases hc:(k'==NameKind.free&&env.scope.kind==.function&&env.kindOf n==some .cell)=true
  . simp only[hc,if_true,List.lookup_cons] at h ⊢
    cases hx:x==n with
    | true=>
     rw[hx] at h
     simp only at h ⊢
     simp only[bA] at hc
     have e1:k'=.free:=eq_of_beq hc.1.1
     have e2:env.kindOf n=some .cell:=eq_of_beq hc.2
     have e3:x=n:=eq_of_beq hx
     subst e3
     cases h
     exact .inl ⟨rfl,by rw[e1],e2⟩
    | false=>rw[hx] at h;exact ih h
  . simp only[Bool.not_eq_true] at hc
    simp only[hc,if_false,List.lookup_cons,bF] at h ⊢
    cases hx:x==n with
    | true=>rw[hx] at h;exact .inr h
    | false=>rw[hx] at h;exact ih h
theorem aMi(CS:dP X scope k caps N')(I:Inv X pins σ H s)(f:∀b∈fp,kZ X pins H b)(hf:∀b∈fp,b<s.heap.objs.size) :
 (eL X scope N' (s.heap.objs.size+1) { s with heap:=s.heap.push (eH [] 0) } H (s.heap.objs.size::fp)).Ok:=by
 have hh:∀n,(n,NameKind.free)∈scope.names->∃c,X.env.cells.lookup n=some c:=λn hn=>I.ok.has n (CS.free n hn)
 have ge:∀b o,s.heap.get? b=some o->(s.heap.push (eH [] 0)).get? b=some o:=λb o e=>Heap.get?_push_of_some _ e
 have fsub:∀b∈frs X.stack,∃o,s.heap.get? b=some o:=λb hb=>by
  obtain⟨_,o,ho,_⟩:=I.stack.mem hb
  exact⟨o,ho⟩
 refine⟨I.ok.mod,?_,I.ok.glob,I.ok.blt,?_,λx y c h1 h2=>?_,λx hx=>?_,λx c h _=>?_,I.ok.hd,I.ok.frames,.inl rfl,λb hb=>?_,λb o e=>?_,?_,λb o e hb=>?_,λb hb=>?_,?_,I.stkFree⟩
 . exact CS.kind
 . show(s.heap.push (eH [] 0)).objs.size<=s.heap.objs.size+1
   rw[Heap.size_push]
   exact Nat.le_refl _
 . exact I.ok.inj x y c (cX hh h1) (cX hh h2)
 . have fr:(x,NameKind.free)∈scope.names:=by
    rcases hx with q|q
    . rcases relabel_lookup q with⟨_,z,_⟩|z
      . exact gE z
      . exact absurd rfl (CS.nocell _ (gE z))
    . rcases relabel_lookup q with⟨z,_⟩|z
      . cases z
      . exact gE z
   obtain⟨c,e⟩:=fG (lG (cells:=X.env.cells) (acc:=[]) fr)
   exact⟨c,e⟩
 . cases(show false=true from h)
 . refine⟨?_,λx c e=>?_⟩
   . show b≠s.heap.objs.size+1
     rcases List.mem_cons.mp hb with z|z
     . rw[z];exact Nat.ne_of_lt (Nat.lt_succ_self _)
     . exact Nat.ne_of_lt (Nat.lt_succ_of_lt (hf b z))
   . have e':=cX hh e
     rcases List.mem_cons.mp hb with z|z
     . rw[z];exact Nat.ne_of_lt (I.cellLt e')
     . exact(f b z).2.2.2.2.1 x c e'
 . exact⟨ge b o (I.bs b o e).1,(I.bs b o e).2⟩
 . show X.base.objs.size<=(s.heap.push (eH [] 0)).objs.size
   rw[Heap.size_push]
   exact Nat.le_succ_of_le (Nat.le_trans I.ok.bsz I.sz)
 . have lt:=Heap.lt_size e
   rcases List.mem_cons.mp hb with z|z
   . subst z
     exact absurd (Nat.lt_of_lt_of_le lt (Nat.le_trans I.ok.bsz I.sz)) (Nat.lt_irrefl _)
   . rcases(f b z).2.2.2.1 with q|q
     . exact I.ok.noex b o e q
     . exact absurd (Nat.lt_of_lt_of_le lt (Nat.le_trans I.ok.bsz q)) (Nat.lt_irrefl _)
 . show b∉frs X.stack
   intro hs
   rcases List.mem_cons.mp hb with z|z
   . subst z
     obtain⟨o,e⟩:=fsub _ hs
     exact absurd (Heap.lt_size e) (Nat.lt_irrefl _)
   . rcases List.mem_cons.mp (I.stkSub b hs) with q|q
     . exact(f b z).2.1 q
     . exact(f b z).2.2.1 q
 . exact I.stack.of_keeps λb o e _=>⟨o,ge b o e,rfl⟩
theorem aCJ(CS:dP X scope k caps N'){j:Nat}{v:V}(h:(kN k caps σ)[j]? = some (some v)):∃j' i,j=k+j'/\caps[j']? = some i/\σ[i]? = some (some v):=by
 unfold kN at h
 by_cases hj:j<k
 . rw[List.getElem?_append_left (by simpa using hj),List.getElem?_replicate] at h
   split at h <;> cases h
 . rw[List.getElem?_append_right (by simpa using hj),List.length_replicate,List.getElem?_map] at h
   cases e:caps[j-k]? with
   | none=>rw[e] at h;cases h
   | some i=>
    rw[e] at h
    have h':(σ[i]?).getD none=some v:=Option.some.inj h
    refine⟨j-k,i,by omega,e,?_⟩
    cases q:σ[i]? with
    | none=>rw[q] at h';cases h'
    | some z=>rw[q] at h';exact congrArg some h'
theorem aJM(CS:dP X scope k caps N')(I:Inv X pins σ H s)(f:∀b∈fp,kZ X pins H b)(hf:∀b∈fp,b<s.heap.objs.size){h₁:Heap}{tk:Nat}
 (hns:h₁.Ns (s.heap.objs.size+1) λ_=>none) (hk:∀b o,(s.heap.push (eH [] 0)).get? b=some o->h₁.get? b=some o) :
 Inv (eL X scope N' (s.heap.objs.size+1) { s with heap:=s.heap.push (eH [] 0) } H (s.heap.objs.size::fp)) [] (kN k caps σ) H { s with heap:=h₁,toks:=tk }:=by
 have hh:∀n,(n,NameKind.free)∈scope.names->∃c,X.env.cells.lookup n=some c:=λn hn=>I.ok.has n (CS.free n hn)
 have ge:∀b o,s.heap.get? b=some o->h₁.get? b=some o:=λb o e=>hk b o (Heap.get?_push_of_some _ e)
 have cellK:∀{c:Addr} {v:Option Value},s.heap.IsCell c v->h₁.IsCell c v:=λ{c v} ⟨o,e,d⟩=>⟨o,ge _ _ e,d⟩
 refine⟨aMi CS I f hf,rfl,I.bare,Un.kept hk,⟨_,hns,λj x v e1 e2 e3=>?_⟩,λx c e=>?_,?_,λx c e=>?_,λp hp=>absurd (show p∈([]:List (Addr×Obj)) from hp) (by simp),I.hok.kept ge,?_⟩
 . obtain⟨j',i,ej,ec,es⟩:=aCJ CS e2
   obtain⟨y,h1,h2,h3,h4⟩:=CS.cap j' i ec
   have e1':N'[j]? = some x:=e1
   rw[ej,h1] at e1'
   have ey:y=x:=Option.some.inj e1'
   subst ey
   obtain⟨m,hn,hl⟩:=I.loc
   obtain⟨u,ru,lk⟩:=hl i y v h2 es (.inr (.inl h4))
   rcases lk with⟨k1,_⟩|⟨_,c,ec',hc⟩
   . rw[h4] at k1;cases k1
   . refine⟨u,ru,.inr ⟨?_,c,?_,cellK hc⟩⟩
     . have e3':Vis (relabel scope X.env) y:=e3
       rcases e3' with z|z|z
       . rcases relabel_lookup z with⟨z,_⟩|z
         . cases z
         . rw[h3] at z;cases z
       . exact .inl z
       . exact .inr z
     . obtain⟨c',e⟩:=fG (lG (cells:=X.env.cells) (acc:=[]) (gE h3))
       have e':=cX hh e
       rw[ec'] at e'
       cases e'
       exact e
 . obtain⟨v,q⟩:=I.cell x c (cX hh e)
   exact⟨v,cellK q⟩
 . exact I.hok.fresh (Nat.le_succ _)
 . exact I.freeC x c (cX hh e)
 . show(kN k caps σ).length=N'.length
   unfold kN
   rw[lA,List.length_replicate,lM,CS.len]
theorem vP{tg iter elt:Expr}{ifs:List Expr}{pos:Pos}{g:TG}{tt:TT}{te:TE}{it:Addr}{tn:Nat->Heap->Prop}{J:It}{RR:Value->Addr->Result->Shared->Prop}{E:Value->Shared->Prop}{Q:VK}
 (CS:dP X scope k caps N') (hc:X.calm=true) (I:Inv X pins σ H s) (T:vB X.prog X.w X.K tg J fp it tn) (st:tn 0 s.heap) (f:∀b∈fp,kZ X pins H b)
 (hch:∀C s₀ H₀ ex,PG (eL X scope N' C s₀ H₀ ex) tg g/\PTs (eL X scope N' C s₀ H₀ ex) ifs tt/\PE (eL X scope N' C s₀ H₀ ex) elt te)
 (hw:∃W:Nat->Nat->List V->St->Hp->Prop,(∃m,W 0 m [] (kN k caps σ) H)/\∀i m ys σ1 H,W i m ys σ1 H ->
  (J.stop i H/\ys.length<=sizeLine/\∀p,H p=none->Q (.ref p) (upd H p (.lst ys))) \/
  (J.go i H/\ys.length<sizeLine/\∀x H',J.yld i H x H'->g x σ1 H' λσ2 H2=>tt σ2 H2 λb H3=>
   if b=true then te σ2 H3 λy H4=>∃m',m'<m/\W (i+1) m' (ys++[y]) σ2 H4 else ∃m',m'<m/\W (i+1) m' ys σ2 H3))
 (hR:∀D C s' H' m,Inv X pins σ H' s'->s'.heap.Ns C m->s.heap.objs.size<C->(∀(σ':St) (s'':Shared) (h':Heap),Inv X pins σ' H' s''->Heap.SameBut C s''.heap h'->Inv X pins σ' H' { s'' with heap:=h' })->Q (.ref D) H'->RR (.ref D) C (.ok .next) s') :
 wpAny (model X.prog X.w) X.A (newList []) (λacc s₃=>wpAny (model X.prog X.w) X.A (newFunctionEnv scope X.env.globals (kA X.env.cells scope.names []) [] X.env.qual none .none (some X.env)) (λcenv s₄=>
  codeAny (model X.prog X.w) X.A (.compStart (.ListComp elt [⟨tg,iter,ifs,0⟩] scope pos) 0 (.ref it) acc { cenv with scope:=relabel scope X.env }) (RR acc cenv.locals) s₄) E s₃) E s:=by
 obtain⟨W,⟨m0,w0⟩,turn⟩:=hw
 have hf:∀b∈fp,b<s.heap.objs.size:=λb hb=>by
  obtain⟨o,e,_⟩:=T.obj 0 _ st b hb
  exact Heap.lt_size e
 refine wpAny_newObj_type (wpAny_newFunctionEnv CS.nocell (by intro y hy;simp at hy) (λh₁ hns₁ hsb₁=>?_) CS.kind)
 have hsz:(s.heap.push (eH [] 0)).objs.size=s.heap.objs.size+1:=Heap.size_push _ _
 have hns:h₁.Ns (s.heap.objs.size+1) λ_=>none:=by
  have:=hns₁
  rw[show({ s with heap:=s.heap.push (eH [] 0) }:Shared).heap.objs.size=s.heap.objs.size+1 from hsz] at this
  exact this
 have hk:∀b o,(s.heap.push (eH [] 0)).get? b=some o->h₁.get? b=some o:=λb o e=>
  hsb₁.extBut b o (Nat.ne_of_lt (by have:=Heap.lt_size e;rw[hsz] at this;show b<(s.heap.push (eH [] 0)).objs.size;rw[hsz];exact this)) (Heap.get?_push_of_some _ e)
 have I0:=aJM (N':=N') CS I f hf (tk:=s.toks+([]:List (Str×Value)).length) hns hk
 have noC:∀{b:Addr},b<s.heap.objs.size->b≠s.heap.objs.size+1:=λ{b} hb=>Nat.ne_of_lt (Nat.lt_succ_of_lt hb)
 have hDn:H s.heap.objs.size=none:=I.fresh
 have hh:∀n,(n,NameKind.free)∈scope.names->∃c,X.env.cells.lookup n=some c:=λn hn=>I.ok.has n (CS.free n hn)
 have hD1:h₁.get? s.heap.objs.size=some (eH [] 0):=hk _ _ (Heap.get?_push_size _ rfl)
 have stFs:∀b∈frs X.stack,b<s.heap.objs.size:=λb hb=>by
  obtain⟨_,o,ho,_⟩:=I.stack.mem hb
  exact Heap.lt_size ho
 have fpc:∀(pl:List (Addr×Obj)),(∀p∈pl,p.1=s.heap.objs.size)->∀{H':Hp},(∀b∈fp,H' b=none)->∀b∈fp,kZ (eL X scope N' (s.heap.objs.size+1) { s with heap:=s.heap.push (eH [] 0) } H (s.heap.objs.size::fp)) pl H' b:=by
  intro pl hpl H' hn b hb
  refine⟨hn b hb,noC (hf b hb),λz=>?_,.inl (List.mem_cons_of_mem _ hb),λx c e=>(f b hb).2.2.2.2.1 x c (cX hh e),λp hp z=>?_⟩
  . rcases List.mem_cons.mp (I.stkSub b z) with q|q
    . exact(f b hb).2.1 q
    . exact(f b hb).2.2.1 q
  . have hp':p∈pl:=by simpa[eL] using hp
    rw[hpl p hp'] at z
    exact absurd (hf b hb) (by rw[<-z];exact Nat.lt_irrefl _)
 have pinD:∀{σ':St} {H':Hp} {s':Shared} {its:List Value} {n:Nat} {pl:List (Addr×Obj)},Inv (eL X scope N' (s.heap.objs.size+1) { s with heap:=s.heap.push (eH [] 0) } H (s.heap.objs.size::fp)) pl σ' H' s' ->
  s'.heap.get? s.heap.objs.size=some (eH its n)->H' s.heap.objs.size=none->Inv (eL X scope N' (s.heap.objs.size+1) { s with heap:=s.heap.push (eH [] 0) } H (s.heap.objs.size::fp)) [(s.heap.objs.size,eH its n)] σ' H' s':=by
  intro σ' H' s' its n pl J e nn
  refine J.pins_of λp hp=>?_
  have:p=(s.heap.objs.size,eH its n):=by simpa using hp
  subst this
  refine⟨e,nn,Nat.ne_of_lt (Nat.lt_succ_self _),λz=>absurd (stFs _ z) (Nat.lt_irrefl _),λv z=>by cases z⟩
 have start:codeAny (model X.prog X.w) X.A (.compLoop (.ListComp elt [⟨tg,iter,ifs,0⟩] scope pos) 0 (.ref it) (.ref s.heap.objs.size) (compEnvC scope (kA X.env.cells scope.names []) (s.heap.objs.size+1) X.env))
  (RR (.ref s.heap.objs.size) (s.heap.objs.size+1)) { s with heap:=h₁,toks:=s.toks+([]:List (Str×Value)).length }:=by
  refine iY (λn s'=>∃i ys its cnt σ1 H',Inv (eL X scope N' (s.heap.objs.size+1) { s with heap:=s.heap.push (eH [] 0) } H (s.heap.objs.size::fp)) [(s.heap.objs.size,eH its cnt)] σ1 H' s' /\
   tn i s'.heap/\(∀b∈fp,H' b=none)/\bC ys its/\W i n ys σ1 H') ?_ m0 ⟨0,[],[],0,_,H,pinD I0 hD1 hDn,T.keep _ _ _ st λb _ o e=>hk b o (Heap.get?_push_of_some _ e),λb hb=>(f b hb).1,.nil,w0⟩
  rintro n s3 ⟨i,ys,its,cnt,σ1,H3,I3,st3,fr3,rv3,w3⟩
  obtain⟨hD3,nD3,_⟩:=I3.pin (s.heap.objs.size,eH its cnt) (by simp[eL])
  have pl1:∀p∈[(s.heap.objs.size,eH its cnt)],p.1=s.heap.objs.size:=λp hp=>by
   have:p=(s.heap.objs.size,eH its cnt):=by simpa using hp
   rw[this]
  rcases turn i n ys σ1 H3 w3 with⟨stop,hz,qn⟩|⟨go,hz,step⟩
  . refine thn (T.done (eL X scope N' (s.heap.objs.size+1) { s with heap:=s.heap.push (eH [] 0) } H (s.heap.objs.size::fp)) rfl rfl rfl hc i _ s3 _ H3 _ I3 (fpc _ pl1 fr3) st3 stop) λr s4 ⟨hr,I4⟩=>?_
    subst hr
    obtain⟨hD4,nD4,_⟩:=I4.pin (s.heap.objs.size,eH its cnt) (by simp[eL])
    have u4:=I4.base
    have nb:∀{b:Addr} {o:Obj},s.heap.get? b=some o->b∉fp->b∉s.heap.objs.size::fp:=λ{b o} e hb z=>by
     rcases List.mem_cons.mp z with z|z
     . exact absurd (Heap.lt_size e) (by rw[z];exact Nat.lt_irrefl _)
     . exact hb z
    have neD:∀{b:Addr} {o:Obj},s.heap.get? b=some o->b≠s.heap.objs.size:=λ{b o} e=>Nat.ne_of_lt (Heap.lt_size e)
    have trD:∀{b:Addr} {o:HO},H b=some o->b≠s.heap.objs.size:=λ{b o} e=>bP e hDn
    have u:Un (frs X.stack) fp H (upd H3 s.heap.objs.size (.lst ys)) s.heap s4.heap:={
     keep:=λb o e nn hb hx=>u4.keep b o (Heap.get?_push_of_some _ e) nn hb (nb e hx)
     slot:=λb o e nn hb hx=>u4.slot b o (Heap.get?_push_of_some _ e) nn hb (nb e hx)
     free:=λb o e nn hx=>by rw[aV (neD e)];exact u4.free b o (Heap.get?_push_of_some _ e) nn (nb e hx)
     there:=λb o e hx=>u4.there b o (Heap.get?_push_of_some _ e) (nb e hx)
     tups:=λb xs e=>by rw[aV (trD e)];exact u4.tups b xs e
     frzs:=λb o u e=>by rw[aV (trD e)];exact u4.frzs b o u e
     tbls:=λb ps e=>by rw[aV (trD e)];exact u4.tbls b ps e }
    have hl:=rv3.length
    have hok:HOk X.prog X.w (upd H3 s.heap.objs.size (.lst ys)) s4.heap:=HOk.track I4.hok nD4 ⟨hz,its,cnt,rv3,hD4⟩
    have I5:Inv X pins σ (upd H3 s.heap.objs.size (.lst ys)) s4:=I.call' I4.os u hok I4.bare λb hb=>⟨(f b hb).2.2.2.1,(f b hb).2.1,(f b hb).2.2.2.2.1,(f b hb).2.2.2.2.2⟩
    obtain⟨m4,hn4,_⟩:=I4.loc
    refine hR s.heap.objs.size (s.heap.objs.size+1) s4 _ m4 I5 hn4 (Nat.lt_succ_self _) (λσ' s'' h' I6 hs'=>?_) (qn _ nD4)
    have:=I6.turned (t':=s''.toks) (h':=h') (it:=s.heap.objs.size+1) (λb o hb e=>hs'.extBut b o hb e) (by rw[aV (Nat.ne_of_gt (Nat.lt_succ_self _))];exact I4.free)
     (Nat.ne_of_gt (Nat.lt_succ_of_lt I.lt)) (.inr (Nat.le_succ_of_le I.sz)) (λx c e=>Nat.ne_of_lt (Nat.lt_succ_of_lt (I.cellLt e))) λp hp z=>?_
    . exact this
    . have:=Heap.lt_size (I.pin p hp).1
      rw[z] at this
      exact absurd this (Nat.not_lt.mpr (Nat.le_succ _))
  . refine thn (T.item (eL X scope N' (s.heap.objs.size+1) { s with heap:=s.heap.push (eH [] 0) } H (s.heap.objs.size::fp)) rfl rfl rfl hc i _ s3 _ H3 _ I3 (fpc _ pl1 fr3) st3 go) λr s4 ⟨u,hr,h4⟩=>?_
    subst hr
    refine thn h4 λ_ s5 ⟨x,H5,I5,r5,y5,st5,fr5⟩=>?_
    obtain⟨hg,ht,he⟩:=hch (s.heap.objs.size+1) { s with heap:=s.heap.push (eH [] 0) } H (s.heap.objs.size::fp)
    have I5':=I5.pinned (fpc _ pl1 fr5) (T.obj _ _ st5)
    have keep:∀{σ7:St} {H7:Hp} {s7:Shared},Inv (eL X scope N' (s.heap.objs.size+1) { s with heap:=s.heap.push (eH [] 0) } H (s.heap.objs.size::fp)) ([(s.heap.objs.size,eH its cnt)]++oT fp s5.heap) σ7 H7 s7 ->
     tn (i+1) s7.heap/\(∀b∈fp,H7 b=none)/\s7.heap.get? s.heap.objs.size=some (eH its cnt)/\H7 s.heap.objs.size=none:=by
     intro σ7 H7 s7 I7
     obtain⟨hD7,nD7,_⟩:=I7.pin (s.heap.objs.size,eH its cnt) (by simp[eL])
     refine⟨T.keep _ _ _ st5 λb hb o e=>(I7.pin (b,o) (List.mem_append_right _ (List.mem_append_right _ (iD hb e)))).1,λb hb=>?_,hD7,nD7⟩
     obtain⟨o,e,d⟩:=T.obj _ _ st5 b hb
     exact(I7.pin (b,o) (List.mem_append_right _ (List.mem_append_right _ (iD hb e)))).2.1
    refine thn (hg _ s5 _ H5 x u _ I5' r5 (step x H5 y5)) λ_ s6 ⟨σ6,H6,I6,q6⟩=>?_
    refine thn (ht _ s6 σ6 H6 _ I6 q6) λb s7 ⟨H7,I7,q7⟩=>?_
    cases b with
    | false=>
     rw[if_neg bN] at q7 ⊢
     obtain⟨m',hm,w7⟩:=q7
     obtain⟨t7,f7,d7,n7⟩:=keep I7
     exact⟨m',hm,i+1,ys,its,cnt,σ6,H7,pinD I7 d7 n7,t7,f7,rv3,w7⟩
    | true=>
     rw[if_pos rfl] at q7 ⊢
     refine thn (he _ s7 σ6 H7 _ I7 q7) λyv s8 ⟨y,H8,I8,r8,q8⟩=>?_
     obtain⟨m',hm,w8⟩:=q8
     obtain⟨t8,f8,d8,n8⟩:=keep I8
     have hl:=rv3.length
     have hzv:its.toArray.size<=sizeLine:=by rw[List.size_toArray];omega
     refine call_meets F.slot_list_append ⟨_,d8,rfl⟩ F.entry_list_append (F.args_list_append_2 _ _) (PySem.list_append s.heap.objs.size its.toArray cnt yv hzv) ⟨d8,?_⟩
     have q:=PySem.IsL.update d8 (λa=>a.push yv)
     have e':its.toArray.push yv=(its++[yv]).toArray:=by simp
     rw[e'] at q
     have I9:=(I8.unpinned (pins:=[(s.heap.objs.size,eH its cnt)])).pins_of (pins':=[]) (λp hp=>absurd hp (by simp))
     have I10:=I9.turned (t':=s8.toks) (it:=s.heap.objs.size) (h':=s8.heap.update s.heap.objs.size (Obj.mapSeq λa=>a.push yv)) (λb o hb e=>(Heap.get?_update_other s8.heap _ (Ne.symm hb)).trans e) n8
      (Nat.ne_of_lt (Nat.lt_succ_self _)) (.inl List.mem_cons_self) (λx c e=>Nat.ne_of_lt (I.cellLt (cX hh e))) (λp hp=>absurd (show p∈([]:List (Addr×Obj)) from by simpa[eL] using hp) (by simp))
     refine⟨m',hm,i+1,ys++[y],its++[yv],_,σ6,H8,pinD I10 q n8,?_,f8,rv3.append (.cons r8 .nil),w8⟩
     refine T.keep _ _ _ t8 λb hb o e=>(Heap.get?_update_other s8.heap _ ?_).trans e
     intro z
     exact absurd (hf b hb) (by rw[<-z];exact Nat.lt_irrefl _)
 have startC:∀C,C=s.heap.objs.size+1->codeAny (model X.prog X.w) X.A (.compLoop (.ListComp elt [⟨tg,iter,ifs,0⟩] scope pos) 0 (.ref it) (.ref s.heap.objs.size) (compEnvC scope (kA X.env.cells scope.names []) C X.env))
  (RR (.ref s.heap.objs.size) C) { s with heap:=h₁,toks:=s.toks+([]:List (Str×Value)).length }:=by
  rintro C rfl
  exact start
 exact codeAny_compStart_list (startC _ hsz) (T.self X.A 0 _ _ _ (T.keep _ _ _ st λb _ o e=>hk b o (Heap.get?_push_of_some _ e)) (startC _ hsz))
end
section
variable {X:Cx} {scope:Scope} {k:Nat} {caps:List Nat} {N':List Str} {tg iter elt:Expr} {ifs:List Expr} {pos:Pos} {wi:TI} {g:TG} {tt:TT} {te:TE}
theorem aAh(CS:dP X scope k caps N')(hc:X.calm=true)(hi:PI X tg iter wi)
 (hch:∀C s₀ H₀ ex,PG (eL X scope N' C s₀ H₀ ex) tg g/\PTs (eL X scope N' C s₀ H₀ ex) ifs tt/\PE (eL X scope N' C s₀ H₀ ex) elt te) (hs:∀x,foldedSetIterable iter X.env x=pure x) :
 PE X (.ListComp elt [⟨tg,iter,ifs,0⟩] scope pos) (aCI k caps wi g tt te):=by
 intro pins s σ H Q I h
 rw[eval_ListComp]
 refine wpAny_comprehension_free (use:=none) rfl hs (iQ λn hn=>I.ok.has n (CS.free n hn)) CS.kind CS.loc (thn (hi pins s σ H _ I h) λxv s1 h1=>thn h1 λitv s2 h2=>?_)
 obtain⟨it,fp,tn,J,H2,e,I2,T,st2,f2,hw⟩:=h2
 subst e
 exact vP (RR:=λacc C=>compPost (model X.prog X.w) X.A X.xe none (EP X pins σ Q) acc C) (Q:=Q) CS hc I2 T st2 f2 hch hw λD C s' H' m J hn _ hall q=>⟨m,hn,λh' hs'=>⟨.ref D,H',hall σ s' h' J hs',rfl,q⟩⟩
theorem yO{i:Nat}{x:Str}{pos' spos:Pos}(CS:dP X scope k caps N')(hc:X.calm=true)(hi:PI X tg iter wi)
 (hch:∀C s₀ H₀ ex,PG (eL X scope N' C s₀ H₀ ex) tg g/\PTs (eL X scope N' C s₀ H₀ ex) ifs tt/\PE (eL X scope N' C s₀ H₀ ex) elt te) (hs:∀x,foldedSetIterable iter X.env x=pure x)
 (hN:X.N.Nodup) (hx':X.N[i]? = some x) (hx:Loc X.env.scope x) (hf:X.fn x=true\/X.env.scope.names.lookup x=some .local) :
 PS X (.Assign [.Name x pos'] (.ListComp elt [⟨tg,iter,ifs,0⟩] scope pos) spos) (aGK (aCI k caps wi g tt te) (rG i)):=by
 have hb:∃b,swapsWith (.ListComp elt [⟨tg,iter,ifs,0⟩] scope pos) (some (.Name x pos')) spos.line X.env=pure b:=⟨_,rfl⟩
 obtain⟨b,hb⟩:=hb
 cases b with
 | false=>exact xU hN hx' hx (aAh CS hc hi hch hs) hb hf
 | true=>
  intro pins s σ H D I h
  rw[exec_Assign_Name_used x pos' _ spos hb]
  refine wpAny_bind (wpAny_standAt (wpAny_bind ?_))
  show wpAny _ _ (comprehension (.ListComp elt [⟨tg,iter,ifs,0⟩] scope pos) scope X.env (firstIterPos [⟨tg,iter,ifs,0⟩] pos) (newList []) (firstAsync [⟨tg,iter,ifs,0⟩]) (firstIter [⟨tg,iter,ifs,0⟩] X.env) (some (assign (.Name x pos') X.env)) >>= λ_=>pure ()) _ _ s
  refine wpAny_bind (wpAny_comprehension_free (use:=some (assign (.Name x pos') X.env)) rfl hs (iQ λn hn=>I.ok.has n (CS.free n hn)) CS.kind CS.loc (thn (hi pins s σ H _ I h) λxv s1 h1=>thn h1 λitv s2 h2=>?_))
  obtain⟨it,fp,tn,J,H2,e,I2,T,st2,f2,hw⟩:=h2
  subst e
  refine vP (Q:=λv H'=>D.nx (σ.set i (some v)) H') (RR:=λacc C=>compPost (model X.prog X.w) X.A X.xe (some (assign (.Name x pos') X.env)) (λ_ s'=>wpAny (model X.prog X.w) X.A (pure ()) (λ_ s'=>wpAny (model X.prog X.w) X.A (pure Flow.next) (SP X pins D) X.xe s') X.xe s') acc C) CS hc I2 T st2 f2 hch hw λD' C s' H' m J hn lt hall q=>?_
  show wpAny _ _ (assign (.Name x pos') X.env (.ref D')) _ _ s'
  refine wpAny_assign_Name (rF (v:=V.ref D') J hN hx' hx rfl (λs'' J' hsb=>?_) hf)
  obtain⟨a,sb,ha⟩:=hsb
  refine⟨m,hn.sameBut sb ?_,λh' hs'=>?_⟩
  . rcases ha with z|z
    . rw[z];exact Nat.ne_of_gt (Nat.lt_trans I2.lt lt)
    . exact Nat.ne_of_gt (Nat.lt_trans (I2.cellLt z) lt)
  . exact wpAny_pure (wpAny_pure ⟨_,H',hall _ s'' h' J' hs',q⟩)
end
end L2
end
noncomputable section
namespace Hp
open PySem PySem.Spec PyProof.Rows L2
def Rr(K:Fg)(H H':Hp)(Y:Addr->Prop)(r:Rt)(u:V):Prop:=
 if r.2.1=true then ∃a xs ds,u=.ref a/\r.1=.lst ds/\H a=none/\H' a=some (.lst xs)/\Reps K H' (λb=>b=a\/Y b\/(r.2.2=false/\H b≠none)) ds xs
 else Rep K H' (λb=>Y b\/(r.2.2=false/\H b≠none)) r.1 u
def spF(K:Fg)(P:Pg)(n:Nat)(f:Nat):Sp:=λvs H Q _=>∃(ds:List D) (Y:Addr->Prop),(∀a,Y a->H a≠none)/\Reps K H Y ds vs/\RE (call P n f ds) λr=>∀u H',Tk K H'->aU H H'->Rr K H H' Y r u->Q u H'
def bltNames:List Str:=["len", "list", "tuple", "min", "max", "abs", "int", "str", "sum", "all", "any", "sorted", "bool", "range", "zip", "enumerate", "reversed", "set", "isinstance", "dict", "repr"]
structure Md (X:Cx) (P:Pg) (Γ:Ct) (n:Nat):Prop where
 fn:∀(f:Nat) (x:Str),Γ.fns[f]? = some x->∃fa fd ps,X.mg x=some (.ref fa)/\PySem.W.keepIn X.K (.ref fa)=true/\kB X.K fd ps []/\nQ X.prog X.w X.K X.mg X.base CX0 n fa fd ps (spF X.K P n f)
 blt:∀x∈bltNames,X.mg x=none
 cns:∀(x:Str) (d:D),Γ.cns.lookup x=some d->∃u v,X.mg x=some u/\bQ v u/\∀H ex,Rep X.K H ex d v
 tab:∀(i:Nat) (x:Str),Γ.tbs[i]? = some x->∃a t,X.mg x=some (.ref a)/\P.tabs[i]? = some t/\rO X.prog X.w X.K a t
structure Mc (X:Cx) (P:Pg) (Γ:Ct) (n:Nat):Prop where
 md:Md X P Γ n
 N:X.N=Γ.N
 nd:X.N.Nodup
 sc:X.env.scope.names=Γ.sc
 calm:X.calm=true
 room:kK n X.A
 xe:X.xe=λ_ _=>False
 st:∀x:Str,vI Γ x=true->X.fn x=true\/X.env.scope.names.lookup x=some .local
 fk:X.env.scope.kind=.function
section
variable {X:Cx} {P:Pg} {Γ:Ct} {n:Nat}
theorem Mc.units(M:Mc X P Γ n):X.A.units+200<cLine:=by have:=M.room.un;omega
theorem Mc.vis(M:Mc X P Γ n){x:Str}(h:aCA Γ x=true):Vis X.env.scope x:=by
 unfold aCA at h
 unfold Vis
 rw[M.sc]
 cases q:Γ.sc.lookup x with
 | none=>rw[q] at h;cases h
 | some k=>rw[q] at h;cases k <;> first|exact .inl rfl|exact .inr (.inl rfl)|exact .inr (.inr rfl)|cases h
theorem Mc.loc(M:Mc X P Γ n){x:Str}(h:vI Γ x=true):L2.Loc X.env.scope x:=by
 unfold vI at h
 unfold L2.Loc
 rw[M.sc]
 cases q:Γ.sc.lookup x with
 | none=>rw[q] at h;cases h
 | some k=>rw[q] at h;cases k <;> first|exact .inl rfl|exact .inr rfl|cases h
theorem Mc.gl(M:Mc X P Γ n){x:Str}(h:dJ Γ x=true):Gl X x:=by
 unfold dJ at h
 unfold Gl
 show X.env.scope.names.lookup x=_
 rw[M.sc]
 cases q:Γ.sc.lookup x with
 | none=>rw[q] at h;cases h
 | some k=>rw[q] at h;cases k <;> first|rfl|cases h
theorem aY{x:Str}(h:cZ x=true):(x==("__debug__" : Str))=false:=by
 unfold cZ at h
 simp only[bA,Bool.not_eq_true'] at h
 exact h.1
theorem mP{x:Str}(h:cZ x=true):(x==("__classdict__" : Str))=false:=by
 unfold cZ at h
 simp only[bA,Bool.not_eq_true'] at h
 exact h.2
theorem aHm:∀{d d':D},eqK d d'=true->d=d':=by
 intro d d' h
 cases d <;> cases d' <;> simp[eqK] at h <;> first|rfl|(subst h;rfl)
def bJ:Expr->Bool
 | .Starred _ _=>false
 | .Slice _ _ _ _=>false
 | .Set _ _ _=>false
 | _=>true
theorem aCK{α:Type}{o:Option α}{f:α->Bool}(h:oB o f=true):∃a,o=some a/\f a=true:=by
 cases o with
 | none=>cases h
 | some a=>exact⟨a,rfl,h⟩
theorem aJ{α:Type}{q:α->Prop}{o:Option { a:α // q a }}{f:α->Bool}(h:oS o f=true):∃a,q a/\f a=true:=by
 cases o with
 | none=>cases h
 | some a=>exact⟨a.1,a.2,h⟩
theorem aQ{c:E}{e:Expr}(h:aW Γ c e=true):bJ e=true:=by
 cases c with
 | c d=>
  rcases(Bool.or_eq_true _ _).mp (show(oS (asC e) (eqC d)||oS (asN e) λx=>dJ Γ x&&cZ x&&oB (Γ.cns.lookup x) (eqK d))=true from h) with h|h
  . obtain⟨_,⟨_,_,rfl⟩,_⟩:=aJ h;rfl
  . obtain⟨_,⟨_,rfl⟩,_⟩:=aJ h;rfl
 | v i=>obtain⟨_,⟨_,rfl⟩,_⟩:=aJ h;rfl
 | op o a b=>obtain⟨_,⟨_,rfl⟩,_⟩:=aJ h;rfl
 | neg a=>obtain⟨_,⟨_,rfl⟩,_⟩:=aJ h;rfl
 | nt a=>obtain⟨_,⟨_,rfl⟩,_⟩:=aJ h;rfl
 | an a b=>obtain⟨_,rfl,_⟩:=aJ h;rfl
 | orr a b=>obtain⟨_,rfl,_⟩:=aJ h;rfl
 | ife t a b=>obtain⟨_,⟨_,rfl⟩,_⟩:=aJ h;rfl
 | cmp o a b=>obtain⟨_,⟨_,rfl⟩,_⟩:=aJ h;rfl
 | cmp2 o1 o2 a b c=>obtain⟨_,⟨_,rfl⟩,_⟩:=aJ h;rfl
 | idx a b=>obtain⟨_,⟨_,rfl⟩,_⟩:=aJ h;rfl
 | sli a lo hi=>obtain⟨_,⟨_,rfl⟩,_⟩:=aJ h;rfl
 | tup es=>obtain⟨_,⟨_,_,rfl⟩,_⟩:=aJ h;rfl
 | lst es=>obtain⟨_,⟨_,rfl⟩,_⟩:=aJ h;rfl
 | call f es=>obtain⟨_,⟨_,_,rfl⟩,_⟩:=aJ h;rfl
 | bi b es=>obtain⟨_,⟨_,_,rfl⟩,_⟩:=aJ h;rfl
 | mth _ _ _=>cases h
 | isi a cs=>obtain⟨_,⟨_,_,rfl⟩,_⟩:=aJ h;rfl
 | comp k caps t it cond elt=>obtain⟨_,⟨_,rfl⟩,_⟩:=aJ h;rfl
 | numset a=>obtain⟨_,⟨_,_,rfl⟩,_⟩:=aJ h;rfl
 | tget i a=>obtain⟨_,⟨_,_,rfl,_⟩,_⟩:=aJ h;rfl
 | lzip _ _=>cases h
 | dic ks vs=>cases h
 | sset a=>obtain⟨_,⟨_,_,rfl⟩,_⟩:=aJ h;rfl
 | attr _ _=>cases h
theorem aE{e:Expr}{es:List Expr}{env:Env}(h:bJ e=true):starEach (e::es) env=(false,eval e env)::starEach es env:=by
 cases e <;> first|rfl|cases h
theorem iZ:∀{cs:Es} {es:List Expr},chkEs Γ cs es=true->es.all bJ=true
 | .nil,[],_=>rfl
 | .nil,_::_,h=>by cases h
 | .cons _ _,[],h=>by cases h
 | .cons c cs,e::es,h=>by
  simp only[chkEs,bA] at h
  rw[List.all_cons,aQ h.1,iZ h.2]
  rfl
theorem dA{pos:Pos}{env:Env}:∀{es:List Expr},es.all bJ=true->(backTo pos (starEach es env)).any (·.1)=false
 | [],_=>rfl
 | e::es,h=>by
  rw[List.all_cons,bA] at h
  rw[aE h.1]
  show(false||(backTo pos (starEach es env)).any (·.1))=false
  rw[dA h.2]
  rfl
theorem yP{e:Expr}(h:bJ e=true):aAb e:=by
 intro o i
 cases e <;> first|rfl|cases h
theorem mQ{e:Expr}{env:Env}(h:bJ e=true):∀x,foldedSetIterable e env x=pure x:=by
 intro x
 cases e <;> first|rfl|cases h
theorem pG{op:CmpOp}{e:Expr}(h:bJ e=true):behindInMarks op e=false:=by
 cases e <;> first|rfl|cases h
variable {RT Y old:Addr->Prop} {σ:Sg} {pos:Pos}
abbrev WE(X:Cx)(P:Pg)(n:Nat)(RT Y old:Addr->Prop)(σ:Sg)(c:E):TE:=wE X P (call P n) RT Y old σ c
abbrev WT(X:Cx)(P:Pg)(n:Nat)(RT Y old:Addr->Prop)(σ:Sg)(c:E):TT:=wT X P (call P n) RT Y old σ c
abbrev WA(X:Cx)(P:Pg)(n:Nat)(RT Y old:Addr->Prop)(σ:Sg)(c:Es):TA:=wA X P (call P n) RT Y old σ c
theorem RE.bind'{α β:Type}{x:R α}{f:α->R β}{p:β->Prop}(h:RE (x >>= f) p):RE x λa=>RE (f a) p:=by rwa [RE.bind] at h
theorem wE.one{a:E}{σV:L2.St}{H:Hp}{p:Vl->Prop}{Q:V->Hp->Prop}(S:Sx X.K RT Y old σ σV H)(h:RE (ev P (call P n) σ a) p)
 (f:∀x u H',p x->Tk X.K H'->Sx X.K RT Y old σ σV H'->Ro X.K RT Y old σ σV H H' x u->Q u H'):WE X P n RT Y old σ a σV H Q:=
 ⟨S,h.mono λx hx u H' t r=>f x u H' hx t (S.grow r.1 t) r⟩
theorem aMj{o:Operator}{a b:E}{ea eb:Expr}(ha:PE X ea (WE X P n RT Y old σ a))(hb:PE X eb (WE X P n RT Y old σ b)):PE X (.BinOp ea o eb pos) (WE X P n RT Y old σ (.op o a b)):=by
 intro pins s σV H Q I hw
 obtain⟨S,h⟩:=hw
 have h:=RE.bind' (show RE (ev P (call P n) σ a >>= λx=>ev P (call P n) σ b >>= λy=>opD o x y) _ from h)
 refine wpAny_BinOp (thn (ha pins s σV H (λux H1=>WE X P n RT Y old σ b σV H1 λuy H2=>∃x y,Sx X.K RT Y old σ σV H2/\aU H H2/\Rv X.K RT Y old σ σV H2 x ux/\Rv X.K RT Y old σ σV H2 y uy/\(x.fr=true->∃a xs,ux=.ref a/\H2 a=some (.lst xs))/\RE (opD o x y) (Wn X RT Y old σ σV H Q)) I
  (wE.one S h λx u H1 hx t1 S1 r1=>wE.one S1 (RE.bind' hx) λy u' H2 hy t2 S2 r2=>⟨x,y,S2,r1.1.trans r2.1,(r1.rv S).grow r2.1,r2.rv S1,λhf=>?_,hy⟩)) λv s1 ⟨x',H1,I1,rx,q1⟩=>thn (hb pins s1 σV H1 _ I1 q1) λu s2 ⟨y',H2,I2,ry,q2⟩=>?_)
 . have:=r1.2
   rw[if_pos hf] at this
   obtain⟨a',xs,ds,e1,_,_,e4,_⟩:=this
   exact⟨a',xs,e1,r2.1 _ _ e4⟩
 . obtain⟨x,y,S2,sm,hx,hy,hf,h⟩:=q2
   exact aCF I2 S2 rx ry hx hy hf (h.mono λv hv u H' t r=>hv u H' t (r.from sm))
theorem aJN{a:E}{ea:Expr}(ha:PE X ea (WE X P n RT Y old σ a)):PE X (.UnaryOp .USub ea pos) (WE X P n RT Y old σ (.neg a)):=by
 refine(aJe aGS ha).imp λσV H Q t ⟨S,h⟩=>?_
 have h:=RE.bind' (show RE (ev P (call P n) σ a >>= λx=>(match x.d with|.int i=>R.ok (Vl.cl (.int (-i)))|_=>.bad)) _ from h)
 refine wE.one S h λx u H1 hx t1 S1 r1=>?_
 split at hx
 . rename_i i d1
   exact⟨i,(r1.rv S).int d1,λt'=>hx _ _ t' (Ro.cl r1.1 rfl)⟩
 . exact hx.elim
theorem aCL{H:Hp}{σV:L2.St}{x:Vl}{u:V}{k:Bool}(hx:Rv X.K RT Y old σ σV H x u)(h:aCw x.d=some k):aEE X.K u H k:=by
 unfold aCw at h
 split at h
 . rename_i d;rw[hx.non d];exact(Option.some.inj h).symm
 . rename_i b d;rw[hx.bl d];exact(Option.some.inj h).symm
 . rename_i i d;rw[hx.int d];exact(Option.some.inj h).symm
 . rename_i z d
   by_cases hl:z.length<=lim
   . rw[if_pos hl] at h
     rw[hx.str d]
     refine⟨fU hl,?_⟩
     rw[<-Option.some.inj h]
     cases hz:z.length with
     | zero=>rfl
     | succ m=>simp;omega
   . rw[if_neg hl] at h;cases h
 . rename_i ds d
   obtain⟨a,xs,e,q,r⟩:=hx.tup d
   rw[e]
   refine .inr (.inl ⟨xs,q,?_⟩)
   rw[<-Option.some.inj h]
   have:=r.length
   cases ds <;> cases xs <;> first|rfl|(simp at this)
 . rename_i ds d
   obtain⟨a,xs,e,q,_,r⟩:=hx.lst d
   rw[e]
   refine .inl ⟨xs,q,?_⟩
   rw[<-Option.some.inj h]
   have:=r.length
   cases ds <;> cases xs <;> first|rfl|(simp at this)
 . cases h
theorem RE.tru{x:Vl}{p:Bool->Prop}(h:RE (fS x) p):∃k,aCw x.d=some k/\p k:=by
 unfold fS at h
 cases q:aCw x.d with
 | none=>rw[q] at h;exact h.elim
 | some k=>rw[q] at h;exact⟨k,rfl,h⟩
theorem aJO{a:E}{ea:Expr}(ha:PE X ea (WE X P n RT Y old σ a)):PE X (.UnaryOp .Not ea pos) (WE X P n RT Y old σ (.nt a)):=by
 intro pins s σV H Q I hw
 obtain⟨S,h⟩:=hw
 have h:=RE.bind' (show RE (ev P (call P n) σ a >>= λx=>fS x >>= λk=>R.ok (Vl.cl (.bl (!k)))) _ from h)
 refine UnaryOp_ (thn (ha pins s σV H (λu H1=>∃k,aEE X.K u H1 k/\Q (.bl (!k)) H1) I (wE.one S h λx u H1 hx t1 S1 r1=>?_)) λv s1 ⟨u,H1,I1,ru,k,hk,q⟩=>?_)
 . obtain⟨k,hk,hp⟩:=RE.tru (RE.bind' hx)
   exact⟨k,aCL (r1.rv S) hk,(show Wn X RT Y old σ σV H Q (Vl.cl (.bl (!k))) from hp) _ _ t1 (Ro.cl r1.1 rfl)⟩
 . refine not_of (thn (aCm pins s1 σV H1 u v (λk' H'=>k'=k/\H'=H1) I1 ru ⟨k,hk,rfl,rfl⟩) λb s2 ⟨H2,I2,e1,e2⟩=>?_)
   subst e1 e2
   exact⟨.bl (!b),H2,I2,rfl,q⟩
theorem rR{c:E}{e:Expr}(ha:PE X e (WE X P n RT Y old σ c))(he:∀whole,isTrue e X.env whole=(do let v<-whole;standAt e.pos;holding [v] (truthy v)))
 (hc:∀p,RE (tst P (call P n) σ c) p->RE (ev P (call P n) σ c) λx=>RE (fS x) p):PT X e (WT X P n RT Y old σ c):=by
 refine(aCn ha he).imp λσV H Q t ⟨S,h⟩=>?_
 refine wE.one S (hc _ h) λx u H1 hx t1 S1 r1=>?_
 obtain⟨k,hk,hp⟩:=RE.tru hx
 exact⟨k,aCL (r1.rv S) hk,λt'=>hp _ t' r1.1⟩
theorem aJP{a b:E}{ea eb:Expr}{r:List Expr}(ha:PE X ea (WE X P n RT Y old σ a))(hb:PE X (.BoolOp .And (eb::r) pos) (WE X P n RT Y old σ b)):PE X (.BoolOp .And (ea::eb::r) pos) (WE X P n RT Y old σ (.an a b)):=by
 refine(aGE ha hb).imp λσV H Q t ⟨S,h⟩=>?_
 have h:=RE.bind' (show RE (ev P (call P n) σ a >>= λx=>(match x.d with|.bl true=>ev P (call P n) σ b|.bl false=>R.ok (Vl.cl (.bl false))|_=>.bad)) _ from h)
 refine wE.one S h λx u H1 hx t1 S1 r1=>?_
 split at hx
 . rename_i d1
   refine⟨true,(r1.rv S).bl d1,?_⟩
   rw[if_pos rfl]
   exact⟨S1,hx.mono λv hv u H' t r=>λ_=>hv u H' t (r.from r1.1)⟩
 . rename_i d1
   refine⟨false,(r1.rv S).bl d1,?_⟩
   rw[if_neg bN]
   exact λt'=>hx _ _ t' (Ro.cl r1.1 rfl)
 . exact hx.elim
theorem aGc{a b:E}{ea eb:Expr}{r:List Expr}(ha:PE X ea (WE X P n RT Y old σ a))(hb:PE X (.BoolOp .Or (eb::r) pos) (WE X P n RT Y old σ b)):PE X (.BoolOp .Or (ea::eb::r) pos) (WE X P n RT Y old σ (.orr a b)):=by
 refine(aIT ha hb).imp λσV H Q t ⟨S,h⟩=>?_
 have h:=RE.bind' (show RE (ev P (call P n) σ a >>= λx=>(match x.d with|.bl true=>R.ok (Vl.cl (.bl true))|.bl false=>ev P (call P n) σ b|_=>.bad)) _ from h)
 refine wE.one S h λx u H1 hx t1 S1 r1=>?_
 split at hx
 . rename_i d1
   refine⟨true,(r1.rv S).bl d1,?_⟩
   rw[if_pos rfl]
   exact λt'=>hx _ _ t' (Ro.cl r1.1 rfl)
 . rename_i d1
   refine⟨false,(r1.rv S).bl d1,?_⟩
   rw[if_neg bN]
   exact⟨S1,hx.mono λv hv u H' t r=>λ_=>hv u H' t (r.from r1.1)⟩
 . exact hx.elim
theorem aJQ{t a b:E}{et ea eb:Expr}(ht:PT X et (WT X P n RT Y old σ t))(ha:PE X ea (WE X P n RT Y old σ a))(hb:PE X eb (WE X P n RT Y old σ b)):PE X (.IfExp et ea eb pos) (WE X P n RT Y old σ (.ife t a b)):=by
 refine(aCc ht ha hb).imp λσV H Q t0 ⟨S,h⟩=>?_
 have h:=RE.bind' (show RE (tst P (call P n) σ t >>= λx=>if x=true then ev P (call P n) σ a else ev P (call P n) σ b) _ from h)
 refine⟨S,h.mono λk hk H1 t1 s1=>?_⟩
 cases k with
 | true=>rw[if_pos rfl] at hk ⊢;exact⟨S.grow s1 t1,hk.mono λv hv u H' t r=>λ_=>hv u H' t (r.from s1)⟩
 | false=>rw[if_neg bN] at hk ⊢;exact⟨S.grow s1 t1,hk.mono λv hv u H' t r=>λ_=>hv u H' t (r.from s1)⟩
def w2(X:Cx)(P:Pg)(n:Nat)(RT Y old:Addr->Prop)(σ:Sg)(σV:L2.St)(H:Hp)(p:Vl->Vl->Prop)(ux uy:V)(H2:Hp):Prop:=
 ∃x y,Sx X.K RT Y old σ σV H2/\aU H H2/\Rv X.K RT Y old σ σV H2 x ux/\Rv X.K RT Y old σ σV H2 y uy/\p x y
theorem jR(M:Mc X P Γ n)(o:CmpOp):OpR X (compareOp o) (λux uy H Q=>∃(σ:Sg) (σV:L2.St) (x y:Vl) (k:Bool),Rv X.K RT Y old σ σV H x ux/\Rv X.K RT Y old σ σV H y uy/\cG o x.d y.d=some k/\Q (.bl k) H):=by
 intro pins s σV H ux uy v u Q I rx ry h
 obtain⟨σ',σV',x,y,k,hx,hy,hk,q⟩:=h
 exact aBe I M.units rx ry hx hy hk q
theorem aJR(M:Mc X P Γ n){o:CmpOp}{a b:E}{ea eb:Expr}(ha:PE X ea (WE X P n RT Y old σ a))(hb:PE X eb (WE X P n RT Y old σ b))(hp:bJ eb=true):PE X (.Compare ea [o] [eb] pos) (WE X P n RT Y old σ (.cmp o a b)):=by
 refine(aEC (jR (RT:=RT) (Y:=Y) (old:=old) M o) ha hb (pG hp)).imp λσV H Q t ⟨S,h⟩=>?_
 have h:=RE.bind' (show RE (ev P (call P n) σ a >>= λx=>ev P (call P n) σ b >>= λy=>(match cG o x.d y.d with|some k=>R.ok (Vl.cl (.bl k))|none=>.bad)) _ from h)
 refine wE.two S (h.mono λx hx=>RE.bind' hx) λx y ux uy H2 hp t2 s2 S2 hx hy=>?_
 split at hp
 . rename_i k hk
   exact⟨σ,σV,x,y,k,hx,hy,hk,λt'=>hp _ _ t' (Ro.cl s2 rfl)⟩
 . exact hp.elim
theorem cQ(M:Mc X P Γ n){o:CmpOp}{a b:E}{ea eb:Expr}(ha:PE X ea (WE X P n RT Y old σ a))(hb:PE X eb (WE X P n RT Y old σ b))(hp:bJ eb=true):PT X (.Compare ea [o] [eb] pos) (WT X P n RT Y old σ (.cmp o a b)):=by
 refine(aED (jR (RT:=RT) (Y:=Y) (old:=old) M o) ha hb (pG hp)).imp λσV H Q t ⟨S,h⟩=>?_
 have h:=RE.bind' (show RE (ev P (call P n) σ a >>= λx=>ev P (call P n) σ b >>= λy=>(match cG o x.d y.d with|some k=>R.ok k|none=>.bad)) _ from h)
 refine wE.two S (h.mono λx hx=>RE.bind' hx) λx y ux uy H2 hp t2 s2 S2 hx hy=>?_
 split at hp
 . rename_i k hk
   exact⟨σ,σV,x,y,k,hx,hy,hk,k,rfl,λt'=>hp _ t' s2⟩
 . exact hp.elim
theorem aJS{a b:E}{ea eb:Expr}(ha:PE X ea (WE X P n RT Y old σ a))(hb:PE X eb (WE X P n RT Y old σ b))(hp:bJ eb=true):PE X (.Subscript ea eb pos) (WE X P n RT Y old σ (.idx a b)):=by
 refine(aJq aHa ha hb (yP hp)).imp λσV H Q t ⟨S,h⟩=>?_
 have h:=RE.bind' (show RE (ev P (call P n) σ a >>= λx=>ev P (call P n) σ b >>= λy=>eA x y) _ from h)
 refine wE.two S (h.mono λx hx=>RE.bind' hx) λx y ux uy H2 hp t2 s2 S2 hx hy=>?_
 exact aBf t2 hx hy (hp.mono λv hv u H' t r=>hv u H' t (r.from s2))
theorem vQ:PA X [] (WA X P n RT Y old σ .nil):=mL.imp λσV H Q t ⟨S,h⟩ t'=>h [] H t' (aU.refl H) rfl
theorem kO{c:E}{cs:Es}{e:Expr}{es:List Expr}(ha:PE X e (WE X P n RT Y old σ c))(hr:PA X es (WA X P n RT Y old σ cs))(hp:bJ e=true):PA X (e::es) (WA X P n RT Y old σ (.cons c cs)):=by
 refine(jN ha hr (aE hp)).imp λσV H Q t ⟨S,h⟩=>?_
 have h:=RE.bind' (show RE (ev P (call P n) σ c >>= λx=>evs P (call P n) σ cs >>= λxs=>R.ok (x::xs)) _ from h)
 refine wE.one S h λx u H1 hx t1 S1 r1=>⟨S1,(RE.bind' hx).mono λvs hv us H2 t2 s2 r2 t'=>?_⟩
 exact hv (u::us) H2 t' (r1.1.trans s2) ⟨u,us,rfl,(r1.rv S).grow s2,r2⟩
theorem tL:∀{cs:Es} {es:List Expr} {vs:List Vl},chkEs Γ cs es=true->evs P (call P n) σ cs=.ok vs->vs.length=es.length
 | .nil,[],vs,_,h=>by cases(show R.ok []=R.ok vs from h);rfl
 | .nil,_::_,_,h,_=>by cases h
 | .cons _ _,[],_,h,_=>by cases h
 | .cons c cs,e::es,vs,hc,h=>by
  simp only[chkEs,bA] at hc
  have h:(ev P (call P n) σ c >>= λx=>evs P (call P n) σ cs >>= λxs=>R.ok (x::xs))=R.ok vs:=h
  cases q1:ev P (call P n) σ c with
  | ok x=>
   cases q2:evs P (call P n) σ cs with
   | ok xs=>
    rw[q1] at h
    have h:(evs P (call P n) σ cs >>= λxs=>R.ok (x::xs))=R.ok vs:=h
    rw[q2] at h
    cases(show R.ok (x::xs)=R.ok vs from h)
    rw[lC,lC,tL hc.2 q2]
   | exc z=>rw[q1] at h;have h:(evs P (call P n) σ cs >>= λxs=>R.ok (x::xs))=R.ok vs:=h;rw[q2] at h;cases h
   | bad=>rw[q1] at h;have h:(evs P (call P n) σ cs >>= λxs=>R.ok (x::xs))=R.ok vs:=h;rw[q2] at h;cases h
  | exc z=>rw[q1] at h;cases h
  | bad=>rw[q1] at h;cases h
theorem RE.eq{α:Type}{x:R α}{p:α->Prop}(h:RE x p):∃a,x=.ok a/\p a:=by
 cases x with
 | ok a=>exact⟨a,rfl,h⟩
 | exc e=>exact h.elim
 | bad=>exact h.elim
theorem aJT{cs:Es}{es:List Expr}{k:Nat}(ha:PA X es (WA X P n RT Y old σ cs))(hc:chkEs Γ cs es=true)(hl:es.length<=1000):PE X (.Tuple es k pos) (WE X P n RT Y old σ (.tup cs)):=by
 refine(aGU ha).imp λσV H Q t ⟨S,h⟩=>?_
 have h:=RE.bind' (show RE (evs P (call P n) σ cs >>= λvs=>R.ok (rN vs)) _ from h)
 obtain⟨vs,e,hv⟩:=h.eq
 refine⟨S,?_⟩
 show RE (evs P (call P n) σ cs) _
 rw[e]
 intro us H1 t1 s1 r1
 have hn:us.length<=sizeLine:=by rw[<-r1.length,tL hc e,sizeLine_eq];omega
 exact⟨hn,λp hp t'=>(show Wn X RT Y old σ σV H Q (rN vs) from hv) _ _ t' ((Ro.tup hp rfl rfl r1.all).from s1)⟩
theorem aJU{cs:Es}{es:List Expr}(ha:PA X es (WA X P n RT Y old σ cs))(hc:chkEs Γ cs es=true)(hl:es.length<=1000):PE X (.List es pos) (WE X P n RT Y old σ (.lst cs)):=by
 refine(aGV ha).imp λσV H Q t ⟨S,h⟩=>?_
 have h:=RE.bind' (show RE (evs P (call P n) σ cs >>= λvs=>R.ok (oY vs)) _ from h)
 obtain⟨vs,e,hv⟩:=h.eq
 refine⟨S,?_⟩
 show RE (evs P (call P n) σ cs) _
 rw[e]
 intro us H1 t1 s1 r1
 have hn:us.length<=sizeLine:=by rw[<-r1.length,tL hc e,sizeLine_eq];omega
 exact⟨hn,λp hp t'=>(show Wn X RT Y old σ σV H Q (oY vs) from hv) _ _ t' ((Ro.fresh hp t' rfl rfl (S.grow s1 t1) r1.all).from s1)⟩
theorem aEZ:∀b:Bi,aCB b=true->bootBuiltins (kL b)=some (aGb b):=by
 intro b hb
 cases b <;> first|kernel_rfl|cases hb
theorem eI:∀b:Bi,kL b∈bltNames:=by
 intro b
 cases b <;> decide +kernel
theorem eY:∀b:Bi,kL b ≠ "__name__" := by
 intro b
 cases b <;> decide +kernel
theorem aMk(M:Mc X P Γ n){b:Bi}{cs:Es}{x:Str}{p:Pos}{e:Expr}{es:List Expr}(hb:aCB b=true)(hx:kL b=x)(hg:dJ Γ x=true)(ho:cZ x=true)(ha:PA X (e::es) (WA X P n RT Y old σ cs))(hp:(e::es).all bJ=true) :
 PE X (.Call (.Name x p) (e::es) [] pos) (WE X P n RT Y old σ (.bi b cs)):=by
 subst hx
 have hp':bJ e=true/\es.all bJ=true:=by simpa using hp
 have body:∀(f:PE X (.Call (.Name (kL b) p) (e::es) [] pos) (tCB (rBi X b) (WA X P n RT Y old σ cs))),PE X (.Call (.Name (kL b) p) (e::es) [] pos) (WE X P n RT Y old σ (.bi b cs)):=λf=>f.imp λσV H Q t ⟨S,h⟩=>by
  have h:=RE.bind' (show RE (evs P (call P n) σ cs >>= λvs=>biD b vs) _ from h)
  refine⟨S,h.mono λvs hv us H1 t1 s1 r1=>?_⟩
  exact aCH hb (S.grow s1 t1) r1 (hv.mono λv hv u H' t r=>hv u H' t (r.from s1))
 refine body ?_
 have r:=aEW M.calm M.room.gd M.units b hb
 have bo:=aEZ b hb
 cases b with
 | len=>exact lB r (M.gl hg) (M.md.blt _ (eI _)) bo ha (eY _) (aY ho) (aE hp'.1) (dA hp'.2)
 | min=>exact lB r (M.gl hg) (M.md.blt _ (eI _)) bo ha (eY _) (aY ho) (aE hp'.1) (dA hp'.2)
 | all=>exact lB r (M.gl hg) (M.md.blt _ (eI _)) bo ha (eY _) (aY ho) (aE hp'.1) (dA hp'.2)
 | any=>exact lB r (M.gl hg) (M.md.blt _ (eI _)) bo ha (eY _) (aY ho) (aE hp'.1) (dA hp'.2)
 | list=>exact mM r (M.gl hg) (M.md.blt _ (eI _)) bo ha (eY _) (aY ho) (aE hp'.1) (dA hp'.2)
 | tuple=>exact mM r (M.gl hg) (M.md.blt _ (eI _)) bo ha (eY _) (aY ho) (aE hp'.1) (dA hp'.2)
 | int=>exact mM r (M.gl hg) (M.md.blt _ (eI _)) bo ha (eY _) (aY ho) (aE hp'.1) (dA hp'.2)
 | _=>cases hb
theorem aFa{σV:L2.St}{H H1 H':Hp}{vs:List Vl}{r:Rt}{u:V}(S1:Sx X.K RT Y old σ σV H1)(s1:aU H H1)(s':aU H1 H')(h:Rr X.K H1 H' (λb=>H1 b≠none/\exV RT Y old σ σV (dS vs) (bT vs) b) r u) :
 Ro X.K RT Y old σ σV H H' (gQ vs r) u:=by
 obtain⟨d,fr,pa⟩:=r
 have key:∀b,exV RT Y old σ σV (gQ vs (d,fr,pa)).pa (gQ vs (d,fr,pa)).al b->(H1 b≠none/\exV RT Y old σ σV (dS vs) (bT vs) b)\/(pa=false/\H1 b≠none):=by
  intro b z
  have tk:=exV.trk S1 z
  cases pa with
  | true=>exact .inl ⟨tk,z⟩
  | false=>exact .inr ⟨rfl,tk⟩
 have efr:(gQ vs (d,fr,pa)).fr=fr:=by unfold gQ;split <;> rfl
 have ed:(gQ vs (d,fr,pa)).d=d:=by unfold gQ;split <;> rfl
 refine⟨s1.trans s',?_⟩
 rw[efr]
 unfold Rr at h
 cases fr with
 | true=>
  rw[if_pos rfl] at h ⊢
  obtain⟨a,xs,ds,e1,e2,e3,e4,rr⟩:=h
  exact⟨a,xs,ds,e1,by rw[ed];exact e2,s1.free e3,e4,rr.weak λb z=>z.elim (λz=>.inl z) λz=>.inr (key b z)⟩
 | false=>
  rw[if_neg bN] at h ⊢
  unfold Rv
  rw[ed]
  exact Rep.weak h key
theorem aCM{f:Nat}{cs:Es}{σV:L2.St}{H:Hp}{Q:VK}(S:Sx X.K RT Y old σ σV H)(h:RE (ev P (call P n) σ (.call f cs)) (Wn X RT Y old σ σV H Q)) :
 WA X P n RT Y old σ cs σV H λus H1=>spF X.K P n f (us++[]) H1 (λv H'=>Tk X.K H'->Q v H') E0:=by
 have h:=RE.bind' (show RE (evs P (call P n) σ cs >>= λvs=>call P n f (vs.map (·.d)) >>= λr=>R.ok (gQ vs r)) _ from h)
 refine⟨S,h.mono λvs hv us H1 t1 s1 r1=>?_⟩
 have S1:=S.grow s1 t1
 refine⟨vs.map (·.d),λb=>H1 b≠none/\exV RT Y old σ σV (dS vs) (bT vs) b,λa z=>z.1,by rw[List.append_nil];exact r1.all.weak λa z=>z.2,(RE.bind' hv).mono λr hr u H' t' s' rr _=>?_⟩
 exact(show Wn X RT Y old σ σV H Q (gQ vs r) from hr) u H' t' (aFa S1 s1 s' rr)
theorem aHn(M:Mc X P Γ n){f:Nat}{cs:Es}{x:Str}{p:Pos}{es:List Expr}(hf:Γ.fns[f]? = some x)(hg:dJ Γ x=true)(ho:cZ x=true)(ha:PA X es (WA X P n RT Y old σ cs))(hp:es.all bJ=true)(hc:chkEs Γ cs es=true) :
 PE X (.Call (.Name x p) es [] pos) (WE X P n RT Y old σ (.call f cs)):=by
 obtain⟨fa,fd,ps,h1,h2,h3,h4⟩:=M.md.fn f x hf
 cases es with
 | cons e es=>
  have hp':bJ e=true/\es.all bJ=true:=by simpa using hp
  exact(aEG h4 M.room (M.gl hg) h1 h2 h3 .nil aFU ha (aY ho) (aE hp'.1) (dA hp'.2)).imp λσV H Q t ⟨S,h⟩=>aCM S h
 | nil=>
  cases cs with
  | cons _ _=>cases hc
  | nil=>
   refine(aCp h4 M.room (M.gl hg) h1 h2 h3 .nil aFU (aY ho)).imp λσV H Q t ⟨S,h⟩=>?_
   exact(aCM S h).2 [] H t (aU.refl H) rfl
theorem aHo(M:Mc X P Γ n){i:Nat}{a:E}{m x:Str}{p ap:Pos}{ea:Expr}(hm:m=("get" : Str))(hx:Γ.tbs[i]? = some x)(hg:dJ Γ x=true)(ho:cZ x=true)(hl:(ap.endLine==pos.line)=true)
 (ha:PE X ea (WE X P n RT Y old σ a)) (hp:bJ ea=true):PE X (.Call (.Attribute (.Name x p) m ap) [ea] [] pos) (WE X P n RT Y old σ (.tget i a)):=by
 subst hm
 obtain⟨b,t,h1,h2,h3⟩:=M.md.tab i x hx
 refine(aER h3 (M.gl hg) h1 (aY ho) ha hl (aE hp)).imp λσV H Q tk ⟨S,h⟩=>?_
 have h:=RE.bind' (show RE (ev P (call P n) σ a >>= λx=>(match x.d,P.tabs[i]? with|.str k,some t=>R.ok (Vl.cl ((t.lookup k).getD .non))|_,_=>.bad)) _ from h)
 refine wE.one S h λy u H1 hy t1 S1 r1=>?_
 rw[h2] at hy
 cases hd:y.d with
 | str k=>
  rw[hd] at hy
  have hu:u=.str k:=by
   have z:=r1.rv S
   unfold Rv at z
   rw[hd] at z
   exact z
  exact⟨k,hu,λv hv t'=>(show Wn X RT Y old σ σV H Q (Vl.cl ((t.lookup k).getD .non)) from hy) v H1 t' (Ro.val r1.1 (hv H1))⟩
 | _=>rw[hd] at hy;exact hy.elim
theorem aBl{c:Cl}{cv:Value}{x:Str}(hc:vO c=some cv)(hx:yI Γ c=some x):bootBuiltins x=some cv/\x∈bltNames/\x ≠ "__name__" := by
 cases c <;> cases hc <;> cases hx <;> exact⟨by kernel_rfl,by decide +kernel,by decide +kernel⟩
theorem aJV(M:Mc X P Γ n){a:E}{c:Cl}{cv:Value}{f x:Str}{pf py:Pos}{ea:Expr}(hf:f=("isinstance" : Str))(hg:dJ Γ f=true)(hc:vO c=some cv)(hx:yI Γ c=some x)(hgx:dJ Γ x=true)(hox:cZ x=true)
 (ha:PE X ea (WE X P n RT Y old σ a)) (hp:bJ ea=true):PE X (.Call (.Name f pf) [ea,.Name x py] [] pos) (WE X P n RT Y old σ (.isi a [c])):=by
 subst hf
 intro pins s σV H Q I hw
 obtain⟨S,h⟩:=hw
 have h:=RE.bind' (show RE (ev P (call P n) σ a >>= λx=>(match isI [c] P x.d with|some k=>R.ok (Vl.cl (.bl k))|none=>.bad)) _ from h)
 obtain⟨b1,b2,b3⟩:=aBl hc hx
 refine wpAny_Call_Name_kw (fF I (M.gl hg) (M.md.blt _ (by decide +kernel)) (show bootBuiltins "isinstance" = some (.builtin "isinstance") by kernel_rfl) ?_ (by decide +kernel) (by decide +kernel))
 refine PyProof.Rows.callWith_builtin1 ?_ (aE hp) rfl
 rw[aE hp]
 show wpAny _ _ (spliced ((false,eval ea X.env)::backTo pos (starEach [.Name x py] X.env))) _ _ s
 refine Calls.spliced_cons (thn (ha pins s σV H (λu H1=>∃y k,Rv X.K RT Y old σ σV H1 y u/\isI [c] P y.d=some k/\Q (.bl k) H1) I (wE.one S h λy u H1 hy t1 S1 r1=>?_)) λv s1 ⟨u,H1,I1,ru,y,k,hy,hk,q⟩=>?_)
 . split at hy
   . rename_i k hk
     exact⟨y,k,r1.rv S,hk,(show Wn X RT Y old σ σV H Q (Vl.cl (.bl k)) from hy) _ _ t1 (Ro.cl r1.1 rfl)⟩
   . exact hy.elim
 . show wpAny _ _ (spliced ((false,eval (.Name x py) X.env)::backTo pos (starEach [] X.env))) _ _ s1
   refine Calls.spliced_cons (fF I1 (M.gl hgx) (M.md.blt _ b2) b1 (Calls.spliced_nil ?_) b3 (aY hox))
   exact aBk P I1 ru hy hc hk q
end
section
variable {X:Cx} {P:Pg} {n:Nat} {RT Y old:Addr->Prop} {σ:Sg} {pos:Pos}
end
section
variable {X:Cx} {P:Pg} {Γ:Ct} {n:Nat} {RT Y old:Addr->Prop} {σ:Sg} {pos:Pos}
theorem pH{o o':CmpOp}{eb ec:Expr}(hq:bJ ec=true):lastMarks [o,o'] [eb,ec]=false:=pG hq
theorem aHp(M:Mc X P Γ n){o o':CmpOp}{a b c:E}{ea eb ec:Expr}(ha:PE X ea (WE X P n RT Y old σ a))(hb:PE X eb (WE X P n RT Y old σ b))(hc:PE X ec (WE X P n RT Y old σ c))(hq:bJ ec=true) :
 PE X (.Compare ea [o,o'] [eb,ec] pos) (WE X P n RT Y old σ (.cmp2 o o' a b c)):=by
 refine(aCk (jR (RT:=RT) (Y:=Y) (old:=old) M o) (jR (RT:=RT) (Y:=Y) (old:=old) M o') ha hb hc (pH hq)).imp λσV H Q t ⟨S,h⟩=>?_
 have h:=RE.bind' (show RE (ev P (call P n) σ a >>= λx=>ev P (call P n) σ b >>= λy=>(match cG o x.d y.d with
  | some true=>ev P (call P n) σ c >>= λz=>(match cG o' y.d z.d with|some k=>R.ok (Vl.cl (.bl k))|none=>.bad)
  | some false=>R.ok (Vl.cl (.bl false))
  | none=>.bad)) _ from h)
 refine wE.two S (h.mono λx hx=>RE.bind' hx) λx y ux uy H2 hp t2 s2 S2 hx hy=>?_
 split at hp
 . rename_i hk
   refine⟨σ,σV,x,y,true,hx,hy,hk,true,rfl,?_⟩
   rw[if_pos rfl]
   refine wE.one S2 (RE.bind' hp) λz u H3 hz t3 S3 r3=>?_
   split at hz
   . rename_i k' hk'
     exact⟨σ,σV,y,z,k',hy.grow r3.1,r3.rv S2,hk',λt'=>hz _ _ t' (Ro.cl (s2.trans r3.1) rfl)⟩
   . exact hz.elim
 . rename_i hk
   refine⟨σ,σV,x,y,false,hx,hy,hk,false,rfl,?_⟩
   rw[if_neg bN]
   exact λt'=>hp _ _ t' (Ro.cl s2 rfl)
 . exact hp.elim
theorem aHq(M:Mc X P Γ n){o o':CmpOp}{a b c:E}{ea eb ec:Expr}(ha:PE X ea (WE X P n RT Y old σ a))(hb:PE X eb (WE X P n RT Y old σ b))(hc:PE X ec (WE X P n RT Y old σ c))(hq:bJ ec=true) :
 PT X (.Compare ea [o,o'] [eb,ec] pos) (WT X P n RT Y old σ (.cmp2 o o' a b c)):=by
 refine(aCl (jR (RT:=RT) (Y:=Y) (old:=old) M o) (jR (RT:=RT) (Y:=Y) (old:=old) M o') ha hb hc (pH hq)).imp λσV H Q t ⟨S,h⟩=>?_
 have h:=RE.bind' (show RE (ev P (call P n) σ a >>= λx=>ev P (call P n) σ b >>= λy=>(match cG o x.d y.d with
  | some true=>ev P (call P n) σ c >>= λz=>(match cG o' y.d z.d with|some k=>R.ok k|none=>.bad)
  | some false=>R.ok false
  | none=>.bad)) _ from h)
 refine wE.two S (h.mono λx hx=>RE.bind' hx) λx y ux uy H2 hp t2 s2 S2 hx hy=>?_
 split at hp
 . rename_i hk
   refine⟨σ,σV,x,y,true,hx,hy,hk,true,rfl,?_⟩
   rw[if_pos rfl]
   refine wE.one S2 (RE.bind' hp) λz u H3 hz t3 S3 r3=>?_
   split at hz
   . rename_i k' hk'
     exact⟨σ,σV,y,z,k',hy.grow r3.1,r3.rv S2,hk',k',rfl,λt'=>hz _ t' (s2.trans r3.1)⟩
   . exact hz.elim
 . rename_i hk
   refine⟨σ,σV,x,y,false,hx,hy,hk,false,rfl,?_⟩
   rw[if_neg bN]
   exact⟨false,rfl,λt'=>hp _ t' s2⟩
 . exact hp.elim
theorem dQ{a:E}{ea:Expr}(ha:PT X ea (WT X P n RT Y old σ a)):PT X (.UnaryOp .Not ea pos) (WT X P n RT Y old σ (.nt a)):=by
 refine(aGD ha).imp λσV H Q t ⟨S,h⟩=>?_
 have h:=RE.bind' (show RE (tst P (call P n) σ a >>= λx=>R.ok (!x)) _ from h)
 exact⟨S,h.mono λk hk H1 t1 s1 t'=>(show ∀H',Tk X.K H'->aU H H'->Q (!k) H' from hk) _ t' s1⟩
theorem aCN{e:Expr}{t t':TT}(h:PW X e t)(f:∀σV H Q,Tk X.K H->t' σV H Q->t σV H λv H'=>Tk X.K H'->Q v H'):PW X e t':=λwh pins s σV H Q I hw=>
 thn (h wh pins s σV H _ I (f σV H Q I.tk hw)) λk s' ⟨H',I',q⟩=>⟨H',I',q I'.tk⟩
theorem aJW{a b:E}{ea eb:Expr}{r:List Expr}(ha:PT X ea (WT X P n RT Y old σ a))(hb:PW X (.BoolOp .And (eb::r) pos) (WT X P n RT Y old σ b)):PW X (.BoolOp .And (ea::eb::r) pos) (WT X P n RT Y old σ (.an a b)):=by
 refine aCN (aGC ha hb) λσV H Q t ⟨S,h⟩=>?_
 have h:=RE.bind' (show RE (tst P (call P n) σ a >>= λx=>if x=true then tst P (call P n) σ b else R.ok false) _ from h)
 refine⟨S,h.mono λk hk H1 t1 s1=>?_⟩
 cases k with
 | true=>rw[if_pos rfl] at hk ⊢;exact⟨S.grow s1 t1,hk.mono λv hv H' t s' _=>hv H' t (s1.trans s')⟩
 | false=>rw[if_neg bN] at hk ⊢;exact λt'=>(show ∀H',Tk X.K H'->aU H H'->Q false H' from hk) _ t' s1
theorem aGd{a b:E}{ea eb:Expr}{r:List Expr}(ha:PT X ea (WT X P n RT Y old σ a))(hb:PW X (.BoolOp .Or (eb::r) pos) (WT X P n RT Y old σ b)):PW X (.BoolOp .Or (ea::eb::r) pos) (WT X P n RT Y old σ (.orr a b)):=by
 refine aCN (aIR ha hb) λσV H Q t ⟨S,h⟩=>?_
 have h:=RE.bind' (show RE (tst P (call P n) σ a >>= λx=>if x=true then R.ok true else tst P (call P n) σ b) _ from h)
 refine⟨S,h.mono λk hk H1 t1 s1=>?_⟩
 cases k with
 | true=>rw[if_pos rfl] at hk ⊢;exact λt'=>(show ∀H',Tk X.K H'->aU H H'->Q true H' from hk) _ t' s1
 | false=>rw[if_neg bN] at hk ⊢;exact⟨S.grow s1 t1,hk.mono λv hv H' t s' _=>hv H' t (s1.trans s')⟩
def wO(X:Cx)(P:Pg)(n:Nat)(RT Y old:Addr->Prop)(σ:Sg)(cs:Es):TO:=λσV H Q=>Sx X.K RT Y old σ σV H/\RE (evs P (call P n) σ cs) λvs=>
 (vs=[]/\∀H',Tk X.K H'->aU H H'->Q none H')\/∃v i,vs=[v]/\v.d=.int i/\∀H',Tk X.K H'->aU H H'->Q (some i) H'
theorem aCO{e:Option Expr}{t t':TO}(h:PO X e t)(f:∀σV H Q,Tk X.K H->t' σV H Q->t σV H λv H'=>Tk X.K H'->Q v H'):PO X e t':=λpins s σV H Q I hw=>
 thn (h pins s σV H _ I (f σV H Q I.tk hw)) λu s' ⟨o,H',I',r,q⟩=>⟨o,H',I',r,q I'.tk⟩
theorem aJX:PO X none (wO X P n RT Y old σ .nil):=aCO aEI λσV H Q t ⟨S,h⟩ t'=>by
 rcases(show([]:List Vl)=[]/\_\/_ from h) with⟨_,q⟩|⟨v,i,e,_⟩
 . exact q H t' (aU.refl H)
 . cases e
theorem aJY{c:E}{e:Expr}(ha:PE X e (WE X P n RT Y old σ c)):PO X (some e) (wO X P n RT Y old σ (.cons c .nil)):=by
 refine aCO (aEJ ha) λσV H Q t ⟨S,h⟩=>?_
 have h:=RE.bind' (show RE (ev P (call P n) σ c >>= λx=>evs P (call P n) σ .nil >>= λxs=>R.ok (x::xs)) _ from h)
 refine wE.one S h λx u H1 hx t1 S1 r1=>?_
 rcases(show([x]:List Vl)=[]/\_\/∃v i,([x]:List Vl)=[v]/\_/\_ from hx) with⟨e,_⟩|⟨v,i,e,hd,q⟩
 . cases e
 . cases e
   exact⟨i,(r1.rv S).int hd,λt'=>q _ t' r1.1⟩
theorem aJZ{a:E}{lo hi:Es}{ea:Expr}{el eh:Option Expr}{p2:Pos}(ha:PE X ea (WE X P n RT Y old σ a))(hl:PO X el (wO X P n RT Y old σ lo))(hh:PO X eh (wO X P n RT Y old σ hi)) :
 PE X (.Subscript ea (.Slice el eh none p2) pos) (WE X P n RT Y old σ (.sli a lo hi)):=by
 refine(aCr (aHl (X:=X)) ha hl hh).imp λσV H Q t ⟨S,h⟩=>?_
 have h:=RE.bind' (show RE (ev P (call P n) σ a >>= λx=>evs P (call P n) σ lo >>= λl=>evs P (call P n) σ hi >>= λh=>(match l,h with
  | [],[]=>eG x none none
  | [l],[]=>(match l.d with|.int l=>R.iff (aL l) (eG x (some l) none)|_=>.bad)
  | [],[h]=>(match h.d with|.int h=>R.iff (aL h) (eG x none (some h))|_=>.bad)
  | [l],[h]=>(match l.d,h.d with|.int l,.int h=>R.iff (aL l&&aL h) (eG x (some l) (some h))|_,_=>.bad)
  | _,_=>.bad)) _ from h)
 refine wE.one S h λx u H1 hx t1 S1 r1=>?_
 have hx:=RE.bind' hx
 refine⟨S1,hx.mono λl hl=>?_⟩
 have hl:=RE.bind' hl
 have up:∀(L:Option Int) (H2:Hp),Tk X.K H2->aU H1 H2->(RE (evs P (call P n) σ hi) λh=>(h=[]/\RE (eG x L none) (Wn X RT Y old σ σV H Q))\/∃v i,h=[v]/\v.d=.int i/\RE (eG x L (some i)) (Wn X RT Y old σ σV H Q)) ->
  wO X P n RT Y old σ hi σV H2 λhv H3=>aCu X.K u L hv H3 (λv H'=>Tk X.K H'->Q v H')\/aCs X.K u L hv H3 (λv H'=>Tk X.K H'->Q v H')\/vN X.K u L hv H3 (λv H'=>Tk X.K H'->Q v H')\/aCD u L hv H3 (λv H'=>Tk X.K H'->Q v H'):=by
  intro L H2 t2 s2 hh
  refine⟨S1.grow s2 t2,hh.mono λhv hq=>?_⟩
  have fin:∀(U:Option Int) (H3:Hp),Tk X.K H3->aU H2 H3->RE (eG x L U) (Wn X RT Y old σ σV H Q) ->
   aCu X.K u L U H3 (λv H'=>Tk X.K H'->Q v H')\/aCs X.K u L U H3 (λv H'=>Tk X.K H'->Q v H')\/vN X.K u L U H3 (λv H'=>Tk X.K H'->Q v H')\/aCD u L U H3 (λv H'=>Tk X.K H'->Q v H'):=λU H3 t3 s3 hs=>
   aBh (S1.grow (s2.trans s3) t3) t3 ((r1.rv S).grow (s2.trans s3)) (hs.mono λv hv u H' t r=>hv u H' t (r.from (r1.1.trans (s2.trans s3))))
  rcases hq with⟨e,hs⟩|⟨v,i,e,hd,hs⟩
  . exact .inl ⟨e,λH3 t3 s3=>fin none H3 t3 s3 hs⟩
  . exact .inr ⟨v,i,e,hd,λH3 t3 s3=>fin (some i) H3 t3 s3 hs⟩
 match l,hl with
 | [],hl=>
  refine .inl ⟨rfl,λH2 t2 s2=>up none H2 t2 s2 (hl.mono λh hh=>?_)⟩
  match h,hh with
  | [],hh=>exact .inl ⟨rfl,hh⟩
  | [h],hh=>
   have hh:RE (match h.d with|.int h=>R.iff (aL h) (eG x none (some h))|_=>.bad) _:=hh
   split at hh
   . rename_i i hd
     exact .inr ⟨h,i,rfl,hd,hh.iff.2⟩
   . exact hh.elim
  | _::_::_,hh=>exact hh.elim
 | [l],hl=>
  have hd:∃i,l.d=.int i:=by
   obtain⟨h,_,hh⟩:=hl.eq
   match h,hh with
   | [],hh=>
    have hh:RE (match l.d with|.int l=>R.iff (aL l) (eG x (some l) none)|_=>.bad) _:=hh
    split at hh
    . rename_i i hd;exact⟨i,hd⟩
    . exact hh.elim
   | [h],hh=>
    have hh:RE (match l.d,h.d with|.int l,.int h=>R.iff (aL l&&aL h) (eG x (some l) (some h))|_,_=>.bad) _:=hh
    split at hh
    . rename_i i j hd _;exact⟨i,hd⟩
    . exact hh.elim
   | _::_::_,hh=>exact hh.elim
  obtain⟨i,hd⟩:=hd
  refine .inr ⟨l,i,rfl,hd,λH2 t2 s2=>up (some i) H2 t2 s2 (hl.mono λh hh=>?_)⟩
  match h,hh with
  | [],hh=>
   have hh:RE (match l.d with|.int l=>R.iff (aL l) (eG x (some l) none)|_=>.bad) _:=hh
   rw[hd] at hh
   exact .inl ⟨rfl,hh.iff.2⟩
  | [h],hh=>
   have hh:RE (match l.d,h.d with|.int l,.int h=>R.iff (aL l&&aL h) (eG x (some l) (some h))|_,_=>.bad) _:=hh
   rw[hd] at hh
   split at hh
   . rename_i i' j e1 e2
     cases e1
     exact .inr ⟨h,j,rfl,e2,hh.iff.2⟩
   . exact hh.elim
  | _::_::_,hh=>exact hh.elim
 | _::_::_,hl=>exact(by
     obtain⟨h,_,hh⟩:=hl.eq
     match h,hh with
     | [],hh=>exact hh.elim
     | [_],hh=>exact hh.elim
     | _::_::_,hh=>exact hh.elim)
end
end Hp
end
noncomputable section
namespace L2
open PySem PySem.Spec PyProof.Rows
set_option maxRecDepth 100000
instance:LawfulBEq Key where
 eq_of_beq:=λ{a b} h=>by
  cases a with
  | inl x=>cases b with
   | inl y=>exact congrArg Sum.inl (eq_of_beq (show(x==y)=true from h))
   | inr y=>cases h
  | inr x=>cases b with
   | inl y=>cases h
   | inr y=>exact congrArg Sum.inr (eq_of_beq (show(x==y)=true from h))
 rfl:=λ{a}=>by
  cases a with
  | inl x=>exact(beq_self_eq_true x:(x==x)=true)
  | inr x=>exact(beq_self_eq_true x:(x==x)=true)
def lH(σ:List Key)(v:Key):List Key:=if σ.any (·==v) then σ else σ++[v]
def dX(ks:List Key):List Key:=ks.foldl lH []
theorem nM(ks:List Key)(k:Key):dX (ks++[k])=lH (dX ks) k:=by unfold dX;rw[List.foldl_append];rfl
theorem aBm(σ:List Key)(v k:Key):(lH σ v).any (·==k)=(σ.any (·==k)||decide (k=v)):=by
 unfold lH
 by_cases h:σ.any (·==v)=true
 . rw[if_pos h]
   by_cases e:k=v
   . subst e;rw[h];simp
   . simp[e]
 . rw[if_neg h,List.any_append]
   by_cases e:k=v
   . subst e;simp
   . have hb:(v==k)=false:=by
      cases q:v==k with
      | false=>rfl
      | true=>exact absurd (eq_of_beq q).symm e
     simp[hb,e]
theorem rS(σ:List Key)(v:Key):(lH σ v).length=if σ.any (·==v)=true then σ.length else σ.length+1:=by
 unfold lH
 split <;> simp
theorem rT:∀(ks:List Key) (σ:List Key),(ks.foldl lH σ).length<=σ.length+ks.length
 | [],σ=>by simp
 | k::ks,σ=>by
  have h1:=rT ks (lH σ k)
  have h2:(lH σ k).length<=σ.length+1:=by
   rw[rS]
   split <;> omega
  rw[List.foldl_cons,lC]
  omega
def aCP(prog:Program)(w:World)(vs:List Value)(ks:List Key):Prop:=Paired (λv k=>(bS prog w).is k v=true) vs ks
theorem aCP.get{prog:Program}{w:World}:∀{vs:List Value} {ks:List Key},aCP prog w vs ks->∀{i:Nat} {v:Value},vs[i]? = some v->∃k,ks[i]? = some k/\(bS prog w).is k v=true
 | _,_,.nil,_,_,h=>by simp at h
 | _,_,.cons r _,0,_,h=>by simp at h;subst h;exact⟨_,rfl,r⟩
 | _,_,.cons _ t,i+1,v,h=>by
  obtain⟨k,h1,h2⟩:=aCP.get t (i:=i) (v:=v) (by simpa using h)
  exact⟨k,by simpa using h1,h2⟩
theorem aFb{prog:Program}{w:World}{k:Key}{v:Value}(h:(bS prog w).is k v=true):v.scannable=true:=by
 rcases keyIs_shape h with⟨i,t,rfl,rfl⟩|⟨x,t,rfl,rfl⟩ <;> rfl
section
variable {prog:Program} {w:World} {A:Around} {R:Result->Shared->Prop} {I:Addr} {fp wr:List Addr} {G:Array GenState->Array GenState->Prop} {n:Nat} {P:Nat->Value->Prop} {St:Nat->Shared->Prop}
theorem aBn(W:WalksS prog w A.in1 I fp wr G n P St)(S:Addr)(hSf:S∉fp)(ks:List Key)(hval:∀i v,P i v->∃k,ks[i]? = some k/\(bS prog w).is k v=true)(hn:ks.length=n)(hb:n+1<scanBound) :
 ∀(m i:Nat) (s:Shared),n-i=m->i<=n->St i s ->
  s.heap.SetOf (bS prog w) S (λk'=>(dX (ks.take i)).any (·==k')) (dX (ks.take i)).length ->
  (∀s',Moved (S::wr) G s s'->s'.heap.SetOf (bS prog w) S (λk'=>(dX ks).any (·==k')) (dX ks).length->R (.ok (.ret .none)) s') ->
  codeAny (model prog w) A (.builtin "set.update.loop" ⟨[.ref S,.ref I],[]⟩) R s:=by
 have nw:S∉wr:=λh=>hSf (W.sub _ h)
 have sb:∀b∈wr,b∈S::wr:=λb hb=>List.mem_cons_of_mem _ hb
 have stay:∀{s s':Shared} {T:Key->Bool} {c:Nat},Moved wr G s s'->s.heap.SetOf (bS prog w) S T c->s'.heap.SetOf (bS prog w) S T c:=λhm hS=>by
  obtain⟨o,es,ep,t,ho,rest⟩:=hS
  exact⟨o,es,ep,t,hm.heap S _ nw ho,rest⟩
 intro m
 induction m with
 | zero=>
  intro i s hk hi hst hS hR
  obtain rfl:i=n:=by omega
  refine codeAny_builtin PyProof.Rows.F.entry_set_update_loop ?_
  rw[Around.under_plainId PyProof.Rows.F.plain_set_update_loop _]
  show wpAny _ A.in1 (pyNext (.ref I) >>= _) _ _ s
  refine wpAny_bind (W.done s _ _ hst λs' hm=>?_)
  show wpAny _ A.in1 (ret Value.none) _ _ s'
  rw[List.take_of_length_le (by omega)] at hS
  exact wpAny_pure (hR s' (hm.mono sb) (stay hm hS))
 | succ m ih=>
  intro i s hk hi hst hS hR
  have hlt:i<n:=by omega
  refine codeAny_builtin PyProof.Rows.F.entry_set_update_loop ?_
  rw[Around.under_plainId PyProof.Rows.F.plain_set_update_loop _]
  show wpAny _ A.in1 (pyNext (.ref I) >>= _) _ _ s
  refine wpAny_bind (W.item i s _ _ hlt hst λv s' hP hst' hm=>?_)
  obtain⟨k,hk1,hk2⟩:=hval i v hP
  have hS':=stay hm hS
  have htk:ks.take (i+1)=ks.take i++[k]:=by
   rw[List.take_succ,hk1];rfl
  show wpAny _ A.in1 (holding [v] (setAdd S v) >>= _) _ _ s'
  refine wpAny_bind (wpAny_holding ?_)
  unfold setAdd
  refine wpAny_holding ?_
  have hroom:(dX (ks.take i)).length+1<scanBound:=by
   have h1:=rT (ks.take i) []
   have h2:(ks.take i).length<=i:=by rw[List.length_take];omega
   unfold dX
   simp only[lN] at h1
   omega
  refine wpAny_bind ((bS prog w).pyHash hk2 ?_)
  refine wpAny_setAddHashed_of (knd:=bS prog w) (s:={ s' with toks:=s'.toks+1 }) hk2 (aFb hk2) hS' hroom λh' hsb hS2=>?_
  have hSi:h'.SetOf (bS prog w) S (λk'=>(dX (ks.take (i+1))).any (·==k')) (dX (ks.take (i+1))).length:=
   SetOf_congr hS2 (λk'=>by rw[htk,nM,aBm]) (by rw[htk,nM,rS])
  refine wpAny_pure ⟨plainId_quiet PyProof.Rows.F.plain_set_update_loop _,ih (i+1) _ (by omega) hlt (W.frame _ s' _ _ hst' (Nat.le_succ _) λb hb o e=>?_) hSi λs'' hm'' hS''=>?_⟩
  . rw[hsb.2 b λh:b=S=>hSf (by rw[<-h];exact hb)];exact e
  . refine hR s'' (Moved.trans W.gtrans ((hm.mono sb).then_heap (Nat.le_succ _) λb o hb e=>?_) hm'') hS''
    rw[hsb.2 b λh:b=S=>hb (by rw[h];exact List.mem_cons_self)];exact e
end
section
variable {prog:Program} {w:World} {A:Around} {E:Value->Shared->Prop} {s:Shared}
set_option maxHeartbeats 3200000 in
theorem aBo{l:Addr}{items:Array Value}{ks:List Key}{Q:Value->Shared->Prop}(hh:A.handled=none)(hl:s.heap.IsList l items)(hi:aCP prog w items.toList ks)(hn:ks.length=items.size)(hb:items.size+1<scanBound)
 (h:∀(h':Heap) (tk:Nat),h'.SetOf (bS prog w) s.heap.objs.size (λk'=>(dX ks).any (·==k')) (dX ks).length ->
  (∀b o,b<s.heap.objs.size->s.heap.get? b=some o->h'.get? b=some o)->Q (.ref s.heap.objs.size) { s with heap:=h',toks:=tk }) :
 wpAny (model prog w) A (call (.type "set") [.ref l]) Q E s:=by
 obtain⟨c,tl,hmro⟩:=PySem.F.called_set.mro
 have hmade:=PySem.F.called_set.made
 have hsub:=PySem.F.called_set.sub
 refine wpAny_call (codeAny_of_tree ?_)
 show wpAny _ _ (callAny (.type "set") _) _ _ _
 refine wpAny_pure ⟨Code.quiet_builtin _ (by decide +kernel),codeAny_builtin F.entry_type_call ?_⟩
 rw[Around.under_plain (weight_type_call_type "set" [.ref l] []) rfl]
 have h1:=PySem.F.called_set.notType
 have h2:=PySem.F.called_set.canCreate
 have hct:=PySem.F.typeCall_set_1 (.ref l)
 repeat (any_goals (first|assumption|wp_step))
 refine codeAny_mono (code_set_new_1 (.ref l) (E:=E) (Q₁:=λobj s₁=>∃led:Bool,obj=.ref s.heap.objs.size/\s₁={ s with heap:=s.heap.push { cls:=.type "set",dict:=none,data:=.set #[] 0 (.fresh 0 0 led) } }) λled=>⟨led,rfl,rfl⟩) λr s₁ hr=>?_
 cases r with
 | error e=>exact hr
 | ok fl=>
  cases fl with
  | ret obj=>
   obtain⟨led,rfl,rfl⟩:=hr
   have hS:(s.heap.push { cls:=.type "set",dict:=none,data:=.set #[] 0 (.fresh 0 0 led) }).get? s.heap.objs.size=some { cls:=.type "set",dict:=none,data:=.set #[] 0 (.fresh 0 0 led) }:=Heap.get?_push_size _ rfl
   have hT:Shared.TypeIs { s with heap:=s.heap.push { cls:=.type "set",dict:=none,data:=.set #[] 0 (.fresh 0 0 led) } } (.ref s.heap.objs.size) "set" := ⟨_,hS,rfl⟩
   have hli:=PySem.F.called_set.init.lookup
   have hbi:=PySem.F.called_set.init.bind (.ref s.heap.objs.size)
   repeat (any_goals (first|assumption|wp_step))
   refine codeAny_mono (codeAny_call_builtin (R:=wants (λr s₂=>r=.none/\∃h' tk,s₂={ s with heap:=h',toks:=tk } /\
    h'.SetOf (bS prog w) s.heap.objs.size (λk'=>(dX ks).any (·==k')) (dX ks).length /\
    (∀b o,b<s.heap.objs.size->s.heap.get? b=some o->h'.get? b=some o)) E) PySem.F.called_set.init.plain F.entry_set_init (check_set_init_1 hT ?_)) λr₂ s₂ hr₂=>?_
   . obtain⟨ol,hol,hcl,nl,hdl⟩:=hl
     obtain⟨ocls,odict,odata,oslots⟩:=ol
     simp only at hcl hdl
     subst hcl;subst hdl
     have hol':(s.heap.push { cls:=.type "set",dict:=none,data:=.set #[] 0 (.fresh 0 0 led) }).get? l=some { cls:=.type "list",dict:=odict,data:=.seq items nl,slots:=oslots }:=Heap.get?_push_of_some _ hol
     have hsls:=PySem.F.sub_list_set
     have hslf:=PySem.F.sub_list_frozenset
     have hne:(Value.type "list" == Value.type "dict")=false:=by decide
     have hl1:(s.heap.push { cls:=.type "set",dict:=none,data:=.set #[] 0 (.fresh 0 0 led) }).IsList l items:=⟨_,hol',rfl,nl,rfl⟩
     unfold Builtin.«set.__init__» noKeywords Builtin.Frozenset.updateFrom
     generalize hPI:pyIter=PI
     wp_walk
     subst hPI
     refine wpAny_pyIter_list hl1 ?_
     refine wpAny_bind (wpAny_runValue ?_)
     have hlS:l<s.heap.objs.size:=Heap.lt_size hol
     have hh3:A.in1.in1.in1.handled=none:=by simp[hh]
     have hsz:(s.heap.push { cls:=.type "set",dict:=none,data:=.set #[] 0 (.fresh 0 0 led) }).objs.size=s.heap.objs.size+1:=Heap.size_push _ _
     refine aBn ((Walks.list hh3 _ l (by rw[hsz];exact Nat.ne_of_lt (Nat.lt_succ_of_lt hlS)) items).toS) s.heap.objs.size
      (by
       rw[hsz]
       intro z
       rcases List.mem_cons.mp z with q|q
       . exact absurd q (Nat.ne_of_lt (Nat.lt_succ_self _))
       . exact absurd (List.mem_singleton.mp q) (Nat.ne_of_gt hlS)) ks
      (λi v hv=>hi.get (by rw[Array.getElem?_toList];exact hv)) hn hb (items.size-0) 0 _ (by omega) (Nat.zero_le _)
      ⟨⟨_,Heap.get?_push_size _ rfl,rfl,rfl⟩,(hl1.push _)⟩ ?hS0 ?hR
     case hS0=>
      have hget:((s.heap.push { cls:=.type "set",dict:=none,data:=.set #[] 0 (.fresh 0 0 led) }).push { cls:=.type "list_iterator",data:=.fields #[.ref l,.int 0 0] }).get? s.heap.objs.size
       = some { cls:=.type "set",dict:=none,data:=.set #[] 0 (.fresh 0 0 led) }:=Heap.get?_push_of_some _ hS
      exact SetOf_congr ((setObjOf_fresh (knd:=bS prog w) led).setOf hget (by unfold scanBound;omega)) (λ_=>rfl) rfl
     case hR=>
      intro s' hm hS'
      obtain⟨h',g',d',tk',os'⟩:=s'
      have eg:g'=s.gens:=hm.gens
      have ed:d'=s.drawn:=hm.drawn
      have eo:os'=s.os:=hm.os
      subst eg;subst ed;subst eo
      show wpAny _ _ _ _ _ _
      refine wpAny_pure ?_
      show wpAny _ _ (ret Value.none) _ _ _
      refine wpAny_pure ⟨rfl,h',tk',rfl,hS',λb o hb e=>?_⟩
      refine hm.heap b o ?_ (Heap.get?_push_of_some _ (Heap.get?_push_of_some _ e))
      rw[hsz]
      intro z
      rcases List.mem_cons.mp z with q|q
      . exact absurd q (Nat.ne_of_lt hb)
      . exact absurd (List.mem_singleton.mp q) (Nat.ne_of_lt (Nat.lt_succ_of_lt hb))
   . cases r₂ with
     | error e=>exact hr₂
     | ok fl₂=>
      cases fl₂ with
      | ret r=>
       obtain⟨rfl,h',tk,rfl,hS',hk'⟩:=hr₂
       repeat (any_goals (first|assumption|wp_step))
       exact h _ _ hS' hk'
      | next=>exact hr₂
      | brk=>exact hr₂
      | cont=>exact hr₂
  | next=>exact hr
  | brk=>exact hr
  | cont=>exact hr
end
end L2
end
noncomputable section
namespace Hp
open PySem PySem.Spec PyProof.Rows L2
section
variable {X:Cx} {P:Pg} {Γ:Ct} {n:Nat} {RT Y old:Addr->Prop} {σ:Sg} {pos:Pos} {K:Fg} {H:Hp}
theorem mR{prog:Program}{w:World}:∀{ds:List D} {ks:List Key} {ex:Addr->Prop} {vs:List V} {us:List Value},fT ds=some ks->Reps K H ex ds vs->bC vs us->aCP prog w us ks/\ks.length=ds.length
 | [],ks,ex,vs,us,h,r,rv=>by
  cases h
  rw[show vs=[] from r] at rv
  cases rv
  exact⟨.nil,rfl⟩
 | d::ds,ks,ex,vs,us,h,r,rv=>by
  obtain⟨v,vr,e,h1,h2⟩:=r
  subst e
  cases rv with
  | cons r1 r2=>
   cases d with
   | str x=>
    unfold fT at h
    cases q:fT ds with
    | none=>rw[q] at h;cases h
    | some ys=>
     rw[q] at h
     cases h
     rw[show v=.str x from h1] at r1
     obtain⟨t,rfl⟩:=r1
     obtain⟨g1,g2⟩:=mR (prog:=prog) (w:=w) q h2 r2
     exact⟨.cons (uX prog w x t) g1,by rw[lC,lC,g2]⟩
   | int x=>
    unfold fT at h
    cases q:fT ds with
    | none=>rw[q] at h;cases h
    | some ys=>
     rw[q] at h
     cases h
     rw[show v=.int x from h1] at r1
     obtain⟨t,rfl⟩:=r1
     obtain⟨g1,g2⟩:=mR (prog:=prog) (w:=w) q h2 r2
     exact⟨.cons (uW prog w x t) g1,by rw[lC,lC,g2]⟩
   | _=>cases h
theorem aCQ(ks:List Key):oX ks=dX ks:=rfl
theorem aCR(M:Mc X P Γ n){a:E}{ea:Expr}{f g:Str}{pf pg p2:Pos}(hf:f=("len" : Str))(hg:dJ Γ f=true)(hf2:g=("set" : Str))(hg2:dJ Γ g=true)(ha:PE X ea (WE X P n RT Y old σ a))(hp:bJ ea=true) :
 PE X (.Call (.Name f pf) [.Call (.Name g pg) [ea] [] p2] [] pos) (WE X P n RT Y old σ (.numset a)):=by
 subst hf hf2
 intro pins s σV H Q I hw
 obtain⟨S,h⟩:=hw
 have h:=RE.bind' (show RE (ev P (call P n) σ a >>= λx=>(match x.d with
  | .lst ds=>(match fT ds with|some ks=>R.iff (decide (ds.length<=1000)) (R.ok (Vl.cl (.int (oX ks).length)))|none=>.bad)
  | _=>.bad)) _ from h)
 obtain⟨x,ex,h⟩:=h.eq
 cases hd:x.d with
 | lst ds=>
  rw[hd] at h
  cases hk:fT ds with
  | none=>simp only[hk] at h;exact h.elim
  | some ks=>
   simp only[hk] at h
   obtain⟨hl,h⟩:=h.iff
   have hl:=of_decide_eq_true hl
   refine wpAny_Call_Name_kw (fF I (M.gl hg) (M.md.blt _ (by decide +kernel)) PySem.boot_len ?_ (by decide +kernel) (by decide +kernel))
   refine PyProof.Rows.callWith_builtin1 ?_ (aE (e:=.Call (.Name "set" pg) [ea] [] p2) (es:=[]) rfl) rfl
   rw[aE (e:=.Call (.Name "set" pg) [ea] [] p2) (es:=[]) rfl]
   show wpAny _ _ (spliced ((false,eval (.Call (.Name "set" pg) [ea] [] p2) X.env)::backTo pos (starEach [] X.env))) _ _ s
   refine Calls.spliced_cons (wpAny_Call_Name_kw (fF I (M.gl hg2) (M.md.blt _ (by decide +kernel)) (show bootBuiltins "set" = some (.type "set") by kernel_rfl) ?_ (by decide +kernel) (by decide +kernel)))
   refine PyProof.Rows.callWith_type1 (thn (jN (es:=[]) ha mL (aE hp) p2 pins s σV H (λus H1=>∃u,us=[u]/\Tk X.K H1/\Ro X.K RT Y old σ σV H H1 x u) I ⟨S,?_⟩) λus s1 ⟨vs,H1,I1,r1,u,e1,t1,ro⟩=>?_) (aE hp) rfl
   . rw[ex]
     intro u H1 t1 ro
     exact⟨u,rfl,t1,ro⟩
   . subst e1
     obtain⟨u',rfl,ru⟩:=r1.one
     obtain⟨b,xs,rfl,hS,_,rr⟩:=(ro.rv S).lst hd
     cases ru
     obtain⟨its,r2,p,_⟩:=I1.list hS
     obtain⟨hK,hKl⟩:=mR (prog:=X.prog) (w:=X.w) hk rr r2
     have l1:=rr.length
     have l2:=r2.length
     refine aBo (I1.ok.hd M.calm) p.isList (by simpa using hK) (by rw[List.size_toArray];omega) (by rw[List.size_toArray];unfold scanBound;omega) λh' tk hset hkeep=>?_
     have I2:L2.Inv X pins σV H1 { s1 with heap:=h',toks:=tk }:=I1.kept λb o e=>hkeep b o (Heap.lt_size e) e
     refine Calls.spliced_nil ?_
     obtain⟨o,es,ep,tb,ho,hex,hdt,_,_,hb,hfit,hn⟩:=hset
     have hsz:((es.size:Nat):Int)<2 ^ 63:=by unfold scanBound at hb;omega
     refine PySem.call_len_set ho hex hdt hfit hsz ?_
     refine⟨.int es.size,H1,I2.tok _,⟨_,rfl⟩,?_⟩
     rw[hn,<-aCQ]
     exact(show Wn X RT Y old σ σV H Q (Vl.cl (.int (oX ks).length)) from h) _ _ t1 (Ro.cl ro.1 rfl)
 | _=>rw[hd] at h;exact h.elim
end
end Hp
end
noncomputable section
namespace L2
open PySem PySem.Spec PyProof.Rows
section
variable {X:Cx} {pins:List (Addr×Obj)} {σ:St} {H:Hp} {s:Shared} {h':Heap}
theorem Inv.turnsNew{its:List Addr}{T:Addr}{o:HO}{t':Nat}(I:Inv X pins σ H s)(f:∀b∈its,kZ X pins H b)(k:∀b o,b∉its->s.heap.get? b=some o->h'.get? b=some o)(there:∀b∈its,∃o,h'.get? b=some o)
 (hT:s.heap.objs.size<=T) (new:fC X.prog X.w (upd H T o) h' T o):Inv X pins σ (upd H T o) { s with heap:=h',toks:=t' }:=by
 have nit:∀b u,H b=some u->b∉its:=λb u e z=>by rw[(f b z).1] at e;cases e
 have hn:H T=none:=I.hok.fresh hT
 have neT:∀b o,s.heap.get? b=some o->b≠T:=λb o e=>Nat.ne_of_lt (Nat.lt_of_lt_of_le (Heap.lt_size e) hT)
 refine I.step (g':=s.gens) (d':=s.drawn) (ch:=its) (λb hb=>?_) (λb o _ _ hc e _=>k b o hc e) (λb o _ _ hc e _=>⟨o.slots,k b o hc e⟩) (λb o _ e n=>by rw[aV (neT b o e)];exact n)
  (λb o hc e=>⟨o,k b o hc e⟩) (λb xs e=>by rw[aV (bP e hn)];exact e) (λb o u e=>by rw[aV (bP e hn)];exact e) (λb ps e=>⟨#[],by rw[aV (bP e hn),e];simp⟩) (λm hm=>?_) (λb u e=>?_) I.bare
 . obtain⟨_,f1,f2,f3,f4,f5⟩:=f b hb
   exact⟨f3,f1,f4,f5⟩
 . obtain⟨o,es,ep,ho,r⟩:=hm
   exact⟨o,es,ep,k _ o (λz=>(f _ z).2.1 rfl) ho,r⟩
 . by_cases hb:b=T
   . subst hb
     rw[cU] at e
     cases e
     exact new
   . rw[aV hb] at e
     refine(I.hok b u e).stay (λc v hc q=>k c v ?_ q) (λc q=>by rw[aV (bP q hn)];exact q) λc xs q=>by rw[aV (bP q hn)];exact q
     rcases hc with z|z
     . rw[z];exact nit b u e
     . exact nit c _ z
theorem Inv.turns{its:List Addr}{t':Nat}(I:Inv X pins σ H s)(f:∀b∈its,kZ X pins H b)(k:∀b o,b∉its->s.heap.get? b=some o->h'.get? b=some o):Inv X pins σ H { s with heap:=h',toks:=t' }:=by
 have nit:∀b u,H b=some u->b∉its:=λb u e z=>by rw[(f b z).1] at e;cases e
 refine I.step (g':=s.gens) (d':=s.drawn) (ch:=its) (λb hb=>?_) (λb o _ _ hc e _=>k b o hc e) (λb o _ _ hc e _=>⟨o.slots,k b o hc e⟩) (λb o _ e n=>n)
  (λb o hc e=>⟨o,k b o hc e⟩) (λb xs e=>e) (λb o u e=>e) (λb ps e=>⟨#[],by rw[e];simp⟩) (λm hm=>?_) (λb u e=>?_) I.bare
 . obtain⟨_,f1,f2,f3,f4,f5⟩:=f b hb
   exact⟨f3,f1,f4,f5⟩
 . obtain⟨o,es,ep,ho,r⟩:=hm
   exact⟨o,es,ep,k _ o (λz=>(f _ z).2.1 rfl) ho,r⟩
 . refine(I.hok b u e).stay (λc v hc q=>k c v ?_ q) (λc q=>q) λc xs q=>q
   rcases hc with z|z
   . rw[z];exact nit b u e
   . exact nit c _ z
theorem Inv.newK(I:Inv X pins σ H s):X.K.lookup s.heap.objs.size=none:=by
 cases q:X.K.lookup s.heap.objs.size with
 | none=>rfl
 | some o=>exact absurd (Heap.lt_size (I.bk _ o (I.ok.mod.kin _ o q))) (Nat.lt_irrefl _)
def Sq(k:Bool)(K:PySem.W.Frag)(H:Hp)(a:Addr)(xs:List V):Prop:=match k with
 | true=>SqL K H a xs
 | false=>SqT K H a xs
def eZ(k:Bool)(h:Heap)(a:Addr)(its:Array Value):Prop:=match k with
 | true=>h.IsList a its
 | false=>h.IsTuple a its
def dD(k:Bool)(h:Heap)(it a:Addr)(i:Nat):Prop:=match k with
 | true=>h.IsListIter it a i
 | false=>h.IsTupleIter it a i
theorem eZ.at{k:Bool}{h:Heap}{a:Addr}{its:Array Value}(q:eZ k h a its)(e:∀o,h.get? a=some o->h'.get? a=some o):eZ k h' a its:=by
 cases k with
 | true=>exact Heap.IsList.at q e
 | false=>exact Heap.IsTuple.at q e
theorem dD.at{k:Bool}{h:Heap}{a it:Addr}{i:Nat}(q:dD k h it a i)(e:∀o,h.get? it=some o->h'.get? it=some o):dD k h' it a i:=by
 cases k with
 | true=>exact Heap.IsListIter.at q e
 | false=>exact Heap.IsTupleIter.at q e
theorem dD.obj{k:Bool}{h:Heap}{a it:Addr}{i:Nat}(q:dD k h it a i):∃o,h.get? it=some o/\∀v,o.data≠.cell v:=by
 cases k with
 | true=>obtain⟨o,e,c,d⟩:=q;exact⟨o,e,λv z=>by rw[d] at z;cases z⟩
 | false=>obtain⟨o,e,c,d⟩:=q;exact⟨o,e,λv z=>by rw[d] at z;cases z⟩
theorem Inv.sq{k:Bool}{a:Addr}{xs:List V}(I:Inv X pins σ H s)(h:Sq k X.K H a xs):∃its:List Value,bC xs its/\eZ k s.heap a its.toArray/\xs.length<=sizeLine:=by
 cases k with
 | true=>obtain⟨its,r,p,z⟩:=I.list h;exact⟨its,r,p.isList,z⟩
 | false=>obtain⟨its,r,p,z⟩:=I.tuple h;exact⟨its,r,p,z⟩
theorem Inv.sq_inj{k:Bool}{a:Addr}{xs ys:List V}(I:Inv X pins σ H s)(h:Sq k X.K H a xs)(h':Sq k X.K H a ys):xs=ys:=by
 cases k with
 | true=>exact I.list_inj h h'
 | false=>exact I.tuple_inj h h'
theorem Sq.there{k:Bool}{K:PySem.W.Frag}{a:Addr}{xs:List V}(h:Sq k K H a xs):H a≠none\/∃o,K.lookup a=some o:=by
 cases k with
 | true=>
  rcases h with(h|⟨o,h⟩)|⟨o,its,n,q,_⟩
  . exact .inl (by rw[h];simp)
  . exact .inl (by rw[h];simp)
  . exact .inr ⟨_,q⟩
 | false=>
  rcases h with(h|⟨o,h⟩)|⟨o,its,n,q,_⟩
  . exact .inl (by rw[h];simp)
  . exact .inl (by rw[h];simp)
  . exact .inr ⟨_,q⟩
theorem Inv.sqNe{k:Bool}{a b:Addr}{xs:List V}(I:Inv X pins σ H s)(h:Sq k X.K H a xs)(f:kZ X pins H b):a≠b:=by
 intro e
 subst e
 rcases h.there with z|⟨o,z⟩
 . exact z f.1
 . have hb:=I.ok.mod.kin a o z
   rcases f.2.2.2.1 with q|q
   . exact I.ok.noex a o hb q
   . exact absurd (Nat.lt_of_lt_of_le (Heap.lt_size hb) (Nat.le_trans I.ok.bsz q)) (Nat.lt_irrefl _)
end
section
variable {prog:Program} {w:World} {A:Around} {E:Value->Shared->Prop} {s:Shared}
theorem lI{it l:Addr}{i:Nat}{items}{x:Value}{Q:Value->Shared->Prop}(hit:s.heap.IsTupleIter it l i)
 (hl:s.heap.IsTuple l items) (hx:items[i]? = some x)
 (hQ:∀h',h'.IsTupleIter it l (i+1)->Heap.SameBut it s.heap h'->Q x { s with heap:=h' }) :
 wpAny (model prog w) A (Builtin.SmallTypes.nextOf (.ref it)) Q E s:=by
 obtain⟨o,ho,hc,hd⟩:=id hit
 obtain⟨ol,hol,_,nl,hdl⟩:=hl
 unfold Builtin.SmallTypes.nextOf
 refine wpAny_bind (wpAny_callSpecial?_slot (name:=Str.ofString "__next__") hit.typeIs F.slot_tuple_iterator_next
  (wpAny_call_entry F.slot_tuple_iterator_next hit.typeIs F.entry_tuple_iterator_next ?_ (F.args_tuple_iterator_next_1 _)))
 show wpAny _ _ (field (.ref it) 0 >>= _) _ _ s
 refine wpAny_bind (wpAny_field ho hd (x:=.ref l) rfl ?_)
 show wpAny _ _ (if (Value.ref l==Value.none)=true then _ else _) _ _ s
 rw[if_neg (show ¬ ((Value.ref l==Value.none)=true) from bN)]
 show wpAny _ _ (field (.ref it) 1 >>= _) _ _ s
 refine wpAny_bind (wpAny_field ho hd (x:=.int i 0) rfl ?_)
 show wpAny _ _ (seqItems? (.ref l) >>= _) _ _ s
 refine wpAny_bind (wpAny_seqItems hol hdl ?_)
 simp only[Int.toNat_natCast,hx]
 refine wpAny_bind (wpAny_setField ho hd (by simp) (wpAny_pure ⟨x,rfl,wpAny_pure (hQ _ ?_ (Heap.SameBut.update ..))⟩))
 exact⟨_,Heap.get?_update_self _ ho (Obj.isFreed_of_fields (Obj.data_mapFields hd _)),(Obj.cls_mapFields ..).trans hc,by
  rw[Obj.data_mapFields hd];simp[rawInt]⟩
theorem mS{it l:Addr}{i:Nat}{items}{Q:Value->Shared->Prop}(hh:A.handled=none)
 (hit:s.heap.IsTupleIter it l i) (hl:s.heap.IsTuple l items) (hx:items[i]? = none)
 (hE:∀h' e,Heap.ExtBut it s.heap h'->(∃o,h'.get? e=some o/\o.cls=.type "StopIteration")->E (.ref e) { s with heap:=h' }) :
 wpAny (model prog w) A (Builtin.SmallTypes.nextOf (.ref it)) Q E s:=by
 obtain⟨o,ho,hc,hd⟩:=id hit
 obtain⟨ol,hol,_,nl,hdl⟩:=hl
 unfold Builtin.SmallTypes.nextOf
 refine wpAny_bind (wpAny_callSpecial?_slot (name:=Str.ofString "__next__") hit.typeIs F.slot_tuple_iterator_next
  (wpAny_call_entry F.slot_tuple_iterator_next hit.typeIs F.entry_tuple_iterator_next ?_ (F.args_tuple_iterator_next_1 _)))
 show wpAny _ _ (field (.ref it) 0 >>= _) _ _ s
 refine wpAny_bind (wpAny_field ho hd (x:=.ref l) rfl ?_)
 show wpAny _ _ (if (Value.ref l==Value.none)=true then _ else _) _ _ s
 rw[if_neg (show ¬ ((Value.ref l==Value.none)=true) from bN)]
 show wpAny _ _ (field (.ref it) 1 >>= _) _ _ s
 refine wpAny_bind (wpAny_field ho hd (x:=.int i 0) rfl ?_)
 show wpAny _ _ (seqItems? (.ref l) >>= _) _ _ s
 refine wpAny_bind (wpAny_seqItems hol hdl ?_)
 simp only[Int.toNat_natCast,hx]
 refine wpAny_bind (wpAny_rule (wpAny_bind (wpAny_setField ho hd (by simp) ?_)))
 show wpAny _ _ (newExc (.type "StopIteration") [] >>= _) _ _ _
 refine wpAny_bind ?_
 simp only[newExc,newTuple]
 refine wpAny_bind (wpAny_newObj_type ?_ (by size_fits))
 refine wpAny_bind (m:=firstArgMember _ _) (wpAny_of_eq (a:=Value.none) (by first|rfl|(simp only[firstArgMember];rfl)) ?_)
 refine wpAny_newObj_type ?_ (by size_fits)
 simp only[raiseNew]
 refine wpAny_bind (wpAny_handled ?_)
 first|rw[show A.in1.handled=none from hh]|rw[hh]
 refine wpAny_bind (wpAny_pure (wpAny_throw ?_))
 exact hE _ _ (((Heap.SameBut.update ..).extBut.push _).push _) ⟨_,Heap.get?_push_size _ rfl,rfl⟩
theorem gF{k:Bool}{it l:Addr}{i:Nat}{items:Array Value}{x:Value}{Q:Value->Shared->Prop}(hit:dD k s.heap it l i)(hl:eZ k s.heap l items)(hx:items[i]? = some x)
 (hQ:∀h',dD k h' it l (i+1)->Heap.SameBut it s.heap h'->Q x { s with heap:=h' }):wpAny (model prog w) A (Builtin.SmallTypes.nextOf (.ref it)) Q E s:=by
 cases k with
 | true=>exact wpAny_nextOf_list_item hit hl hx hQ
 | false=>exact lI hit hl hx hQ
theorem kP{k:Bool}{it l:Addr}{i:Nat}{items:Array Value}{Q:Value->Shared->Prop}(hh:A.handled=none)(hit:dD k s.heap it l i)(hl:eZ k s.heap l items)(hx:items[i]? = none)
 (hE:∀h' e,Heap.ExtBut it s.heap h'->(∃o,h'.get? e=some o/\o.cls=.type "StopIteration")->E (.ref e) { s with heap:=h' }):wpAny (model prog w) A (Builtin.SmallTypes.nextOf (.ref it)) Q E s:=by
 cases k with
 | true=>exact wpAny_nextOf_list_end hh hit hl hx hE
 | false=>exact mS hh hit hl hx hE
theorem aBp{ka kb:Bool}{z TI TO i1 i2 l1 l2:Addr}{k1 k2:Nat}{xs ys:Array Value}{x y a b:Value}{Q:Value->Shared->Prop}(D:ZipApart z TI TO i1 i2 l1 l2)
 (hz:IsZip s.heap z TI TO .none) (hTI:IsPair s.heap TI (.ref i1) (.ref i2)) (hTO:IsPair s.heap TO a b)
 (h1:dD ka s.heap i1 l1 k1) (h2:dD kb s.heap i2 l2 k2) (hl1:eZ ka s.heap l1 xs) (hl2:eZ kb s.heap l2 ys) (hx:xs[k1]? = some x) (hy:ys[k2]? = some y)
 (hQ:∀h',IsZip h' z TI TO (rawInt s.heap.objs.size)->IsPair h' TO x y->dD ka h' i1 l1 (k1+1)->dD kb h' i2 l2 (k2+1)->IsPair h' s.heap.objs.size x y->h'.objs.size=s.heap.objs.size+1 ->
  (∀c o,c≠z->c≠TO->c≠i1->c≠i2->s.heap.get? c=some o->h'.get? c=some o)->Q (.ref s.heap.objs.size) { s with heap:=h' }) :
 wpAny (model prog w) A (Builtin.«zip.__next__» ⟨[.ref z],[]⟩) (λfin s'=>∃v,fin=.done (.ret v)/\Q v s') E s:=by
 show wpAny _ _ (field (.ref z) 2 >>= _) _ _ _
 refine wpAny_bind (wpAny_field hz rfl (x:=.bool false) rfl ?_)
 show wpAny _ _ (field (.ref z) 3 >>= _) _ _ _
 refine wpAny_bind (wpAny_field hz rfl (x:=.ref TI) rfl ?_)
 refine wpAny_bind (wpAny_seqItems hTI rfl ?_)
 show wpAny _ _ (Builtin.SmallTypes.ownedTupleIsFree (.ref z) >>= _) _ _ _
 refine wpAny_bind ?_
 unfold Builtin.SmallTypes.ownedTupleIsFree
 refine wpAny_bind (wpAny_field hz rfl (x:=.none) rfl (wpAny_pure ?_))
 simp only[if_true]
 refine wpAny_bind (wpAny_rule ?_)
 refine wpAny_bind (wpAny_field hz rfl (x:=.ref TO) rfl ?_)
 refine wpAny_bind (wpAny_setField_rec hz (by simp) λh₁ hz₁ hs₁=>?_)
 replace hz₁:IsZip h₁ z TI TO .ellipsis:=hz₁
 refine wpAny_bind ?_
 simp only[List.zipIdx_cons,List.zipIdx_nil,List.forIn_cons,List.forIn_nil]
 refine wpAny_bind (wpAny_bind (wpAny_onRaise ?_))
 show wpAny _ _ (Builtin.SmallTypes.nextOf (.ref i1) >>= _) _ _ _
 refine wpAny_bind (gF (h1.at λo e=>hs₁.extBut _ _ D.i1z e) (hl1.at λo e=>hs₁.extBut _ _ D.l1z e) hx λh₂ h1₂ hs₂=>wpAny_pure ?_)
 have hTO₂:IsPair h₂ TO a b:=hs₂.extBut _ _ D.TOi1 (hs₁.extBut _ _ D.TOz hTO)
 refine wpAny_bind (wpAny_seqItems hTO₂ rfl ?_)
 refine wpAny_bind (wpAny_updateSeq_pair hTO₂ λh₃ hTO₃ hs₃=>?_)
 replace hTO₃:IsPair h₃ TO x b:=hTO₃
 refine wpAny_bind (wpAny_letGo (wpAny_pure ?_))
 refine wpAny_bind (wpAny_bind (wpAny_onRaise ?_))
 show wpAny _ _ (Builtin.SmallTypes.nextOf (.ref i2) >>= _) _ _ _
 refine wpAny_bind (gF (h2.at λo e=>hs₃.extBut _ _ D.TOi2.symm (hs₂.extBut _ _ D.i12.symm (hs₁.extBut _ _ D.i2z e)))
  (hl2.at λo e=>hs₃.extBut _ _ D.l2TO (hs₂.extBut _ _ D.l2i1 (hs₁.extBut _ _ D.l2z e))) hy λh₄ h2₄ hs₄=>wpAny_pure ?_)
 have hTO₄:IsPair h₄ TO x b:=hs₄.extBut _ _ D.TOi2 hTO₃
 refine wpAny_bind (wpAny_seqItems hTO₄ rfl ?_)
 refine wpAny_bind (wpAny_updateSeq_pair hTO₄ λh₅ hTO₅ hs₅=>?_)
 replace hTO₅:IsPair h₅ TO x y:=hTO₅
 refine wpAny_bind (wpAny_letGo (wpAny_pure (wpAny_pure ?_)))
 refine wpAny_bind (wpAny_seqItems hTO₅ rfl ?_)
 refine wpAny_bind (wpAny_newTuple ?_)
 have hsz:h₅.objs.size=s.heap.objs.size:=by rw[hs₅.1,hs₄.1,hs₃.1,hs₂.1,hs₁.1]
 have hz₅:IsZip h₅ z TI TO .ellipsis:=hs₅.extBut _ _ D.TOz.symm (hs₄.extBut _ _ D.i2z.symm (hs₃.extBut _ _ D.TOz.symm (hs₂.extBut _ _ D.i1z.symm hz₁)))
 have hk₅:∀c o,c≠z->c≠TO->c≠i1->c≠i2->s.heap.get? c=some o->h₅.get? c=some o:=λc o c1 c2 c3 c4 e=>
  hs₅.extBut _ _ c2 (hs₄.extBut _ _ c4 (hs₃.extBut _ _ c2 (hs₂.extBut _ _ c3 (hs₁.extBut _ _ c1 e))))
 have h1₅:dD ka h₅ i1 l1 (k1+1):=h1₂.at λo e=>hs₅.extBut _ _ D.TOi1.symm (hs₄.extBut _ _ D.i12 (hs₃.extBut _ _ D.TOi1.symm e))
 have h2₅:dD kb h₅ i2 l2 (k2+1):=h2₄.at λo e=>hs₅.extBut _ _ D.TOi2.symm e
 have hzlt:z<h₅.objs.size:=Heap.lt_size hz₅
 have hTOlt:TO<h₅.objs.size:=Heap.lt_size hTO₅
 show wpAny _ _ (Builtin.SmallTypes.ownedTupleHandOut (.ref z) (.ref h₅.objs.size) >>= _) _ _ _
 refine wpAny_bind ?_
 unfold Builtin.SmallTypes.ownedTupleHandOut
 have hz₆:IsZip (h₅.push { cls:=.type "tuple",data:=.seq #[x,y] }) z TI TO .ellipsis:=Heap.get?_push_of_some _ hz₅
 refine wpAny_bind (wpAny_setField_rec hz₆ (by simp) λh₇ hz₇ hs₇=>?_)
 replace hz₇:IsZip h₇ z TI TO (rawInt h₅.objs.size):=hz₇
 refine wpAny_setField_rec hz₇ (by simp) λh₈ hz₈ hs₈=>?_
 replace hz₈:IsZip h₈ z TI TO (rawInt h₅.objs.size):=hz₈
 have up:∀c o,c≠z->h₅.get? c=some o->h₈.get? c=some o:=λc o c1 e=>hs₈.extBut _ _ c1 (hs₇.extBut _ _ c1 (Heap.get?_push_of_some _ e))
 have hT₈:IsPair h₈ h₅.objs.size x y:=hs₈.extBut _ _ (Nat.ne_of_gt hzlt) (hs₇.extBut _ _ (Nat.ne_of_gt hzlt) (Heap.get?_push_size _ rfl))
 have hz8:h₈.objs.size=h₅.objs.size+1:=by rw[hs₈.1,hs₇.1,Heap.size_push]
 rw[hsz] at hz₈ hT₈ hz8
 refine wpAny_pure ⟨_,rfl,?_⟩
 show Q (.ref h₅.objs.size) _
 rw[hsz]
 exact hQ h₈ hz₈ (up _ _ D.TOz hTO₅) (h1₅.at λo e=>up _ o D.i1z e) (h2₅.at λo e=>up _ o D.i2z e) hT₈ hz8 λc o c1 c2 c3 c4 e=>up c o c1 (hk₅ c o c1 c2 c3 c4 e)
theorem aCS{ka kb:Bool}{z TI TO i1 i2 l1 l2:Addr}{k1 k2:Nat}{xs ys:Array Value}{a b:Value}{Q:Fin->Shared->Prop}(hh:A.handled=none)(D:ZipApart z TI TO i1 i2 l1 l2)
 (hz:IsZip s.heap z TI TO .none) (hTI:IsPair s.heap TI (.ref i1) (.ref i2)) (hTO:IsPair s.heap TO a b)
 (h1:dD ka s.heap i1 l1 k1) (h2:dD kb s.heap i2 l2 k2) (hl1:eZ ka s.heap l1 xs) (hl2:eZ kb s.heap l2 ys) (hend:xs[k1]? = none\/ys[k2]? = none)
 (hE:∀h' e,(∀c o,c≠z->c≠TO->c≠i1->c≠i2->s.heap.get? c=some o->h'.get? c=some o)->(∃o,h'.get? e=some o/\o.cls=.type "StopIteration")->E (.ref e) { s with heap:=h' }) :
 wpAny (model prog w) A (Builtin.«zip.__next__» ⟨[.ref z],[]⟩) Q E s:=by
 show wpAny _ _ (field (.ref z) 2 >>= _) _ _ _
 refine wpAny_bind (wpAny_field hz rfl (x:=.bool false) rfl ?_)
 show wpAny _ _ (field (.ref z) 3 >>= _) _ _ _
 refine wpAny_bind (wpAny_field hz rfl (x:=.ref TI) rfl ?_)
 refine wpAny_bind (wpAny_seqItems hTI rfl ?_)
 show wpAny _ _ (Builtin.SmallTypes.ownedTupleIsFree (.ref z) >>= _) _ _ _
 refine wpAny_bind ?_
 unfold Builtin.SmallTypes.ownedTupleIsFree
 refine wpAny_bind (wpAny_field hz rfl (x:=.none) rfl (wpAny_pure ?_))
 simp only[if_true]
 refine wpAny_bind (wpAny_rule ?_)
 refine wpAny_bind (wpAny_field hz rfl (x:=.ref TO) rfl ?_)
 refine wpAny_bind (wpAny_setField_rec hz (by simp) λh₁ hz₁ hs₁=>?_)
 replace hz₁:IsZip h₁ z TI TO .ellipsis:=hz₁
 refine wpAny_bind ?_
 simp only[List.zipIdx_cons,List.zipIdx_nil,List.forIn_cons,List.forIn_nil]
 refine wpAny_bind (wpAny_bind (wpAny_onRaise ?_))
 show wpAny _ _ (Builtin.SmallTypes.nextOf (.ref i1) >>= _) _ _ _
 cases hx:xs[k1]? with
 | none=>
  refine wpAny_bind (kP hh (h1.at λo e=>hs₁.extBut _ _ D.i1z e) (hl1.at λo e=>hs₁.extBut _ _ D.l1z e) hx λh₂ e hs₂ he=>?_)
  obtain⟨oe,hoe,hce⟩:=he
  have hz₂:IsZip h₂ z TI TO .ellipsis:=hs₂ _ _ D.i1z.symm hz₁
  have hez:e≠z:=λx=>by subst x;rw[hz₂] at hoe;cases hoe;simp at hce
  refine wpAny_setField_rec hz₂ (by simp) λh₃ _ hs₃=>hE h₃ e (λc o c1 _ c3 _ x=>hs₃.extBut _ _ c1 (hs₂ _ _ c3 (hs₁.extBut _ _ c1 x))) ⟨oe,hs₃.extBut _ _ hez hoe,hce⟩
 | some x=>
  have hy:ys[k2]? = none:=by rcases hend with h|h;rw[hx] at h;cases h;exact h
  refine wpAny_bind (gF (h1.at λo e=>hs₁.extBut _ _ D.i1z e) (hl1.at λo e=>hs₁.extBut _ _ D.l1z e) hx λh₂ h1₂ hs₂=>wpAny_pure ?_)
  have hTO₂:IsPair h₂ TO a b:=hs₂.extBut _ _ D.TOi1 (hs₁.extBut _ _ D.TOz hTO)
  refine wpAny_bind (wpAny_seqItems hTO₂ rfl ?_)
  refine wpAny_bind (wpAny_updateSeq_pair hTO₂ λh₃ hTO₃ hs₃=>?_)
  refine wpAny_bind (wpAny_letGo (wpAny_pure ?_))
  refine wpAny_bind (wpAny_bind (wpAny_onRaise ?_))
  show wpAny _ _ (Builtin.SmallTypes.nextOf (.ref i2) >>= _) _ _ _
  refine wpAny_bind (kP hh (h2.at λo e=>hs₃.extBut _ _ D.TOi2.symm (hs₂.extBut _ _ D.i12.symm (hs₁.extBut _ _ D.i2z e)))
   (hl2.at λo e=>hs₃.extBut _ _ D.l2TO (hs₂.extBut _ _ D.l2i1 (hs₁.extBut _ _ D.l2z e))) hy λh₄ e hs₄ he=>?_)
  obtain⟨oe,hoe,hce⟩:=he
  have hz₄:IsZip h₄ z TI TO .ellipsis:=hs₄ _ _ D.i2z.symm (hs₃.extBut _ _ D.TOz.symm (hs₂.extBut _ _ D.i1z.symm hz₁))
  have hez:e≠z:=λx=>by subst x;rw[hz₄] at hoe;cases hoe;simp at hce
  refine wpAny_setField_rec hz₄ (by simp) λh₅ _ hs₅=>hE h₅ e (λc o c1 c2 c3 c4 x=>hs₅.extBut _ _ c1 (hs₄ _ _ c4 (hs₃.extBut _ _ c2 (hs₂.extBut _ _ c3 (hs₁.extBut _ _ c1 x))))) ⟨oe,hs₅.extBut _ _ hez hoe,hce⟩
theorem nS{ka kb:Bool}{z TI TO i1 i2 l1 l2:Addr}{k1 k2:Nat}{xs ys:Array Value}{x y a b:Value}{Q:Option Value->Shared->Prop}(D:ZipApart z TI TO i1 i2 l1 l2)
 (hz:IsZip s.heap z TI TO .none) (hTI:IsPair s.heap TI (.ref i1) (.ref i2)) (hTO:IsPair s.heap TO a b)
 (h1:dD ka s.heap i1 l1 k1) (h2:dD kb s.heap i2 l2 k2) (hl1:eZ ka s.heap l1 xs) (hl2:eZ kb s.heap l2 ys) (hx:xs[k1]? = some x) (hy:ys[k2]? = some y)
 (hQ:∀h',IsZip h' z TI TO (rawInt s.heap.objs.size)->IsPair h' TO x y->dD ka h' i1 l1 (k1+1)->dD kb h' i2 l2 (k2+1)->IsPair h' s.heap.objs.size x y->h'.objs.size=s.heap.objs.size+1 ->
  (∀c o,c≠z->c≠TO->c≠i1->c≠i2->s.heap.get? c=some o->h'.get? c=some o)->Q (some (.ref s.heap.objs.size)) { s with heap:=h' }) :
 wpAny (model prog w) A (pyNext (.ref z)) Q E s:=by
 have hT:s.TypeIs (.ref z) "zip" := ⟨_,hz,rfl⟩
 unfold pyNext
 exact wpAny_bind (wpAny_attempt (wpAny_callSpecial?_slot (name:=Str.ofString "__next__") hT F.slot_zip_next
  (wpAny_call_entry F.slot_zip_next hT F.entry_zip_next
   (aBp D hz hTI hTO h1 h2 hl1 hl2 hx hy λh' a1 a2 a3 a4 a5 a6 a7=>wpAny_pure (hQ h' a1 a2 a3 a4 a5 a6 a7)) (F.args_zip_next_1 _))))
theorem pI{ka kb:Bool}{z TI TO i1 i2 l1 l2:Addr}{k1 k2:Nat}{xs ys:Array Value}{a b:Value}{Q:Option Value->Shared->Prop}(hh:A.handled=none)(D:ZipApart z TI TO i1 i2 l1 l2)
 (hz:IsZip s.heap z TI TO .none) (hTI:IsPair s.heap TI (.ref i1) (.ref i2)) (hTO:IsPair s.heap TO a b)
 (h1:dD ka s.heap i1 l1 k1) (h2:dD kb s.heap i2 l2 k2) (hl1:eZ ka s.heap l1 xs) (hl2:eZ kb s.heap l2 ys) (hend:xs[k1]? = none\/ys[k2]? = none)
 (hQ:∀h',(∀c o,c≠z->c≠TO->c≠i1->c≠i2->s.heap.get? c=some o->h'.get? c=some o)->Q none { s with heap:=h' }):wpAny (model prog w) A (pyNext (.ref z)) Q E s:=by
 have hT:s.TypeIs (.ref z) "zip" := ⟨_,hz,rfl⟩
 unfold pyNext
 refine wpAny_bind (wpAny_attempt (wpAny_callSpecial?_slot (name:=Str.ofString "__next__") hT F.slot_zip_next
  (wpAny_call_entry F.slot_zip_next hT F.entry_zip_next (aCS hh D hz hTI hTO h1 h2 hl1 hl2 hend λh' e hk he=>?_) (F.args_zip_next_1 _))))
 obtain⟨o,ho,hc⟩:=he
 refine wpAny_bind (wpAny_isInstance (T:= "StopIteration") (b:=true) ⟨o,ho,hc⟩ isSubtype_stop ?_)
 exact wpAny_pure (hQ _ hk)
end
def iR(k:Bool)(l:Addr):Obj:=match k with
 | true=>{ cls:=.type "list_iterator",data:=.fields #[.ref l,.int 0 0] }
 | false=>{ cls:=.type "tuple_iterator",data:=.fields #[.ref l,.int 0 0] }
abbrev zH1(k:Bool)(h:Heap)(l1:Addr):Heap:=h.push (iR k l1)
abbrev zH2(ka kb:Bool)(h:Heap)(l1 l2:Addr):Heap:=(zH1 ka h l1).push (iR kb l2)
abbrev zH3(ka kb:Bool)(h:Heap)(l1 l2:Addr):Heap:=(zH2 ka kb h l1 l2).push { cls:=.type "tuple",data:=.seq #[.ref h.objs.size,.ref (zH1 ka h l1).objs.size] }
abbrev zH4(ka kb:Bool)(h:Heap)(l1 l2:Addr):Heap:=(zH3 ka kb h l1 l2).push { cls:=.type "tuple",data:=.seq #[.none,.none] }
abbrev zH5(ka kb:Bool)(h:Heap)(l1 l2:Addr):Heap:=(zH4 ka kb h l1 l2).push { cls:=.type "zip",data:=.fields #[.none,.bool false,.bool false,.ref (zH2 ka kb h l1 l2).objs.size,.ref (zH3 ka kb h l1 l2).objs.size] }
theorem jS{prog:Program}{w:World}{A:Around}{E:Value->Shared->Prop}{s:Shared}{k:Bool}{l:Addr}{items:Array Value}{Q:Value->Shared->Prop}(hl:eZ k s.heap l items)
 (hQ:Q (.ref s.heap.objs.size) { s with heap:=s.heap.push (iR k l) }):wpAny (model prog w) A (pyIter (.ref l)) Q E s:=by
 cases k with
 | true=>exact wpAny_pyIter_list hl hQ
 | false=>exact wpAny_pyIter_tuple hl hQ
theorem yQ(ka kb:Bool)(l1 l2:Addr)(xs ys:Array Value) :
 Meets (Builtin.«zip.__new__» ⟨[.type "zip",.ref l1,.ref l2],[]⟩) (λ_ R s=>eZ ka s.heap l1 xs/\eZ kb s.heap l2 ys /\
  R (.ok (.ret (.ref (zH4 ka kb s.heap l1 l2).objs.size))) { s with heap:=zH5 ka kb s.heap l1 l2 }):=
 .of_wp λprog w A R s h=>by
  obtain⟨hp,g,d,tk,os⟩:=s;obtain⟨hl1,hl2,h⟩:=h
  have hsub:=sub_zip
  have hL1:eZ ka (Shared.heap ⟨hp,g,d,tk,os⟩) l1 xs:=hl1
  have hL2:eZ kb (Shared.heap ⟨hp.push (iR ka l1),g,d,tk,os⟩) l2 ys:=hl2.at λo e=>Heap.get?_push_of_some _ e
  wp_walk using jS hL1,jS hL2
  exact⟨_,rfl,h⟩
theorem pJ{k:Bool}{h:Heap}{it a:Addr}(e:h.get? it=some (iR k a)):dD k h it a 0:=by
 cases k with
 | true=>exact⟨_,e,rfl,rfl⟩
 | false=>exact⟨_,e,rfl,rfl⟩
theorem aBq{prog:Program}{w:World}{A:Around}{E:Value->Shared->Prop}{s:Shared}{ka kb:Bool}{l1 l2:Addr}{xs ys:Array Value}{Q:Value->Shared->Prop}(hl1:eZ ka s.heap l1 xs)(hl2:eZ kb s.heap l2 ys)
 (h:∀h',IsZip h' (s.heap.objs.size+4) (s.heap.objs.size+2) (s.heap.objs.size+3) .none->IsPair h' (s.heap.objs.size+2) (.ref s.heap.objs.size) (.ref (s.heap.objs.size+1)) ->
  IsPair h' (s.heap.objs.size+3) .none .none->dD ka h' s.heap.objs.size l1 0->dD kb h' (s.heap.objs.size+1) l2 0->h'.objs.size=s.heap.objs.size+5 ->
  (∀c o,s.heap.get? c=some o->h'.get? c=some o)->Q (.ref (s.heap.objs.size+4)) { s with heap:=h' }) :
 wpAny (model prog w) A (call (.type "zip") [.ref l1,.ref l2]) Q E s:=by
 refine callType_new F.called_zip (by decide) (F.typeCall_zip_2 _ _) (F.newCall_zip_2 _ _) (λobj=>F.args_object_init_3 obj _ _) F.entry_zip_new
  (yQ ka kb l1 l2 xs ys) ⟨hl1,hl2,?_⟩
 have z1:(zH1 ka s.heap l1).objs.size=s.heap.objs.size+1:=Heap.size_push ..
 have z2:(zH2 ka kb s.heap l1 l2).objs.size=s.heap.objs.size+2:=by rw[Heap.size_push,z1]
 have z3:(zH3 ka kb s.heap l1 l2).objs.size=s.heap.objs.size+3:=by rw[Heap.size_push,z2]
 have z4:(zH4 ka kb s.heap l1 l2).objs.size=s.heap.objs.size+4:=by rw[Heap.size_push,z3]
 have z5:(zH5 ka kb s.heap l1 l2).objs.size=s.heap.objs.size+5:=by rw[Heap.size_push,z4]
 have nf:∀k l,(iR k l).isFreed=false:=by intro k l;cases k <;> rfl
 have g5:(zH5 ka kb s.heap l1 l2).get? (zH4 ka kb s.heap l1 l2).objs.size=some _:=Heap.get?_push_size _ rfl
 have g4:(zH5 ka kb s.heap l1 l2).get? (zH3 ka kb s.heap l1 l2).objs.size=some _:=Heap.get?_push_of_some _ (Heap.get?_push_size _ rfl)
 have g3:(zH5 ka kb s.heap l1 l2).get? (zH2 ka kb s.heap l1 l2).objs.size=some _:=Heap.get?_push_of_some _ (Heap.get?_push_of_some _ (Heap.get?_push_size _ rfl))
 have g2:(zH5 ka kb s.heap l1 l2).get? (zH1 ka s.heap l1).objs.size=some _:=Heap.get?_push_of_some _ (Heap.get?_push_of_some _ (Heap.get?_push_of_some _ (Heap.get?_push_size _ (nf _ _))))
 have g1:(zH5 ka kb s.heap l1 l2).get? s.heap.objs.size=some _:=Heap.get?_push_of_some _ (Heap.get?_push_of_some _ (Heap.get?_push_of_some _ (Heap.get?_push_of_some _ (Heap.get?_push_size _ (nf _ _)))))
 show _/\_
 rw[z2,z3,z4] at g5
 rw[z1,z2] at g3
 rw[z3] at g4
 rw[z1] at g2
 rw[z4]
 exact⟨⟨_,g5,rfl⟩,h _ g5 g3 g4 (pJ g1) (pJ g2) z5 λc o x=>
  Heap.get?_push_of_some _ (Heap.get?_push_of_some _ (Heap.get?_push_of_some _ (Heap.get?_push_of_some _ (Heap.get?_push_of_some _ x))))⟩
def Itz(K:PySem.W.Frag)(ka kb:Bool)(a b:Addr):It:=
 ⟨λi H=>∃xs ys x y,Sq ka K H a xs/\Sq kb K H b ys/\xs[i]? = some x/\ys[i]? = some y,
  λi H v H'=>∃p x y,v=.ref p/\H p=none/\K.lookup p=none/\H'=upd H p (.tup [x,y])/\∀xs ys,Sq ka K H a xs->Sq kb K H b ys->xs[i]? = some x/\ys[i]? = some y,
  λi H=>∃xs ys,Sq ka K H a xs/\Sq kb K H b ys/\(xs.length<=i\/ys.length<=i)⟩
structure aFc (z TI TO i1 i2:Addr):Prop where
 TIz:TI≠z
 TOz:TO≠z
 i1z:i1≠z
 i2z:i2≠z
 TITO:TI≠TO
 TIi1:TI≠i1
 TIi2:TI≠i2
 TOi1:TO≠i1
 TOi2:TO≠i2
 i12:i1≠i2
theorem aFc.apart{X:Cx}{pins:List (Addr×Obj)}{σ:St}{H:Hp}{s:Shared}{ka kb:Bool}{a b z TI TO i1 i2:Addr}{xs ys:List V}(F:aFc z TI TO i1 i2)(I:Inv X pins σ H s)(f:∀c∈[z,TI,TO,i1,i2],kZ X pins H c)
 (ha:Sq ka X.K H a xs) (hb:Sq kb X.K H b ys):ZipApart z TI TO i1 i2 a b:=
 ⟨F.TIz,F.TOz,F.i1z,F.i2z,F.TITO,F.TIi1,F.TIi2,F.TOi1,F.TOi2,F.i12,I.sqNe ha (f z (by simp)),I.sqNe ha (f TO (by simp)),I.sqNe ha (f i1 (by simp)),I.sqNe ha (f i2 (by simp)),
  I.sqNe hb (f z (by simp)),I.sqNe hb (f TO (by simp)),I.sqNe hb (f i1 (by simp)),I.sqNe hb (f i2 (by simp))⟩
theorem aCT{P:Program}{w:World}{K:PySem.W.Frag}{ka kb:Bool}{elts:List Expr}{tk:Nat}{tp:Pos}{z TI TO i1 i2 a b:Addr}(F:aFc z TI TO i1 i2) :
 vB P w K (.Tuple elts tk tp) (Itz K ka kb a b) [z,TI,TO,i1,i2] z (λi h=>IsZip h z TI TO .none/\IsPair h TI (.ref i1) (.ref i2)/\(∃u v,IsPair h TO u v)/\dD ka h i1 a i/\dD kb h i2 b i) where
 mem:=by simp
 obj:=λi h st c hc=>by
  obtain⟨hz,hTI,⟨u,v,hTO⟩,h1,h2⟩:=st
  have hc':c=z\/c=TI\/c=TO\/c=i1\/c=i2:=by simpa using hc
  rcases hc' with rfl|rfl|rfl|rfl|rfl
  . exact⟨_,hz,λv z=>by cases(show Data.fields _=Data.cell v from z)⟩
  . exact⟨_,hTI,λv z=>by cases(show Data.seq _ _=Data.cell v from z)⟩
  . exact⟨_,hTO,λv z=>by cases(show Data.seq _ _=Data.cell v from z)⟩
  . exact h1.obj
  . exact h2.obj
 keep:=λi h h' st k=>by
  obtain⟨hz,hTI,⟨u,v,hTO⟩,h1,h2⟩:=st
  exact⟨k z (by simp) _ hz,k TI (by simp) _ hTI,⟨u,v,k TO (by simp) _ hTO⟩,h1.at λo e=>k i1 (by simp) o e,h2.at λo e=>k i2 (by simp) o e⟩
 item:=by
  intro X hP hw hK hc i pins s σ H E I hf st hg
  subst hP hw hK
  obtain⟨hz,hTI,⟨u,v,hTO⟩,h1,h2⟩:=st
  obtain⟨xs,ys,x,y,ha,hb,hx,hy⟩:=hg
  obtain⟨as,ra,pa,_⟩:=I.sq ha
  obtain⟨bs,rb,pb,_⟩:=I.sq hb
  obtain⟨ux,hux,rx⟩:=ra.get hx
  obtain⟨uy,huy,ry⟩:=rb.get hy
  have D:=F.apart I hf ha hb
  refine nS D hz hTI hTO h1 h2 pa pb (x:=ux) (y:=uy) (by simpa using hux) (by simpa using huy) λh' a1 a2 a3 a4 a5 a6 hk=>?_
  refine⟨_,rfl,wpAny_letOwnedTupleGo_zip (s:={ s with heap:=h' }) a1 λh'' hz' hs'=>?_⟩
  have hTne:s.heap.objs.size≠z:=Nat.ne_of_gt (Heap.lt_size hz)
  have hk2:∀c o,c∉[z,TI,TO,i1,i2]->s.heap.get? c=some o->h''.get? c=some o:=λc o hc e=>by
   have hc':c≠z/\c≠TI/\c≠TO/\c≠i1/\c≠i2:=by simpa using hc
   exact hs'.extBut _ _ hc'.1 (hk c o hc'.1 hc'.2.2.1 hc'.2.2.2.1 hc'.2.2.2.2 e)
  have tI:IsPair h'' TI (.ref i1) (.ref i2):=hs'.extBut _ _ F.TIz (hk _ _ F.TIz F.TITO F.TIi1 F.TIi2 hTI)
  have tO:IsPair h'' TO ux uy:=hs'.extBut _ _ F.TOz a2
  have t1:dD ka h'' i1 a (i+1):=a3.at λo e=>hs'.extBut _ _ F.i1z e
  have t2:dD kb h'' i2 b (i+1):=a4.at λo e=>hs'.extBut _ _ F.i2z e
  have tT:IsPair h'' s.heap.objs.size ux uy:=hs'.extBut _ _ hTne a5
  have hn:H s.heap.objs.size=none:=I.fresh
  have I1:Inv X pins σ (upd H s.heap.objs.size (.tup [x,y])) { s with heap:=h'' }:=by
   refine I.turnsNew (t':=s.toks) hf hk2 (λc hc=>?_) (Nat.le_refl _) ⟨by show 2<=sizeLine;rw[sizeLine_eq];decide,[ux,uy],.cons rx (.cons ry .nil),_,tT,rfl,_,rfl⟩
   have hc':c=z\/c=TI\/c=TO\/c=i1\/c=i2:=by simpa using hc
   rcases hc' with rfl|rfl|rfl|rfl|rfl
   . exact⟨_,hz'⟩
   . exact⟨_,tI⟩
   . exact⟨_,tO⟩
   . obtain⟨o,e,_⟩:=t1.obj;exact⟨o,e⟩
   . obtain⟨o,e,_⟩:=t2.obj;exact⟨o,e⟩
  refine⟨.ref s.heap.objs.size,_,I1,rfl,⟨_,x,y,rfl,hn,I.newK,rfl,λxs' ys' ha' hb'=>?_⟩,⟨hz',tI,⟨_,_,tO⟩,t1,t2⟩,λc hc=>?_⟩
  . rw[I.sq_inj ha' ha,I.sq_inj hb' hb]
    exact⟨hx,hy⟩
  . rw[aV (Nat.ne_of_lt ?_)]
    . exact(hf c hc).1
    . obtain⟨o,e,_⟩:∃o,s.heap.get? c=some o/\True:=by
       have hc':c=z\/c=TI\/c=TO\/c=i1\/c=i2:=by simpa using hc
       rcases hc' with rfl|rfl|rfl|rfl|rfl
       . exact⟨_,hz,trivial⟩
       . exact⟨_,hTI,trivial⟩
       . exact⟨_,hTO,trivial⟩
       . obtain⟨o,e,_⟩:=h1.obj;exact⟨o,e,trivial⟩
       . obtain⟨o,e,_⟩:=h2.obj;exact⟨o,e,trivial⟩
      exact Heap.lt_size e
 done:=by
  intro X hP hw hK hc i pins s σ H E I hf st hg
  subst hP hw hK
  obtain⟨hz,hTI,⟨u,v,hTO⟩,h1,h2⟩:=st
  obtain⟨xs,ys,ha,hb,hend⟩:=hg
  obtain⟨as,ra,pa,_⟩:=I.sq ha
  obtain⟨bs,rb,pb,_⟩:=I.sq hb
  have la:=ra.length
  have lb:=rb.length
  refine pI (I.ok.hd hc) (F.apart I hf ha hb) hz hTI hTO h1 h2 pa pb ?_ λh' hk=>⟨rfl,I.turns (t':=s.toks) hf λc o hc e=>?_⟩
  . rcases hend with q|q
    . exact .inl (by simp;omega)
    . exact .inr (by simp;omega)
  . have hc':c≠z/\c≠TI/\c≠TO/\c≠i1/\c≠i2:=by simpa using hc
    exact hk c o hc'.1 hc'.2.2.1 hc'.2.2.2.1 hc'.2.2.2.2 e
 self:=λ_ _ _ _ _ st h=>wpAny_pyIter_zip st.1 h
def aMl(K:PySem.W.Frag)(ta:TA):TI:=λσ H R=>ta σ H λvs H1=>∃(ka kb:Bool) (a b:Addr) (xs ys:List V),vs=[.ref a,.ref b]/\Sq ka K H1 a xs/\Sq kb K H1 b ys/\R (Itz K ka kb a b) H1
theorem aCU:bootBuiltins "zip" = some (.type "zip"):=by kernel_rfl
theorem aCV(n:Nat):aFc (n+4) (n+2) (n+3) n (n+1) where
 TIz:=by simp
 TOz:=by simp
 i1z:=by simp
 i2z:=by simp
 TITO:=by simp
 TIi1:=by simp
 TIi2:=by simp
 TOi1:=by simp
 TOi2:=by simp
 i12:=by simp
theorem aHr{X:Cx}{a b:Expr}{ta:TA}{p pos:Pos}{elts:List Expr}{tk:Nat}{tp:Pos}(hg:Gl X "zip")(hm:X.mg "zip" = none)(ha:PA X [a,b] ta)(hs:starEach [a,b] X.env=[(false,eval a X.env),(false,eval b X.env)])(hs2:starEach [b] X.env=[(false,eval b X.env)]) :
 PI X (.Tuple elts tk tp) (.Call (.Name "zip" p) [a,b] [] pos) (aMl X.K ta):=by
 intro pins s σ H R I h
 refine Call_ (fF I hg hm aCU (PyProof.Rows.callWith_type1 (thn (ha pos pins s σ H _ I h) λus s1 ⟨vs,H1,I1,r1,q1⟩=>?_) (by rw[hs,hs2]) (by rw[hs2];rfl)))
 obtain⟨ka,kb,a1,b1,xs,ys,e,q1,q2,q⟩:=q1
 subst e
 cases r1 with
 | cons r rr=>
  cases rr with
  | cons r' rr=>
   cases rr
   cases r
   cases r'
   obtain⟨as,ra,pa,_⟩:=I1.sq q1
   obtain⟨bs,rb,pb,_⟩:=I1.sq q2
   refine aBq pa pb λh' hz hTI hTO h1 h2 hsz hk=>wpAny_pyIter_zip (s:={ s1 with heap:=h' }) hz ?_
   refine⟨s1.heap.objs.size+4,_,_,_,H1,rfl,I1.kept (t':=s1.toks) hk,aCT (aCV _),⟨hz,hTI,⟨_,_,hTO⟩,h1,h2⟩,λc hc=>?_,q⟩
   have hc':c=s1.heap.objs.size+4\/c=s1.heap.objs.size+2\/c=s1.heap.objs.size+3\/c=s1.heap.objs.size\/c=s1.heap.objs.size+1:=by simpa using hc
   have hle:s1.heap.objs.size<=c:=by rcases hc' with rfl|rfl|rfl|rfl|rfl <;> omega
   exact I1.fpOk hle (I1.hok.fresh hle)
def Its(x:Str):It:=⟨λi _=>i<x.cps.size,λi H v H'=>H'=H/\∃c,x.cps[i]? = some c/\v=.str ⟨#[c]⟩,λi _=>x.cps.size<=i⟩
theorem vR{P:Program}{w:World}{K:PySem.W.Frag}{tg:Expr}{it:Addr}{x:Str}{t:Tok}{ty:String}(hn:["enumerate", "zip", "dict_itemiterator", "dict_reverseitemiterator", "odict_iterator", "itertools.zip_longest", "itertools.pairwise"].contains ty=false)
 (W:∀A':Around,A'.handled=none->Walks P w A' it [it] [it] x.cps.size (SignAt x) (λi h=>h.IsStrIter it ty x t i))
 (S:∀(A:Around) (i:Nat) (s:Shared) (Q:Value->Shared->Prop) (E:Value->Shared->Prop),s.heap.IsStrIter it ty x t i->Q (.ref it) s->wpAny (model P w) A (pyIter (.ref it)) Q E s):vB P w K tg (Its x) [it] it (λi h=>i<=x.cps.size/\h.IsStrIter it ty x t i) where
 mem:=by simp
 obj:=λi h st b hb=>by
  have e:b=it:=by simpa using hb
  subst e
  obtain⟨_,o,e,c,d⟩:=st
  exact⟨o,e,λv z=>by rw[d] at z;cases z⟩
 keep:=λi h h' st k=>by
  obtain⟨hi,o,e,c,d⟩:=st
  exact⟨hi,o,k it (by simp) o e,c,d⟩
 item:=by
  intro X hP hw hK hc i pins s σ H E I hf st hg
  subst hP hw hK
  obtain⟨f0,f1,f2,f3,f4,f5⟩:=hf it (by simp)
  refine(W X.A (I.ok.hd hc)).item i s _ _ hg st.2 λv h' tk hv st' kk=>?_
  obtain⟨c,u,hcc,rfl⟩:=hv
  have I1:Inv X pins σ H { s with heap:=h',toks:=tk }:=I.turned (λb o hb e=>kk b o (by simpa using hb) e) f0 f1 f3 f4 f5
  obtain⟨o,e,oc,od⟩:=id st'
  exact⟨_,rfl,oR (s:={ s with heap:=h',toks:=tk }) e oc od hn ⟨.str ⟨#[c]⟩,H,I1,⟨u,rfl⟩,⟨rfl,c,hcc,rfl⟩,⟨hg,st'⟩,λb hb=>(hf b hb).1⟩⟩
 done:=by
  intro X hP hw hK hc i pins s σ H E I hf st hg
  subst hP hw hK
  obtain⟨f0,f1,f2,f3,f4,f5⟩:=hf it (by simp)
  have e:i=x.cps.size:=Nat.le_antisymm st.1 hg
  subst e
  exact(W X.A (I.ok.hd hc)).done s _ _ st.2 λh' tk eb=>⟨rfl,I.turned (λb o hb e=>eb b o (by simpa using hb) e) f0 f1 f3 f4 f5⟩
 self:=λA i s Q E st h=>S A i s Q E st.2 h
theorem aHs{X:Cx}{tg l:Expr}{tl:TE}(hl:PE X l tl):PI X tg l (λσ H R=>tl σ H λx H1=>(∃a,x=.ref a/\(((∃xs,SqL X.K H1 a xs)/\R (Itl X.K a) H1)\/((∃xs,SqT X.K H1 a xs)/\R (Itt X.K a) H1)))\/∃z,x=.str z/\R (Its z) H1):=by
 intro pins s σ H R I h
 refine thn (hl pins s σ H _ I h) λv s1 ⟨x,H1,I1,r1,q1⟩=>?_
 rcases q1 with⟨a,e,q⟩|⟨z,e,q⟩
 . subst e
   cases r1
   rcases q with⟨⟨xs,hq⟩,q⟩|⟨⟨xs,hq⟩,q⟩
   . obtain⟨its,rv,p,hz⟩:=I1.list hq
     refine wpAny_pyIter_list p.isList ?_
     refine⟨s1.heap.objs.size,[s1.heap.objs.size],_,_,H1,rfl,I1.kept (t':=s1.toks) λb o e=>Heap.get?_push_of_some _ e,aAR a _,⟨_,Heap.get?_push_size _ rfl,rfl,rfl⟩,λb hb=>?_,q⟩
     have e:b=s1.heap.objs.size:=by simpa using hb
     subst e
     exact I1.fpOk (Nat.le_refl _) (I1.hok.fresh (Nat.le_refl _))
   . obtain⟨its,rv,p,hz⟩:=I1.tuple hq
     refine wpAny_pyIter_tuple (show s1.heap.IsTuple a its.toArray from p) ?_
     refine⟨s1.heap.objs.size,[s1.heap.objs.size],_,_,H1,rfl,I1.kept (t':=s1.toks) λb o e=>Heap.get?_push_of_some _ e,xV a _,⟨_,Heap.get?_push_size _ rfl,rfl,rfl⟩,λb hb=>?_,q⟩
     have e:b=s1.heap.objs.size:=by simpa using hb
     subst e
     exact I1.fpOk (Nat.le_refl _) (I1.hok.fresh (Nat.le_refl _))
 . subst e
   obtain⟨t,rfl⟩:=r1
   cases ha:z.cps.all (·<128) with
   | false=>
    refine wpAny_pyIter_wide ha ⟨s1.heap.objs.size,[s1.heap.objs.size],_,_,H1,rfl,I1.kept (t':=s1.toks) λb o e=>Heap.get?_push_of_some _ e,vR (ty:= "str_iterator") (x:=z) (t:=t) (by decide) (λA' hA=>Walks.strWide hA _ z t) (λA i s Q E st h=>wpAny_pyIter_striter_wide st h),⟨Nat.zero_le _,_,Heap.get?_push_size _ rfl,rfl,rfl⟩,λb hb=>?_,q⟩
    have e:b=s1.heap.objs.size:=by simpa using hb
    subst e
    exact I1.fpOk (Nat.le_refl _) (I1.hok.fresh (Nat.le_refl _))
   | true=>
    refine wpAny_pyIter_ascii ha ⟨s1.heap.objs.size,[s1.heap.objs.size],_,_,H1,rfl,I1.kept (t':=s1.toks) λb o e=>Heap.get?_push_of_some _ e,vR (ty:= "str_ascii_iterator") (x:=z) (t:=t) (by decide) (λA' hA=>Walks.strAscii hA _ z t) (λA i s Q E st h=>wpAny_pyIter_striter_ascii st h),⟨Nat.zero_le _,_,Heap.get?_push_size _ rfl,rfl,rfl⟩,λb hb=>?_,q⟩
    have e:b=s1.heap.objs.size:=by simpa using hb
    subst e
    exact I1.fpOk (Nat.le_refl _) (I1.hok.fresh (Nat.le_refl _))
section
variable {prog:Program} {w:World} {A:Around} {E:Value->Shared->Prop} {s:Shared}
theorem aCW{k:Bool}{e it l:Addr}{i:Nat}{xs:Array Value}{x old:Value}{Q:Value->Shared->Prop}(he:IsEnum s.heap e it i old)(hit:dD k s.heap it l i)(hl:eZ k s.heap l xs)(hx:xs[i]? = some x)(hne:e≠it)
 (hQ:∀h',IsEnumOut h' e it ((i:Int)+1) x s.heap.objs.size->dD k h' it l (i+1)->h'.get? s.heap.objs.size=some { cls:=.type "tuple",data:=.seq #[.int i s.toks,x] }->h'.objs.size=s.heap.objs.size+1 ->
  (∀b o,b≠e->b≠it->s.heap.get? b=some o->h'.get? b=some o)->Q (.ref s.heap.objs.size) { s with heap:=h',toks:=s.toks+1 }) :
 wpAny (model prog w) A (Builtin.«enumerate.__next__» ⟨[.ref e],[]⟩) (λfin s'=>∃v,fin=.done (.ret v)/\Q v s') E s:=by
 obtain⟨hp,g,d,tk,os⟩:=s
 refine wpAny_bind (m:=field (.ref e) 2) (wpAny_field he rfl (x:=.ref it) rfl (wpAny_bind (gF hit hl hx λh1 i1 s1=>?_)))
 have s1:Heap.SameBut it hp h1:=s1
 have e1:IsEnum h1 e it i old:=(s1.2 e hne).trans he
 refine wpAny_bind (m:=field (.ref e) 3) (wpAny_field e1 rfl (x:=rawInt i) rfl (wpAny_bind (m:=field (.ref e) 4) (wpAny_field e1 rfl (x:=.none) rfl (wpAny_bind (m:=mkInt i) (wpAny_mkInt ?_)))))
 refine wpAny_bind (m:=setField (.ref e) 3 (rawInt ((i:Int)+1))) (s:=⟨h1,g,d,tk+1,os⟩) (wpAny_setField_rec e1 (by simp) λh2 e2 s2=>?_)
 have s2:Heap.SameBut e h1 h2:=s2
 have e2:IsEnum h2 e it ((i:Int)+1) old:=e2
 refine wpAny_bind (m:=setField (.ref e) 4 .none) (s:=⟨h2,g,d,tk+1,os⟩) (wpAny_setField_rec e2 (by simp) λh3 e3 s3=>?_)
 have s3:Heap.SameBut e h2 h3:=s3
 have e3:IsEnum h3 e it ((i:Int)+1) old:=e3
 refine wpAny_bind (m:=newTuple [.int i tk,x]) (s:=⟨h3,g,d,tk+1,os⟩) (wpAny_newTuple ?_)
 have e4:IsEnum (h3.push { cls:=.type "tuple",data:=.seq #[.int i tk,x] }) e it ((i:Int)+1) old:=Heap.get?_push_of_some _ e3
 generalize q4:h3.push { cls:=.type "tuple",data:=.seq #[.int i tk,x] }=h4 at e4
 have z3:h3.objs.size=hp.objs.size:=by rw[s3.1,s2.1,s1.1]
 have lt:e<hp.objs.size:=Heap.lt_size he
 have t4:h4.get? hp.objs.size=some { cls:=.type "tuple",data:=.seq #[.int i tk,x] }:=by rw[<-q4,<-z3];exact Heap.get?_push_size _ rfl
 have z4:h4.objs.size=hp.objs.size+1:=by rw[<-q4,Heap.size_push,z3]
 have k4:∀b o,b≠e->b≠it->hp.get? b=some o->h4.get? b=some o:=λb o n1 n2 hb=>by
  rw[<-q4];exact Heap.get?_push_of_some _ (s3.extBut b o n1 (s2.extBut b o n1 (s1.extBut b o n2 hb)))
 have i4:dD k h4 it l (i+1):=i1.at λo ho=>by rw[<-q4];exact Heap.get?_push_of_some _ (s3.extBut _ _ hne.symm (s2.extBut _ _ hne.symm ho))
 rw[z3]
 refine wpAny_bind (m:=Builtin.SmallTypes.ownedTupleIsFree (.ref e)) (s:=⟨h4,g,d,tk+1,os⟩) ?_
 unfold Builtin.SmallTypes.ownedTupleIsFree
 refine wpAny_bind (wpAny_field e4 rfl (x:=.none) rfl (wpAny_pure ?_))
 simp only[if_true]
 refine wpAny_bind (wpAny_rule (wpAny_bind (wpAny_field e4 rfl (x:=old) rfl (wpAny_bind (wpAny_setField_rec e4 (by simp) λh5 e5 s5=>?_)))))
 have s5:Heap.SameBut e h4 h5:=s5
 have e5:IsEnum h5 e it ((i:Int)+1) x:=e5
 refine wpAny_bind (m:=Builtin.SmallTypes.ownedTupleHandOut (.ref e) (.ref hp.objs.size)) (s:=⟨h5,g,d,tk+1,os⟩) ?_
 unfold Builtin.SmallTypes.ownedTupleHandOut
 refine wpAny_bind (wpAny_setField_rec e5 (by simp) λh6 e6 s6=>?_)
 have s6:Heap.SameBut e h5 h6:=s6
 have e6:IsEnumOut h6 e it ((i:Int)+1) x hp.objs.size:=e6
 refine wpAny_setField_rec e6 (by simp) λh7 e7 s7=>?_
 have s7:Heap.SameBut e h6 h7:=s7
 have e7:IsEnumOut h7 e it ((i:Int)+1) x hp.objs.size:=e7
 have up:∀b o,b≠e->h4.get? b=some o->h7.get? b=some o:=λb o n hb=>s7.extBut _ _ n (s6.extBut _ _ n (s5.extBut _ _ n hb))
 exact wpAny_bind (wpAny_letGo (wpAny_pure ⟨_,rfl,hQ h7 e7 (i4.at λo ho=>up _ _ hne.symm ho) (up _ _ (Nat.ne_of_gt lt) t4) (by rw[s7.1,s6.1,s5.1,z4]) λb o n1 n2 hb=>up b o n1 (k4 b o n1 n2 hb)⟩))
theorem vS{k:Bool}{e it l:Addr}{i:Nat}{xs:Array Value}{x old:Value}{Q:Option Value->Shared->Prop}(he:IsEnum s.heap e it i old)(hit:dD k s.heap it l i)(hl:eZ k s.heap l xs)(hx:xs[i]? = some x)(hne:e≠it)
 (hQ:∀h',IsEnumOut h' e it ((i:Int)+1) x s.heap.objs.size->dD k h' it l (i+1)->h'.get? s.heap.objs.size=some { cls:=.type "tuple",data:=.seq #[.int i s.toks,x] }->h'.objs.size=s.heap.objs.size+1 ->
  (∀b o,b≠e->b≠it->s.heap.get? b=some o->h'.get? b=some o)->Q (some (.ref s.heap.objs.size)) { s with heap:=h',toks:=s.toks+1 }):wpAny (model prog w) A (pyNext (.ref e)) Q E s:=by
 have T:s.TypeIs (.ref e) "enumerate" := ⟨_,he,rfl⟩
 unfold pyNext
 exact wpAny_bind (wpAny_attempt (wpAny_callSpecial?_slot (name:=Str.ofString "__next__") T F.slot_enumerate_next (wpAny_call_entry F.slot_enumerate_next T F.entry_enumerate_next (aCW he hit hl hx hne λh' a b c d k=>wpAny_pure (hQ h' a b c d k)) (F.args_enumerate_next_1 _))))
theorem yR{k:Bool}{e it l:Addr}{i:Nat}{xs:Array Value}{old:Value}{Q:Option Value->Shared->Prop}(hh:A.handled=none)(he:IsEnum s.heap e it i old)(hit:dD k s.heap it l i)(hl:eZ k s.heap l xs)(hx:xs[i]? = none)
 (hQ:∀h',Heap.ExtBut it s.heap h'->Q none { s with heap:=h' }):wpAny (model prog w) A (pyNext (.ref e)) Q E s:=by
 have T:s.TypeIs (.ref e) "enumerate" := ⟨_,he,rfl⟩
 unfold pyNext
 refine wpAny_bind (wpAny_attempt (wpAny_callSpecial?_slot (name:=Str.ofString "__next__") T F.slot_enumerate_next (wpAny_call_entry F.slot_enumerate_next T F.entry_enumerate_next ?_ (F.args_enumerate_next_1 _))))
 refine wpAny_bind (m:=field (.ref e) 2) (wpAny_field he rfl (x:=.ref it) rfl (wpAny_bind (kP hh hit hl hx λh' x g ⟨o,ho,hc⟩=>?_)))
 exact wpAny_bind (wpAny_isInstance (T:= "StopIteration") (b:=true) ⟨o,ho,hc⟩ isSubtype_stop (wpAny_pure (hQ _ g)))
end
def aCX(it:Addr):Obj:={ cls:=.type "enumerate",data:=.fields #[.none,.bool false,.ref it,rawInt 0,.none,.none] }
theorem aBr(k:Bool)(l:Addr)(xs:Array Value)(ol:Obj):Meets (Builtin.«enumerate.__new__» ⟨[.type "enumerate",.ref l],[]⟩) (λ_ R s=>s.heap.get? l=some ol/\eZ k s.heap l xs /\
 R (.ok (.ret (.ref (s.heap.push (iR k l)).objs.size))) { s with heap:=(s.heap.push (iR k l)).push (aCX s.heap.objs.size) }):=
 .of_wp λprog w A R s h=>by
  obtain⟨hp,g,d,tk,os⟩:=s;obtain⟨ho,hl,h⟩:=h
  have hsub:=sub_enumerate
  have hL:eZ k (Shared.heap ⟨hp,g,d,tk,os⟩) l xs:=hl
  wp_walk using PySem.AutoSeq1.wpAny_loadPart' ho
  refine wpAny_stack_any λst=>wpAny_pure ?_
  split
  . rename_i c _ _ _ _ _
    cases(c==Value.type "enumerate") <;> (wp_walk using PySem.AutoSeq1.wpAny_loadPart' ho,jS hL;exact⟨_,rfl,h⟩)
  . wp_walk using PySem.AutoSeq1.wpAny_loadPart' ho,jS hL
    exact⟨_,rfl,h⟩
theorem aCY{prog:Program}{w:World}{A:Around}{E:Value->Shared->Prop}{s:Shared}{k:Bool}{l:Addr}{xs:Array Value}{Q:Value->Shared->Prop}(hl:eZ k s.heap l xs)
 (h:∀h',IsEnum h' (s.heap.objs.size+1) s.heap.objs.size 0 .none->dD k h' s.heap.objs.size l 0->(∀b o,s.heap.get? b=some o->h'.get? b=some o)->Q (.ref (s.heap.objs.size+1)) { s with heap:=h' }) :
 wpAny (model prog w) A (call (.type "enumerate") [.ref l]) Q E s:=by
 obtain⟨ol,ho⟩:∃ol,s.heap.get? l=some ol:=by
  cases k with
  | true=>obtain⟨o,e,_⟩:=hl;exact⟨o,e⟩
  | false=>obtain⟨o,e,_⟩:=hl;exact⟨o,e⟩
 refine callType_new F.called_enumerate (by decide) (F.typeCall_enumerate_1 _) (F.newCall_enumerate_1 _) (λobj=>F.args_object_init_2 obj _) F.entry_enumerate_new (aBr k l xs ol) ⟨ho,hl,?_⟩
 have z:(s.heap.push (iR k l)).objs.size=s.heap.objs.size+1:=Heap.size_push ..
 have nf:(iR k l).isFreed=false:=by cases k <;> rfl
 have g2:((s.heap.push (iR k l)).push (aCX s.heap.objs.size)).get? (s.heap.push (iR k l)).objs.size=some (aCX s.heap.objs.size):=Heap.get?_push_size _ rfl
 show _/\_
 rw[z] at g2 ⊢
 exact⟨⟨_,g2,rfl⟩,h _ g2 (pJ (Heap.get?_push_of_some _ (Heap.get?_push_size _ nf))) λb o x=>Heap.get?_push_of_some _ (Heap.get?_push_of_some _ x)⟩
def Ite(K:PySem.W.Frag)(k:Bool)(a:Addr):It:=
 ⟨λi H=>∃xs x,Sq k K H a xs/\xs[i]? = some x,
  λi H v H'=>∃p x,v=.ref p/\H p=none/\K.lookup p=none/\H'=upd H p (.tup [.int i,x])/\∀xs,Sq k K H a xs->xs[i]? = some x,
  λi H=>∃xs,Sq k K H a xs/\xs.length<=i⟩
theorem aFd{P:Program}{w:World}{K:PySem.W.Frag}{k:Bool}{elts:List Expr}{tk:Nat}{tp:Pos}{e it a:Addr}(ne:e≠it) :
 vB P w K (.Tuple elts tk tp) (Ite K k a) [e,it] e (λi h=>(∃old,IsEnum h e it i old)/\dD k h it a i) where
 mem:=by simp
 obj:=λi h st c hc=>by
  obtain⟨⟨old,he⟩,h1⟩:=st
  have hc':c=e\/c=it:=by simpa using hc
  rcases hc' with rfl|rfl
  . exact⟨_,he,λv z=>by cases(show Data.fields _=Data.cell v from z)⟩
  . exact h1.obj
 keep:=λi h h' st kp=>by
  obtain⟨⟨old,he⟩,h1⟩:=st
  exact⟨⟨old,kp e (by simp) _ he⟩,h1.at λo q=>kp it (by simp) o q⟩
 item:=by
  intro X hP hw hK hc i pins s σ H E I hf st hg
  subst hP hw hK
  obtain⟨⟨old,he⟩,h1⟩:=st
  obtain⟨xs,x,ha,hx⟩:=hg
  obtain⟨as,ra,pa,_⟩:=I.sq ha
  obtain⟨ux,hux,rx⟩:=ra.get hx
  refine vS he h1 pa (x:=ux) (by simpa using hux) ne λh' a1 a2 a3 a4 hk=>?_
  refine⟨_,rfl,wpAny_letOwnedTupleGo_enum (s:={ s with heap:=h',toks:=s.toks+1 }) a1 λh'' e' hs'=>?_⟩
  have lt:s.heap.objs.size≠e:=Nat.ne_of_gt (Heap.lt_size he)
  have hk2:∀c o,c∉[e,it]->s.heap.get? c=some o->h''.get? c=some o:=λc o hc q=>by
   have hc':c≠e/\c≠it:=by simpa using hc
   exact hs'.extBut _ _ hc'.1 (hk c o hc'.1 hc'.2 q)
  have t1:dD k h'' it a (i+1):=a2.at λo q=>hs'.extBut _ _ ne.symm q
  have tT:h''.get? s.heap.objs.size=some { cls:=.type "tuple",data:=.seq #[.int i s.toks,ux] }:=hs'.extBut _ _ lt a3
  have hn:H s.heap.objs.size=none:=I.fresh
  have I1:Inv X pins σ (upd H s.heap.objs.size (.tup [.int i,x])) { s with heap:=h'',toks:=s.toks+1 }:=by
   refine I.turnsNew (t':=s.toks+1) hf hk2 (λc hc=>?_) (Nat.le_refl _) ⟨by show 2<=sizeLine;rw[sizeLine_eq];decide,[.int i s.toks,ux],.cons ⟨_,rfl⟩ (.cons rx .nil),_,tT,rfl,_,rfl⟩
   have hc':c=e\/c=it:=by simpa using hc
   rcases hc' with rfl|rfl
   . exact⟨_,e'⟩
   . obtain⟨o,q,_⟩:=t1.obj;exact⟨o,q⟩
  refine⟨.ref s.heap.objs.size,_,I1,rfl,⟨_,x,rfl,hn,I.newK,rfl,λxs' ha'=>?_⟩,⟨⟨_,e'⟩,t1⟩,λc hc=>?_⟩
  . rw[I.sq_inj ha' ha]
    exact hx
  . rw[aV (Nat.ne_of_lt ?_)]
    . exact(hf c hc).1
    . have hc':c=e\/c=it:=by simpa using hc
      rcases hc' with rfl|rfl
      . exact Heap.lt_size he
      . obtain⟨o,q,_⟩:=h1.obj;exact Heap.lt_size q
 done:=by
  intro X hP hw hK hc i pins s σ H E I hf st hg
  subst hP hw hK
  obtain⟨⟨old,he⟩,h1⟩:=st
  obtain⟨xs,ha,hend⟩:=hg
  obtain⟨as,ra,pa,_⟩:=I.sq ha
  have la:=ra.length
  refine yR (I.ok.hd hc) he h1 pa (by simp;omega) λh' hk=>⟨rfl,I.turns (t':=s.toks) hf λc o hc q=>hk c o ?_ q⟩
  have hc':c≠e/\c≠it:=by simpa using hc
  exact hc'.2
 self:=λ_ _ _ _ _ st h=>let ⟨_,q⟩:=st.1;wpAny_pyIter_enum q h
def iEn(K:PySem.W.Frag)(ta:TA):TI:=λσ H R=>ta σ H λvs H1=>∃(k:Bool) (a:Addr) (xs:List V),vs=[.ref a]/\Sq k K H1 a xs/\R (Ite K k a) H1
theorem aBs:bootBuiltins "enumerate" = some (.type "enumerate"):=by kernel_rfl
theorem aFe{X:Cx}{a:Expr}{ta:TA}{p pos:Pos}{elts:List Expr}{tk:Nat}{tp:Pos}(hg:Gl X "enumerate")(hm:X.mg "enumerate" = none)(ha:PA X [a] ta)(hs:starEach [a] X.env=[(false,eval a X.env)]) :
 PI X (.Tuple elts tk tp) (.Call (.Name "enumerate" p) [a] [] pos) (iEn X.K ta):=by
 intro pins s σ H R I h
 refine Call_ (fF I hg hm aBs (PyProof.Rows.callWith_type1 (thn (ha pos pins s σ H _ I h) λus s1 ⟨vs,H1,I1,r1,q1⟩=>?_) (by rw[hs];rfl) rfl))
 obtain⟨k,a1,xs,e,q1,q⟩:=q1
 subst e
 cases r1 with
 | cons r rr=>
  cases rr
  cases r
  obtain⟨as,ra,pa,_⟩:=I1.sq q1
  refine aCY pa λh' he h1 hk=>wpAny_pyIter_enum (s:={ s1 with heap:=h' }) he ?_
  refine⟨s1.heap.objs.size+1,_,_,_,H1,rfl,I1.kept (t':=s1.toks) hk,aFd (Nat.succ_ne_self _),⟨⟨_,he⟩,h1⟩,λc hc=>?_,q⟩
  have hc':c=s1.heap.objs.size+1\/c=s1.heap.objs.size:=by simpa using hc
  have hle:s1.heap.objs.size<=c:=by rcases hc' with rfl|rfl <;> omega
  exact I1.fpOk hle (I1.hok.fresh hle)
section
variable {prog:Program} {w:World} {A:Around} {E:Value->Shared->Prop} {s:Shared}
end
section
variable {prog:Program} {w:World} {A:Around} {s:Shared} {R:Result->Shared->Prop}
variable {ka kb:Bool} {z TI TO i1 i2 l1 l2 S:Nat} {xs ys:Array Value}
end
section
variable {prog:Program} {w:World} {A:Around} {E:Value->Shared->Prop} {s:Shared} {R:Result->Shared->Prop}
variable {ka kb:Bool} {z TI TO i1 i2 l1 l2:Nat} {xs ys:Array Value}
end
section
variable {X:Cx} {pins:List (Addr×Obj)} {σ:St} {H H':Hp} {s:Shared} {h':Heap}
end
end L2
end
noncomputable section
namespace Hp
open PySem PySem.Spec PyProof.Rows L2
def Kp(R:Addr->Prop)(H H':Hp):Prop:=∀a o,H a=some o->¬ R a->H' a=some o
theorem Kp.refl(R:Addr->Prop)(H:Hp):Kp R H H:=λ_ _ h _=>h
theorem Kp.same{R:Addr->Prop}{H H':Hp}(s:aU H H'):Kp R H H':=λa o h _=>s a o h
section
variable {K:Fg} {RT Y old R:Addr->Prop} {σ:Sg} {σV:L2.St} {H H':Hp}
theorem Kp.seqL(k:Kp R H H'){a:Addr}{xs:List V}(n:¬ R a)(h:SqL K H a xs):SqL K H' a xs:=by
 rcases h with(h|⟨o,h⟩)|h
 . exact .inl (.inl (k _ _ h n))
 . exact .inl (.inr ⟨o,k _ _ h n⟩)
 . exact .inr h
theorem Kp.seqT(k:Kp R H H')(hR:∀a,R a->∃ys,H a=some (.lst ys)){a:Addr}{xs:List V}(h:SqT K H a xs):SqT K H' a xs:=by
 rcases h with(h|⟨o,h⟩)|h
 . refine .inl (.inl (k _ _ h λz=>?_))
   obtain⟨ys,e⟩:=hR a z
   rw[h] at e;cases e
 . refine .inl (.inr ⟨o,k _ _ h λz=>?_⟩)
   obtain⟨ys,e⟩:=hR a z
   rw[h] at e;cases e
 . exact .inr h
theorem Reps.kp{ex:Addr->Prop}{ds:List D}{xs:List V}(r:Reps K H ex ds xs)(k:Kp R H H')(hR:∀a,R a->∃ys,H a=some (.lst ys))(hx:∀a,R a->ex a):Reps K H' ex ds xs:=
 r.keep λa o e hl=>k a o e λz=>by
  obtain⟨ys,e'⟩:=hR a z
  rw[e] at e'
  cases e'
  exact hl ys rfl (hx a z)
def rtF(RT:Addr->Prop)(σ:Sg)(σV:L2.St)(al:List Nat)(a:Addr):Prop:=RT a/\¬ alR σ σV al a
theorem iH:∀(al:List Nat) (σ:Sg) (i:Nat),(freeze σ al)[i]? = (σ[i]?).map λs=>if i∈al then s.freeze else s
 | [],σ,i=>by cases q:σ[i]? <;> simp[freeze,q]
 | j::al,σ,i=>by
  rw[freeze,iH al]
  cases qj:σ[j]? with
  | none=>
   simp only
   cases q:σ[i]? with
   | none=>rfl
   | some s=>
    have hne:i≠j:=λe=>by subst e;rw[q] at qj;cases qj
    simp[hne]
  | some sj=>
   simp only
   by_cases hij:i=j
   . subst hij
     have hl:i<σ.length:=(List.getElem?_eq_some_iff.mp qj).1
     rw[List.getElem?_set_self hl,qj]
     simp only[Option.map_some,List.mem_cons,true_or,if_true]
     split
     . cases sj <;> rfl
     . rfl
   . rw[List.getElem?_set_ne (Ne.symm hij)]
     simp[hij]
theorem pK:∀(al:List Nat) (σ:Sg),(freeze σ al).length=σ.length
 | [],σ=>rfl
 | j::al,σ=>by
  rw[freeze,pK al]
  split
  . rw[List.length_set]
  . rfl
theorem freeze_sh{al:List Nat}{i:Nat}{pa:Bool}{d:D}(h:(freeze σ al)[i]? = some (.sh pa d)):σ[i]? = some (.sh pa d)\/∃ds,i∈al/\σ[i]? = some (.own pa ds)/\d=.lst ds:=by
 rw[iH] at h
 cases q:σ[i]? with
 | none=>rw[q] at h;cases h
 | some s=>
  rw[q] at h
  have h:(if i∈al then s.freeze else s)=.sh pa d:=Option.some.inj h
  split at h
  . rename_i hi
    cases s with
    | dead=>cases h
    | sh pa' d'=>cases h;exact .inl rfl
    | own pa' ds'=>cases h;exact .inr ⟨ds',hi,rfl,rfl⟩
  . exact .inl (by rw[h])
theorem fV{al:List Nat}{i:Nat}{pa:Bool}{ds:List D}(h:(freeze σ al)[i]? = some (.own pa ds)):σ[i]? = some (.own pa ds)/\i∉al:=by
 rw[iH] at h
 cases q:σ[i]? with
 | none=>rw[q] at h;cases h
 | some s=>
  rw[q] at h
  have h:(if i∈al then s.freeze else s)=.own pa ds:=Option.some.inj h
  split at h
  . cases s <;> cases h
  . rename_i hi
    exact⟨by rw[h],hi⟩
theorem Sx.frz(S:Sx K RT Y old σ σV H)(al:List Nat):Sx K (rtF RT σ σV al) Y old (freeze σ al) σV H where
 sh:=λi pa d h=>by
  rcases freeze_sh h with h|⟨ds,hi,ho,e⟩
  . obtain⟨v,h1,h2⟩:=S.sh i pa d h
    exact⟨v,h1,h2.weak λa z=>z.elim (λz=>.inl z.1) .inr⟩
  . subst e
    obtain⟨a,xs,h1,h2,h3,h4,h5⟩:=S.own i pa ds ho
    refine⟨.ref a,h1,a,xs,rfl,SqL.of h2,?_,h5.weak λa z=>z.elim (λz=>.inl z.1) .inr⟩
    rintro (z|z|⟨_,z⟩)
    . exact z.2 ⟨i,hi,⟨pa,ds,ho⟩,h1⟩
    . exact h4 (S.yo a z)
    . exact h4 z
 own:=λi pa ds h=>by
  obtain⟨h,hi⟩:=fV h
  obtain⟨a,xs,h1,h2,h3,h4,h5⟩:=S.own i pa ds h
  refine⟨a,xs,h1,h2,⟨h3,?_⟩,h4,h5.weak λa z=>z.elim (λz=>.inl z.1) .inr⟩
  rintro ⟨j,hj,⟨pa',ds',q⟩,q'⟩
  have:=S.inj i j pa pa' ds ds' a h q h1 q'
  subst this
  exact hi hj
 trk:=λa z=>S.trk a (z.elim (λz=>.inl z.1) .inr)
 yo:=S.yo
 tk:=S.tk
 rt:=λa z=>S.rt a z.1
 inj:=λi j pa pa' ds ds' a h1 h2 h3 h4=>S.inj i j pa pa' ds ds' a (fV h1).1 (fV h2).1 h3 h4
 len:=by rw[pK];exact S.len
theorem Tk.new{p:Addr}{o:HO}(t:Tk K H)(h:K.lookup p=none):Tk K (upd H p o):=λb hb=>by
 by_cases e:b=p
 . rw[e];exact h
 . rw[aV e] at hb;exact t b hb
def Nw(K:Fg)(H:Hp)(a:Addr):Prop:=H a=none/\K.lookup a=none
theorem aFf{a:Addr}{xs:List V}(q:SqL K H a xs):¬ Nw K H a:=by
 rintro ⟨n,k⟩
 rcases q with(q|⟨o,q⟩)|⟨o,its,m,q,_⟩
 . rw[n] at q;cases q
 . rw[n] at q;cases q
 . rw[k] at q;cases q
theorem Reps.outN{ex:Addr->Prop}{d:List D}{v:List V}(h:Reps K H ex d v):Reps K H (λb=>ex b\/Nw K H b) d v:=
 Reps.imp (λ_ _ q=>q) (λb xs nb q=>⟨λz=>z.elim nb (aFf q),q⟩) (λ_ _ q=>q) d v h
theorem RvN.sub{ex:Addr->Prop}{v:Vl}{d:D}{x:V}(h:Rep K H' (λa=>exV RT Y old σ σV v.pa v.al a\/ex a) d x):Rep K H' (λa=>exV RT Y old σ σV (v.sub d).pa (v.sub d).al a\/ex a) (v.sub d).d x:=by
 unfold Vl.sub
 by_cases hn:noL d=true
 . rw[if_pos hn]
   exact Rep.free d x hn h
 . rw[if_neg hn]
   exact h
structure yS (K:Fg) (RT Y old:Addr->Prop) (σ:Sg) (σV:L2.St) (H1:Hp) (J:L2.It) (xs:List Vl) (al:List Nat):Prop where
 sub:∀v∈xs,∀j∈v.al,j∈al
 nofr:∀v∈xs,v.fr=false
 ok:∀(R:Addr->Prop),(∀b,R b->rtF RT σ σV al b)->∀(i:Nat) (H:Hp),Kp R H1 H->(i<xs.length->J.go i H)/\(xs.length<=i->J.stop i H)/\∀x H',J.yld i H x H'->∀v,xs[i]? = some v->aU H H'/\(Tk K H->Tk K H')/\Rep K H' (λa=>exV RT Y old σ σV v.pa v.al a\/Nw K H1 a) v.d x
theorem tM{v:Vl}{d:D}:∀j∈(v.sub d).al,j∈v.al:=by
 unfold Vl.sub Vl.cl
 split
 . intro j hj;cases hj
 . intro j hj;exact hj
theorem pL{v:Vl}{d:D}:(v.sub d).fr=false:=by
 unfold Vl.sub Vl.cl
 split <;> rfl
theorem jT{x:Vl}{ds:List D}{i:Nat}{v:Vl}(h:(items x ds)[i]? = some v):∃d,ds[i]? = some d/\v=x.sub d:=by
 unfold items at h
 rw[List.getElem?_map] at h
 cases q:ds[i]? with
 | none=>rw[q] at h;cases h
 | some d=>rw[q] at h;exact⟨d,rfl,(Option.some.inj h).symm⟩
theorem jA{al:List Nat}{pa:Bool}{b:Addr}(h:rtF RT σ σV al b):exV RT Y old σ σV pa al b:=.inl h
theorem nN:∀(as bs:List D),(eX as bs).length=min as.length bs.length
 | [],_=>by simp[eX]
 | _::_,[]=>by simp[eX]
 | _::as,_::bs=>by
  rw[eX,lC,nN as bs,lC,lC]
  omega
theorem vT:∀{as bs:List D} {i:Nat} {a b:D},as[i]? = some a->bs[i]? = some b->(eX as bs)[i]? = some (.tup [a,b])
 | [],_,_,_,_,h,_=>by simp at h
 | _::_,[],_,_,_,_,h=>by simp at h
 | _::_,_::_,0,_,_,h,h'=>by
  simp at h h'
  subst h h'
  rfl
 | _::as,_::bs,i+1,a,b,h,h'=>by
  have:=vT (as:=as) (bs:=bs) (i:=i) (a:=a) (b:=b) (by simpa using h) (by simpa using h')
  simpa[eX] using this
theorem aFg(S:Sx K RT Y old σ σV H){x:Vl}{ds:List D}{a:Addr}{xs:List V}(q:SqL K H a xs)(n:¬ exV RT Y old σ σV x.pa x.al a)(r:Reps K H (exV RT Y old σ σV x.pa x.al) ds xs) :
 yS K RT Y old σ σV H (Itl K a) (items x ds) x.al where
 sub:=λv hv j hj=>by
  obtain⟨d,_,e⟩:=List.mem_map.mp hv
  subst e
  exact tM j hj
 nofr:=λv hv=>by
  obtain⟨d,_,e⟩:=List.mem_map.mp hv
  subst e
  exact pL
 ok:=λR hR i H1 k=>by
  have q1:SqL K H1 a xs:=k.seqL (λz=>n (jA (hR a z))) q
  have r1:Reps K H1 (λa=>exV RT Y old σ σV x.pa x.al a\/Nw K H a) ds xs:=r.outN.kp k (λb z=>S.rt b (hR b z).1) λb z=>.inl (jA (hR b z))
  have hl:(items x ds).length=xs.length:=by unfold items;rw[lM,r.length]
  refine⟨λhi=>⟨xs,xs[i]'(by omega),q1,List.getElem?_eq_getElem (by omega)⟩,λhi=>⟨xs,q1,by omega⟩,λy H' hy v hv=>?_⟩
  obtain⟨e,hy⟩:=hy
  subst e
  obtain⟨d,hd,e⟩:=jT hv
  subst e
  obtain⟨y',hy',ry⟩:=r1.get hd
  rw[hy xs q1] at hy'
  cases hy'
  exact⟨aU.refl _,id,RvN.sub ry⟩
theorem aHt(S:Sx K RT Y old σ σV H){x:Vl}{ds:List D}{a:Addr}{xs:List V}(q:SqT K H a xs)(r:Reps K H (exV RT Y old σ σV x.pa x.al) ds xs) :
 yS K RT Y old σ σV H (Itt K a) (items x ds) x.al where
 sub:=λv hv j hj=>by
  obtain⟨d,_,e⟩:=List.mem_map.mp hv
  subst e
  exact tM j hj
 nofr:=λv hv=>by
  obtain⟨d,_,e⟩:=List.mem_map.mp hv
  subst e
  exact pL
 ok:=λR hR i H1 k=>by
  have q1:SqT K H1 a xs:=k.seqT (λb z=>S.rt b (hR b z).1) q
  have r1:Reps K H1 (λa=>exV RT Y old σ σV x.pa x.al a\/Nw K H a) ds xs:=r.outN.kp k (λb z=>S.rt b (hR b z).1) λb z=>.inl (jA (hR b z))
  have hl:(items x ds).length=xs.length:=by unfold items;rw[lM,r.length]
  refine⟨λhi=>⟨xs,xs[i]'(by omega),q1,List.getElem?_eq_getElem (by omega)⟩,λhi=>⟨xs,q1,by omega⟩,λy H' hy v hv=>?_⟩
  obtain⟨e,hy⟩:=hy
  subst e
  obtain⟨d,hd,e⟩:=jT hv
  subst e
  obtain⟨y',hy',ry⟩:=r1.get hd
  rw[hy xs q1] at hy'
  cases hy'
  exact⟨aU.refl _,id,RvN.sub ry⟩
theorem aCZ{lo:Int}{m:Nat}{xs:List Vl}(hx:xs=((List.range m).map λ(k:Nat)=>Vl.cl (.int (lo+(k:Int))))):yS K RT Y old σ σV H (Itr lo m) xs [] where
 sub:=λv hv j hj=>by
  subst hx
  obtain⟨d,_,e⟩:=List.mem_map.mp hv
  subst e
  exact hj
 nofr:=λv hv=>by
  subst hx
  obtain⟨d,_,e⟩:=List.mem_map.mp hv
  subst e
  rfl
 ok:=λR hR i H1 k=>by
  have hl:xs.length=m:=by rw[hx,lM,List.length_range]
  refine⟨λhi=>(show i<m by omega),λhi=>(show m<=i by omega),λy H' hy v hv=>?_⟩
  obtain⟨e,hy⟩:=hy
  subst e hy
  subst hx
  rw[List.getElem?_map] at hv
  have hi:i<m:=by
   have:=(List.getElem?_eq_some_iff.mp (show((List.range m).map λ(k:Nat)=>Vl.cl (.int (lo+(k:Int))))[i]? = some v by rw[List.getElem?_map];exact hv)).1
   simpa using this
  rw[List.getElem?_range hi] at hv
  cases hv
  exact⟨aU.refl _,id,rfl⟩
theorem aHu{z:Str}{xs:List Vl}(hx:xs=(z.cps.toList.map λn=>Vl.cl (.str ⟨#[n]⟩))):yS K RT Y old σ σV H (Its z) xs [] where
 sub:=λv hv j hj=>by
  subst hx
  obtain⟨d,_,e⟩:=List.mem_map.mp hv
  subst e
  exact hj
 nofr:=λv hv=>by
  subst hx
  obtain⟨d,_,e⟩:=List.mem_map.mp hv
  subst e
  rfl
 ok:=λR hR i H1 k=>by
  have hl:xs.length=z.cps.size:=by rw[hx,lM,Array.length_toList]
  refine⟨λhi=>(show i<z.cps.size by omega),λhi=>(show z.cps.size<=i by omega),λy H' hy v hv=>?_⟩
  obtain⟨e,c,hc,hy⟩:=hy
  subst e hy
  subst hx
  rw[List.getElem?_map,Array.getElem?_toList,hc] at hv
  cases hv
  exact⟨aU.refl _,id,rfl⟩
theorem aHv(S:Sx K RT Y old σ σV H){ka kb:Bool}{as bs:List D}{a b:Addr}{xs ys:List V}{pa:Bool}{al:List Nat}(qa:Sq ka K H a xs)(qb:Sq kb K H b ys)(na:ka=true->¬ exV RT Y old σ σV pa al a)(nb:kb=true->¬ exV RT Y old σ σV pa al b)
 (ra:Reps K H (exV RT Y old σ σV pa al) as xs) (rb:Reps K H (exV RT Y old σ σV pa al) bs ys):yS K RT Y old σ σV H (Itz K ka kb a b) (items ⟨.non,false,pa,al⟩ (eX as bs)) al where
 sub:=λv hv j hj=>by
  obtain⟨d,_,e⟩:=List.mem_map.mp hv
  subst e
  exact tM j hj
 nofr:=λv hv=>by
  obtain⟨d,_,e⟩:=List.mem_map.mp hv
  subst e
  exact pL
 ok:=λR hR i H1 k=>by
  have keep:∀{kk:Bool} {c:Addr} {zs:List V},(kk=true->¬ exV RT Y old σ σV pa al c)->Sq kk K H c zs->Sq kk K H1 c zs:=by
   intro kk c zs nn q
   cases kk with
   | true=>exact k.seqL (λz=>nn rfl (jA (hR c z))) q
   | false=>exact k.seqT (λb z=>S.rt b (hR b z).1) q
  have qa1:=keep na qa
  have qb1:=keep nb qb
  have ra1:Reps K H1 (λa=>exV RT Y old σ σV pa al a\/Nw K H a) as xs:=ra.outN.kp k (λb z=>S.rt b (hR b z).1) λb z=>.inl (jA (hR b z))
  have rb1:Reps K H1 (λa=>exV RT Y old σ σV pa al a\/Nw K H a) bs ys:=rb.outN.kp k (λb z=>S.rt b (hR b z).1) λb z=>.inl (jA (hR b z))
  have hl:(items ⟨.non,false,pa,al⟩ (eX as bs)).length=min xs.length ys.length:=by unfold items;rw[lM,nN,ra.length,rb.length]
  have ge:∀(h1:i<xs.length) (h2:i<ys.length),True:=λ_ _=>trivial
  refine⟨λhi=>?_,λhi=>⟨xs,ys,qa1,qb1,by omega⟩,λy H' hy v hv=>?_⟩
  . have h1:i<xs.length:=by omega
    have h2:i<ys.length:=by omega
    exact⟨xs,ys,xs[i],ys[i],qa1,qb1,List.getElem?_eq_getElem h1,List.getElem?_eq_getElem h2⟩
  . obtain⟨p,x,y',rfl,hp,hk,rfl,hh⟩:=hy
    obtain⟨hx,hy⟩:=hh xs ys qa1 qb1
    obtain⟨d,hd,e⟩:=jT hv
    subst e
    obtain⟨d1,hd1,rd1⟩:=ra1.get' hx
    obtain⟨d2,hd2,rd2⟩:=rb1.get' hy
    rw[vT hd1 hd2] at hd
    cases hd
    have sm:aU H1 (upd H1 p (.tup [x,y'])):=aU.new hp
    refine⟨sm,λtk=>tk.new hk,RvN.sub (v:=⟨.non,false,pa,al⟩) ?_⟩
    exact⟨p,[x,y'],rfl,SqT.of cU,.cons (rd1.grow sm) (.cons (rd2.grow sm) .nil)⟩
theorem lJ:∀(as:List D) (j:Int),(gC j as).length=as.length
 | [],_=>rfl
 | _::as,j=>by rw[gC,lC,lJ as,lC]
theorem rV:∀{as:List D} {i:Nat} {j:Int} {a:D},as[i]? = some a->(gC j as)[i]? = some (.tup [.int (j+(i:Int)),a])
 | [],_,_,_,h=>by simp at h
 | _::_,0,j,_,h=>by
  simp at h
  subst h
  simp[gC]
 | _::as,i+1,j,a,h=>by
  have:=rV (as:=as) (i:=i) (j:=j+1) (a:=a) (by simpa using h)
  rw[gC,gS,this]
  have e:j+1+(i:Int)=j+((i+1:Nat):Int):=by omega
  rw[e]
theorem aFh(S:Sx K RT Y old σ σV H){k:Bool}{as:List D}{a:Addr}{xs:List V}{x:Vl}(qa:Sq k K H a xs)(na:k=true->¬ exV RT Y old σ σV x.pa x.al a)(ra:Reps K H (exV RT Y old σ σV x.pa x.al) as xs) :
 yS K RT Y old σ σV H (Ite K k a) (items x (gC 0 as)) x.al where
 sub:=λv hv j hj=>by
  obtain⟨d,_,e⟩:=List.mem_map.mp hv
  subst e
  exact tM j hj
 nofr:=λv hv=>by
  obtain⟨d,_,e⟩:=List.mem_map.mp hv
  subst e
  exact pL
 ok:=λR hR i H1 kp=>by
  have qa1:Sq k K H1 a xs:=by
   cases k with
   | true=>exact kp.seqL (λz=>na rfl (jA (hR a z))) qa
   | false=>exact kp.seqT (λb z=>S.rt b (hR b z).1) qa
  have ra1:Reps K H1 (λa=>exV RT Y old σ σV x.pa x.al a\/Nw K H a) as xs:=ra.outN.kp kp (λb z=>S.rt b (hR b z).1) λb z=>.inl (jA (hR b z))
  have hl:(items x (gC 0 as)).length=xs.length:=by unfold items;rw[lM,lJ,ra.length]
  refine⟨λhi=>⟨xs,xs[i]'(by omega),qa1,List.getElem?_eq_getElem (by omega)⟩,λhi=>⟨xs,qa1,by omega⟩,λy H' hy v hv=>?_⟩
  obtain⟨p,z,rfl,hp,hk,rfl,hh⟩:=hy
  obtain⟨d,hd,e⟩:=jT hv
  subst e
  obtain⟨d1,hd1,rd1⟩:=ra1.get' (hh xs qa1)
  rw[rV hd1,Int.zero_add] at hd
  cases hd
  have sm:aU H1 (upd H1 p (.tup [.int i,z])):=aU.new hp
  refine⟨sm,λtk=>tk.new hk,RvN.sub (v:=x) ?_⟩
  exact⟨p,[.int i,z],rfl,SqT.of cU,.cons rfl (.cons (rd1.grow sm) .nil)⟩
end
section
variable {X:Cx} {P:Pg} {Γ:Ct} {n:Nat} {RT Y old:Addr->Prop} {σ:Sg} {tg:Expr}
def wI(X:Cx)(P:Pg)(n:Nat)(RT Y old:Addr->Prop)(σ:Sg)(it:Hp.It):TI:=λσV H R=>Sx X.K RT Y old σ σV H/\RE (walk P (call P n) σ it) λxs=>∀J H1,Tk X.K H1->aU H H1->yS X.K RT Y old σ σV H1 J xs.1 xs.2->R J H1
theorem pM{iter:Expr}{t t':TI}(h:PI X tg iter t)(f:∀σV H R,Tk X.K H->t' σV H R->t σV H λJ H'=>Tk X.K H'->R J H'):PI X tg iter t':=λpins s σV H R I hw=>
 thn (h pins s σV H _ I (f σV H R I.tk hw)) λv s1 h1=>thn h1 λitv s2 ⟨it,fp,tn,J,H',e,I',T,st,fo,q⟩=>⟨it,fp,tn,J,H',e,I',T,st,fo,q I'.tk⟩
theorem aKa{c:E}{e:Expr}(ha:PE X e (WE X P n RT Y old σ c)):PI X tg e (wI X P n RT Y old σ (.seq c)):=by
 refine pM (aHs ha) λσV H RR t ⟨S,h⟩=>?_
 have h:=RE.bind' (show RE (ev P (call P n) σ c >>= λx=>(match x.d with
  | .lst ds=>R.ok (items x ds,x.al)
  | .tup ds=>R.ok (items x ds,x.al)
  | .str a=>R.iff (decide (a.length<=lim)) (R.ok (a.cps.toList.map λn=>Vl.cl (.str ⟨#[n]⟩),[]))
  | _=>.bad)) _ from h)
 refine wE.one S h λx u H1 hx t1 S1 r1=>?_
 have rv:=r1.rv S
 split at hx
 . rename_i ds d1
   obtain⟨a,xs,e,q,nn,r⟩:=rv.lst d1
   exact .inl ⟨a,e,.inl ⟨⟨xs,q⟩,λt'=>hx _ _ t' r1.1 (aFg S1 q nn r)⟩⟩
 . rename_i ds d1
   obtain⟨a,xs,e,q,r⟩:=rv.tup d1
   exact .inl ⟨a,e,.inr ⟨⟨xs,q⟩,λt'=>hx _ _ t' r1.1 (aHt S1 q r)⟩⟩
 . rename_i z d1
   obtain⟨c,hx⟩:=hx.iff
   exact .inr ⟨z,rv.str d1,λt'=>hx _ _ t' r1.1 (aHu rfl)⟩
 . exact hx.elim
theorem pN(i j:Int):(iE i j).map Vl.cl=(List.range (j-i).toNat).map λ(k:Nat)=>Vl.cl (.int (i+(k:Int))):=by
 unfold iE
 rw[List.map_map]
 rfl
theorem mT{k:Int}(h:aL k=true):-(2 ^ 62)<=k/\k<2 ^ 62:=by
 unfold aL at h
 simp only[bA,decide_eq_true_eq] at h
 exact h
theorem aHw(M:Mc X P Γ n){b:E}{e:Expr}{f:Str}{p pos:Pos}(hf:f=("range" : Str))(hg:dJ Γ f=true)(ha:PE X e (WE X P n RT Y old σ b))(hp:bJ e=true):PI X tg (.Call (.Name f p) [e] [] pos) (wI X P n RT Y old σ (.rng (.c (.int 0)) b)):=by
 subst hf
 refine pM (aAS (M.gl hg) (M.md.blt _ (by decide +kernel)) (kO ha vQ hp) (aE hp)) λσV H RR t ⟨S,h⟩=>?_
 have h:RE (ev P (call P n) σ b) λy=>RE (match (D.int 0),y.d with|.int i,.int j=>R.iff (aL i&&aL j) (R.ok ((iE i j).map Vl.cl,[]))|_,_=>.bad) _:=
  RE.bind' (show RE (ev P (call P n) σ b >>= λy=>(match (D.int 0),y.d with|.int i,.int j=>R.iff (aL i&&aL j) (R.ok ((iE i j).map Vl.cl,[]))|_,_=>.bad)) _ from h)
 refine⟨S,?_⟩
 show RE (ev P (call P n) σ b >>= λx=>evs P (call P n) σ .nil >>= λxs=>R.ok (x::xs)) _
 rw[RE.bind]
 refine h.mono λy hy=>?_
 split at hy
 . rename_i i j e1 e2
   cases e1
   obtain⟨c,hy⟩:=hy.iff
   rw[bA] at c
   have c2:=mT c.2
   intro us H1 t1 s1 r1
   obtain⟨u,r',eu,ru,hr⟩:=r1
   rw[show r'=[] from hr] at eu
   subst eu
   refine⟨j,by rw[ru.int e2],c2.1,c2.2,λt'=>hy _ _ t' s1 (aCZ ?_)⟩
   rw[pN]
   simp
 . exact hy.elim
theorem aHx(M:Mc X P Γ n){a b:E}{ea eb:Expr}{f:Str}{p pos:Pos}(hf:f=("range" : Str))(hg:dJ Γ f=true)(ha:PE X ea (WE X P n RT Y old σ a))(hb:PE X eb (WE X P n RT Y old σ b))(hpa:bJ ea=true)(hpb:bJ eb=true) :
 PI X tg (.Call (.Name f p) [ea,eb] [] pos) (wI X P n RT Y old σ (.rng a b)):=by
 subst hf
 refine pM (aAT (M.gl hg) (M.md.blt _ (by decide +kernel)) (kO ha (kO hb vQ hpb) hpa) (by rw[aE hpa,aE hpb];rfl) (aE hpb)) λσV H RR t ⟨S,h⟩=>?_
 have h:=RE.bind' (show RE (ev P (call P n) σ a >>= λx=>ev P (call P n) σ b >>= λy=>(match x.d,y.d with|.int i,.int j=>R.iff (aL i&&aL j) (R.ok ((iE i j).map Vl.cl,[]))|_,_=>.bad)) _ from h)
 refine⟨S,?_⟩
 show RE (ev P (call P n) σ a >>= λx=>evs P (call P n) σ (.cons b .nil) >>= λxs=>R.ok (x::xs)) _
 rw[RE.bind]
 refine h.mono λx hx=>?_
 rw[RE.bind]
 show RE (ev P (call P n) σ b >>= λx=>evs P (call P n) σ .nil >>= λxs=>R.ok (x::xs)) _
 rw[RE.bind]
 refine(RE.bind' hx).mono λy hy=>?_
 split at hy
 . rename_i i j e1 e2
   obtain⟨c,hy⟩:=hy.iff
   rw[bA] at c
   have c1:=mT c.1
   have c2:=mT c.2
   intro us H1 t1 s1 r1
   obtain⟨u,r',eu,ru,u2,r2,eu2,ru2,hr⟩:=r1
   rw[show r2=[] from hr] at eu2
   subst eu2
   subst eu
   refine⟨i,j,by rw[ru.int e1,ru2.int e2],⟨c1.1,c1.2,c2.1,c2.2⟩,λt'=>hy _ _ t' s1 (aCZ ?_)⟩
   rw[pN]
 . exact hy.elim
theorem yT{σV:L2.St}{H:Hp}{x:Vl}{u:V}{ds:List D}(hx:Rv X.K RT Y old σ σV H x u)(h:iU x.d=some ds):∃(k:Bool) (a:Addr) (xs:List V),u=.ref a/\Sq k X.K H a xs/\(k=true->¬ exV RT Y old σ σV x.pa x.al a)/\Reps X.K H (exV RT Y old σ σV x.pa x.al) ds xs:=by
 unfold iU at h
 split at h
 . rename_i ds' d1
   cases h
   obtain⟨a,xs,e,q,nn,r⟩:=hx.lst d1
   exact⟨true,a,xs,e,q,λ_=>nn,r⟩
 . rename_i ds' d1
   cases h
   obtain⟨a,xs,e,q,r⟩:=hx.tup d1
   exact⟨false,a,xs,e,q,(λz=>absurd z bN),r⟩
 . cases h
theorem aKb(M:Mc X P Γ n){a b:E}{ea eb:Expr}{f:Str}{p pos:Pos}{elts:List Expr}{tk:Nat}{tp:Pos}(hf:f=("zip" : Str))(hg:dJ Γ f=true)(ha:PE X ea (WE X P n RT Y old σ a))(hb:PE X eb (WE X P n RT Y old σ b))(hpa:bJ ea=true)(hpb:bJ eb=true) :
 PI X (.Tuple elts tk tp) (.Call (.Name f p) [ea,eb] [] pos) (wI X P n RT Y old σ (.zip a b)):=by
 subst hf
 refine pM (aHr (M.gl hg) (M.md.blt _ (by decide +kernel)) (kO ha (kO hb vQ hpb) hpa) (by rw[aE hpa,aE hpb];rfl) (aE hpb)) λσV H RR t ⟨S,h⟩=>?_
 have h:=RE.bind' (show RE (ev P (call P n) σ a >>= λx=>ev P (call P n) σ b >>= λy=>(match iU x.d,iU y.d with
  | some as,some bs=>R.ok (items ⟨.non,false,x.pa||y.pa,x.al++y.al⟩ (eX as bs),x.al++y.al)
  | _,_=>.bad)) _ from h)
 refine⟨S,?_⟩
 show RE (ev P (call P n) σ a >>= λx=>evs P (call P n) σ (.cons b .nil) >>= λxs=>R.ok (x::xs)) _
 rw[RE.bind]
 refine h.mono λx hx=>?_
 rw[RE.bind]
 show RE (ev P (call P n) σ b >>= λx=>evs P (call P n) σ .nil >>= λxs=>R.ok (x::xs)) _
 rw[RE.bind]
 refine(RE.bind' hx).mono λy hy=>?_
 split at hy
 . rename_i as bs e1 e2
   intro us H1 t1 s1 r1
   obtain⟨u,r',eu,ru,u2,r2,eu2,ru2,hr⟩:=r1
   rw[show r2=[] from hr] at eu2
   subst eu2
   subst eu
   obtain⟨ka,a1,xs,rfl,qa,na,ra⟩:=yT ru e1
   obtain⟨kb,b1,ys,rfl,qb,nb,rb⟩:=yT ru2 e2
   have S1:=S.grow s1 t1
   have w1:∀c,exV RT Y old σ σV (x.pa||y.pa) (x.al++y.al) c->exV RT Y old σ σV x.pa x.al c:=λc z=>z.mono (λhp=>by rw[hp];rfl) λj hj=>List.mem_append_left _ hj
   have w2:∀c,exV RT Y old σ σV (x.pa||y.pa) (x.al++y.al) c->exV RT Y old σ σV y.pa y.al c:=λc z=>z.mono (λhp=>by rw[hp,Bool.or_true]) λj hj=>List.mem_append_right _ hj
   exact⟨ka,kb,a1,b1,xs,ys,rfl,qa,qb,λt'=>hy _ _ t' s1 (aHv S1 qa qb (λhk z=>na hk (w1 _ z)) (λhk z=>nb hk (w2 _ z)) (ra.weak w1) (rb.weak w2))⟩
 . exact hy.elim
theorem aHy(M:Mc X P Γ n){a:E}{ea:Expr}{f:Str}{p pos:Pos}{elts:List Expr}{tk:Nat}{tp:Pos}(hf:f=("enumerate" : Str))(hg:dJ Γ f=true)(ha:PE X ea (WE X P n RT Y old σ a))(hpa:bJ ea=true) :
 PI X (.Tuple elts tk tp) (.Call (.Name f p) [ea] [] pos) (wI X P n RT Y old σ (.enum a)):=by
 subst hf
 refine pM (aFe (M.gl hg) (M.md.blt _ (by decide +kernel)) (kO ha vQ hpa) (aE hpa)) λσV H RR t ⟨S,h⟩=>?_
 have h:=RE.bind' (show RE (ev P (call P n) σ a >>= λx=>(match iU x.d with|some as=>R.ok (items x (gC 0 as),x.al)|none=>.bad)) _ from h)
 refine⟨S,?_⟩
 show RE (ev P (call P n) σ a >>= λx=>evs P (call P n) σ .nil >>= λxs=>R.ok (x::xs)) _
 rw[RE.bind]
 refine h.mono λx hx=>?_
 split at hx
 . rename_i as e1
   intro us H1 t1 s1 r1
   obtain⟨u,r',eu,ru,hr⟩:=r1
   rw[show r'=[] from hr] at eu
   subst eu
   obtain⟨k,a1,xs,rfl,qa,na,ra⟩:=yT ru e1
   exact⟨k,a1,xs,rfl,qa,λt'=>hx _ _ t' s1 (aFh (S.grow s1 t1) qa na ra)⟩
 . exact hx.elim
end
section
variable {X:Cx} {P:Pg} {n:Nat} {Γ:Ct} {RT Y old:Addr->Prop} {σ:Sg}
end
def gs:List Nat->TGs
 | []=>aIZ
 | i::is=>aFQ (rG i) (gs is)
def gT(K:Fg):T->TG
 | .n i=>rG i
 | .t is=>aJa K is.length (gs is)
section
variable {K:Fg} {RT Y old:Addr->Prop} {σ:Sg} {σV:L2.St} {H H':Hp}
theorem set_some{α:Type}{l:List α}{i j:Nat}{x y:α}(e:(l.set i x)[j]? = some y):(i=j/\x=y/\i<l.length)\/(i≠j/\l[j]? = some y):=by
 by_cases hij:i=j
 . subst hij
   have hl:i<(l.set i x).length:=(List.getElem?_eq_some_iff.mp e).1
   rw[List.length_set] at hl
   rw[List.getElem?_set_self hl] at e
   cases e
   exact .inl ⟨rfl,rfl,hl⟩
 . rw[List.getElem?_set_ne hij] at e
   exact .inr ⟨hij,e⟩
theorem Sx.setSh(S:Sx K RT Y old σ σV H){i:Nat}{pa:Bool}{d:D}{u:V}(h:Rep K H (λa=>RT a\/exB Y old pa a) d u):Sx K RT Y old (σ.set i (.sh pa d)) (σV.set i (some u)) H where
 sh:=λj pa' d' e=>by
  rcases set_some e with⟨rfl,e,hl⟩|⟨hij,e⟩
  . cases e
    exact⟨u,List.getElem?_set_self (by rw[<-S.len];exact hl),h⟩
  . obtain⟨v,h1,h2⟩:=S.sh j pa' d' e
    exact⟨v,by rw[List.getElem?_set_ne hij];exact h1,h2⟩
 own:=λj pa' ds e=>by
  rcases set_some e with⟨rfl,e,hl⟩|⟨hij,e⟩
  . cases e
  . obtain⟨a,xs,h1,h2⟩:=S.own j pa' ds e
    exact⟨a,xs,by rw[List.getElem?_set_ne hij];exact h1,h2⟩
 trk:=S.trk
 yo:=S.yo
 tk:=S.tk
 rt:=S.rt
 inj:=λj j' pa' pa'' ds ds' a e1 e2 e3 e4=>by
  rcases set_some e1 with⟨_,e,_⟩|⟨n1,e1⟩
  . cases e
  rcases set_some e2 with⟨_,e,_⟩|⟨n2,e2⟩
  . cases e
  rw[List.getElem?_set_ne n1] at e3
  rw[List.getElem?_set_ne n2] at e4
  exact S.inj j j' pa' pa'' ds ds' a e1 e2 e3 e4
 len:=by rw[List.length_set,List.length_set];exact S.len
theorem Rep.out{ex:Addr->Prop}{d:D}{v:V}{a:Addr}(h:Rep K H ex d v)(n:H a=none)(k:K.lookup a=none):Rep K H (λb=>b=a\/ex b) d v:=
 Rep.imp (λ_ _ q=>q) (λb xs nb q=>⟨λz=>z.elim (λz=>by
  subst z
  rcases q with(q|⟨o,q⟩)|⟨o,its,m,q,_⟩
  . rw[n] at q;cases q
  . rw[n] at q;cases q
  . rw[k] at q;cases q) nb,q⟩) (λ_ _ q=>q) d v h
theorem Reps.out{ex:Addr->Prop}{d:List D}{v:List V}{a:Addr}(h:Reps K H ex d v)(n:H a=none)(k:K.lookup a=none):Reps K H (λb=>b=a\/ex b) d v:=
 Reps.imp (λ_ _ q=>q) (λb xs nb q=>⟨λz=>z.elim (λz=>by
  subst z
  rcases q with(q|⟨o,q⟩)|⟨o,its,m,q,_⟩
  . rw[n] at q;cases q
  . rw[n] at q;cases q
  . rw[k] at q;cases q) nb,q⟩) (λ_ _ q=>q) d v h
theorem Sx.storeOwn(S:Sx K RT Y old σ σV H){i:Nat}{a:Addr}{xs:List V}{ds:List D}{pa:Bool}(s:aU H H')(t:Tk K H')(hn:H a=none)(ha:H' a=some (.lst xs))(r:Reps K H' (λb=>(RT b\/b=a)\/exB Y old pa b) ds xs) :
 Sx K (λb=>RT b\/b=a) Y old (σ.set i (.own pa ds)) (σV.set i (some (.ref a))) H' where
 sh:=λj pa' d' e=>by
  rcases set_some e with⟨rfl,e,hl⟩|⟨hij,e⟩
  . cases e
  . obtain⟨v,h1,h2⟩:=S.sh j pa' d' e
    refine⟨v,by rw[List.getElem?_set_ne hij];exact h1,((h2.out hn (t a (by rw[ha];simp))).grow s).weak λb z=>?_⟩
    rcases z with(z|z)|z
    . exact .inr (.inl z)
    . exact .inl z
    . exact .inr (.inr z)
 own:=λj pa' ds' e=>by
  rcases set_some e with⟨rfl,e,hl⟩|⟨hij,e⟩
  . cases e
    exact⟨a,xs,List.getElem?_set_self (by rw[<-S.len];exact hl),ha,.inr rfl,λz=>S.trk a (.inr (.inr z)) hn,r⟩
  . obtain⟨a',xs',h1,h2,h3,h4,h5⟩:=S.own j pa' ds' e
    refine⟨a',xs',by rw[List.getElem?_set_ne hij];exact h1,s _ _ h2,.inl h3,h4,((h5.out hn (t a (by rw[ha];simp))).grow s).weak λb z=>?_⟩
    rcases z with(z|z)|z
    . exact .inr (.inl z)
    . exact .inl z
    . exact .inr (.inr z)
 trk:=λb z q=>by
  rcases z with(z|z)|z
  . exact S.trk b (.inl z) (s.free q)
  . rw[z,ha] at q;cases q
  . exact S.trk b (.inr z) (s.free q)
 yo:=S.yo
 tk:=t
 rt:=λb z=>by
  rcases z with z|z
  . obtain⟨ys,e⟩:=S.rt b z
    exact⟨ys,s _ _ e⟩
  . rw[z];exact⟨xs,ha⟩
 inj:=λj j' pa' pa'' ds1 ds2 c e1 e2 e3 e4=>by
  have fr:∀{j:Nat} {pa:Bool} {ds:List D},σ[j]? = some (.own pa ds)->σV[j]? = some (some (.ref a))->False:=λ{j pa ds} e q=>by
   obtain⟨a',xs',h1,h2,_⟩:=S.own j pa ds e
   rw[q] at h1
   cases h1
   rw[hn] at h2;cases h2
  rcases set_some e1 with⟨rfl,e,hl⟩|⟨n1,e1⟩
  . rcases set_some e2 with⟨rfl,_,_⟩|⟨n2,e2⟩
    . rfl
    . rw[List.getElem?_set_self (by rw[<-S.len];exact hl)] at e3
      cases e3
      rw[List.getElem?_set_ne n2] at e4
      exact(fr e2 e4).elim
  . rw[List.getElem?_set_ne n1] at e3
    rcases set_some e2 with⟨rfl,e,hl⟩|⟨n2,e2⟩
    . rw[List.getElem?_set_self (by rw[<-S.len];exact hl)] at e4
      cases e4
      exact(fr e1 e3).elim
    . rw[List.getElem?_set_ne n2] at e4
      exact S.inj j j' pa' pa'' ds1 ds2 c e1 e2 e3 e4
 len:=by rw[List.length_set,List.length_set];exact S.len
theorem jU{v:Vl}(h:v.fr=false):v.slot=.sh v.pa v.d:=by
 unfold Vl.slot
 rw[h]
theorem aFi{v:Vl}{ds:List D}(h:v.fr=true)(hd:v.d=.lst ds):v.slot=.own v.pa ds:=by
 unfold Vl.slot
 rw[h,hd]
theorem Sx.store(S:Sx K RT Y old σ σV H){v:Vl}{u:V}(ro:Ro K RT Y old σ σV H H' v u)(t:Tk K H')(i:Nat) :
 ∃RT',Sx K RT' Y old ((freeze σ v.al).set i v.slot) (σV.set i (some u)) H'/\∀b,RT' b->RT b\/H b=none:=by
 by_cases hf:v.fr=true
 . obtain⟨s,h⟩:=ro
   rw[if_pos hf] at h
   obtain⟨a,xs,ds,e1,e2,e3,e4,r⟩:=h
   subst e1
   rw[aFi hf e2]
   refine⟨_,(S.frz v.al).storeOwn s t e3 e4 (r.weak λb z=>?_),λb z=>z.elim (λz=>.inl z.1) λz=>.inr (by rw[z];exact e3)⟩
   rcases z with(z|z)|z
   . exact .inr (.inl z)
   . exact .inl z
   . exact .inr (.inr z)
 . rw[jU (by simpa using hf)]
   exact⟨_,((S.grow ro.1 t).frz v.al).setSh (ro.rv S),λb z=>.inl z.1⟩
theorem aGe:∀{is:List Nat} {us:List V} {σV:L2.St} {H:Hp} {Q:L2.St->Hp->Prop},is.length=us.length->Q ((is.zip us).foldl (λs p=>s.set p.1 (some p.2)) σV) H->gs is us σV H Q
 | [],[],_,_,_,_,h=>⟨rfl,h⟩
 | [],_::_,_,_,_,e,_=>by simp at e
 | _::_,[],_,_,_,e,_=>by simp at e
 | i::is,u::us,σV,H,Q,e,h=>⟨u,us,rfl,aGe (is:=is) (us:=us) (by simpa using e) h⟩
theorem vU{v:Vl}{d:D}:(v.sub d).slot=.sh (!noL d&&v.pa) d:=by
 rw[jU pL]
 unfold Vl.sub Vl.cl
 split
 . rename_i h;rw[h];rfl
 . rename_i h
   have:noL d=false:=by simpa using h
   rw[this];rfl
theorem Sx.setAll{v:Vl}:∀{is:List Nat} {ds:List D} {us:List V} {σ:Sg} {σV:L2.St},Sx K RT Y old σ σV H->Reps K H (λa=>RT a\/exB Y old v.pa a) ds us ->
 Sx K RT Y old ((is.zip ds).foldl (λσ p=>σ.set p.1 (v.sub p.2).slot) σ) ((is.zip us).foldl (λs p=>s.set p.1 (some p.2)) σV) H
 | [],_,_,_,_,S,_=>S
 | _::_,[],us,_,_,S,r=>by rw[show us=[] from r];exact S
 | i::is,d::ds,us,σ,σV,S,r=>by
  obtain⟨x,r',e,h1,h2⟩:=r
  subst e
  refine Sx.setAll (v:=v) (is:=is) (ds:=ds) (us:=r') ?_ h2
  show Sx K RT Y old (σ.set i (v.sub d).slot) (σV.set i (some x)) H
  rw[vU]
  refine S.setSh ?_
  cases hn:noL d with
  | true=>exact Rep.free d x hn h1
  | false=>exact h1
theorem mU{α:Type}{β:Type}(f:β->α):∀{is:List Nat} {bs:List β} {l:List α} {j:Nat},j∉is->((is.zip bs).foldl (λs p=>s.set p.1 (f p.2)) l)[j]? = l[j]?
 | [],_,_,_,_=>rfl
 | _::_,[],_,_,_=>rfl
 | i::is,b::bs,l,j,h=>by
  have h':i≠j/\j∉is:=by
   refine⟨λe=>h (by simp[e]),λz=>h (List.mem_cons_of_mem _ z)⟩
  rw[List.zip_cons_cons,List.foldl_cons,mU f (is:=is) (bs:=bs) h'.2,List.getElem?_set_ne h'.1]
theorem vV{α:Type}{β:Type}(f:β->α):∀{is:List Nat} {bs:List β} {l:List α},((is.zip bs).foldl (λs p=>s.set p.1 (f p.2)) l).length=l.length
 | [],_,_=>rfl
 | _::_,[],_=>rfl
 | i::is,b::bs,l=>by rw[List.zip_cons_cons,List.foldl_cons,vV f (is:=is) (bs:=bs),List.length_set]
theorem fold_mem{α:Type}{β:Type}(f:β->α):∀{is:List Nat} {bs:List β} {l:List α} {j:Nat} {x:α},((is.zip bs).foldl (λs p=>s.set p.1 (f p.2)) l)[j]? = some x->l[j]? = some x\/∃b,x=f b
 | [],_,_,_,_,h=>.inl h
 | _::_,[],_,_,_,h=>.inl h
 | i::is,b::bs,l,j,x,h=>by
  rw[List.zip_cons_cons,List.foldl_cons] at h
  rcases fold_mem f (is:=is) (bs:=bs) h with q|q
  . rcases set_some q with⟨_,e,_⟩|⟨_,e⟩
    . exact .inr ⟨b,e.symm⟩
    . exact .inl e
  . exact .inr q
theorem pO{v:Vl}{is:List Nat}{σ2:Sg}(e:cH σ v (.t is)=.ok σ2):∃ds,v.d=.tup ds/\ds.length=is.length/\σ2=(is.zip ds).foldl (λσ p=>σ.set p.1 (v.sub p.2).slot) σ:=by
 unfold cH at e
 simp only at e
 split at e
 . rename_i ds hd
   split at e
   . rename_i hl
     cases e
     exact⟨ds,hd,hl,rfl⟩
   . cases e
 . cases e
theorem pP{v:Vl}{i:Nat}{σ2:Sg}(e:cH σ v (.n i)=.ok σ2):σ2=σ.set i v.slot:=by
 cases(show R.ok (σ.set i v.slot)=R.ok σ2 from e)
 rfl
theorem aDa{v:Vl}{t:T}{σ2:Sg}{j:Nat}(e:cH σ v t=.ok σ2)(h:j∉tIx t):σ2[j]? = σ[j]? := by
 cases t with
 | n i=>
  rw[pP e]
  exact List.getElem?_set_ne λz=>h (by simp[tIx,z])
 | t is=>
  obtain⟨ds,_,_,e⟩:=pO e
  rw[e]
  exact mU (λd=>(v.sub d).slot) h
theorem aDb{v:Vl}{t:T}{σ2:Sg}(e:cH σ v t=.ok σ2):σ2.length=σ.length:=by
 cases t with
 | n i=>rw[pP e,List.length_set]
 | t is=>
  obtain⟨ds,_,_,e⟩:=pO e
  rw[e]
  exact vV (λd=>(v.sub d).slot)
theorem aDc{v:Vl}{t:T}{σ2:Sg}{j:Nat}{pa:Bool}{ds:List D}(hf:v.fr=false)(e:cH σ v t=.ok σ2)(h:σ2[j]? = some (.own pa ds)):σ[j]? = some (.own pa ds):=by
 cases t with
 | n i=>
  rw[pP e,jU hf] at h
  rcases set_some h with⟨_,e,_⟩|⟨_,e⟩
  . cases e
  . exact e
 | t is=>
  obtain⟨ds',_,_,e⟩:=pO e
  rw[e] at h
  rcases fold_mem (λd=>(v.sub d).slot) h with q|⟨b,q⟩
  . exact q
  . rw[vU] at q;cases q
theorem aDd(S:Sx K RT Y old σ σV H){t:T}{v:Vl}{u:V}{Q:L2.St->Hp->Prop}{σ2:Sg}(hfr:v.fr=false)(h:Rep K H (λa=>RT a\/exB Y old v.pa a) v.d u)(e:cH σ v t=.ok σ2)
 (q:∀σ2V,Sx K RT Y old σ2 σ2V H->(∀j,j∉tIx t->σ2V[j]? = σV[j]?)->Q σ2V H):gT K t u σV H Q:=by
 cases t with
 | n i=>
  rw[pP e,jU hfr] at q
  exact q _ (S.setSh h) λj hj=>List.getElem?_set_ne λz=>hj (by simp[tIx,z])
 | t is=>
  obtain⟨ds,hd,hl,e⟩:=pO e
  rw[hd] at h
  obtain⟨a,xs,rfl,hq,r⟩:=h
  have l2:=r.length
  refine⟨a,xs,rfl,hq,by omega,aGe (by omega) (q _ ?_ λj hj=>?_)⟩
  . rw[e];exact S.setAll r
  . exact mU (λd=>some d) hj
end
section
variable {X:Cx} {P:Pg} {Γ:Ct} {n:Nat} {RT Y old:Addr->Prop} {σ:Sg} {tg:Expr} {pos:Pos}
theorem vW(M:Mc X P Γ n):∀{is:List Nat} {es:List Expr},is.length=es.length->((is.zip es).all λp=>match p.2 with|.Name x _=>cT Γ p.1 x|_=>false)=true ->
 PGs X es (gs is)/\(assignEach es X.env).length=is.length/\(assignEach es X.env).findIdx? (·.1)=none
 | [],[],_,_=>⟨aEy,rfl,rfl⟩
 | [],_::_,e,_=>by simp at e
 | _::_,[],e,_=>by simp at e
 | i::is,e::es,hl,h=>by
  rw[List.zip_cons_cons,List.all_cons,bA] at h
  obtain⟨h1,h2,h3⟩:=vW M (is:=is) (es:=es) (by simpa using hl) h.2
  cases e with
  | Name x p=>
   have hs:cT Γ i x=true:=h.1
   unfold cT at hs
   simp only[bA,beq_iff_eq] at hs
   have e1:assignEach (.Name x p::es) X.env=(false,assign (.Name x p) X.env)::assignEach es X.env:=rfl
   refine⟨aCh (zY M.nd (by rw[M.N];exact hs.1.1) (M.loc hs.1.2) (M.st x hs.1.2)) h1 (by rw[e1];rfl),?_,?_⟩
   . rw[e1,lC,lC,h2]
   . rw[e1,List.findIdx?_cons]
     simp[h3]
  | _=>cases h.1
theorem aFj(M:Mc X P Γ n){t:T}(h:rB Γ t tg=true):PG X tg (gT X.K t):=by
 cases t with
 | n i=>
  cases tg with
  | Name x p=>
   have hs:cT Γ i x=true:=h
   unfold cT at hs
   simp only[bA,beq_iff_eq] at hs
   exact zY M.nd (by rw[M.N];exact hs.1.1) (M.loc hs.1.2) (M.st x hs.1.2)
  | _=>cases h
 | t is=>
  cases tg with
  | Tuple es k p=>
   have h:(is.length==es.length&&(is.zip es).all λp=>match p.2 with|.Name x _=>cT Γ p.1 x|_=>false)=true:=h
   rw[bA,beq_iff_eq] at h
   obtain⟨h1,h2,h3⟩:=vW M h.1 h.2
   exact aGI M.calm h1 h2 h3
  | _=>cases h
def ch0(k:Nat)(caps:List Nat)(σ:Sg):Sg:=List.replicate k .dead++caps.map λi=>(σ[i]?).getD .dead
theorem ch0_get{k:Nat}{caps:List Nat}{σ:Sg}{j:Nat}{s:Sl}(h:(ch0 k caps σ)[j]? = some s):s=.dead\/∃j' i,j=k+j'/\caps[j']? = some i/\σ[i]? = some s:=by
 unfold ch0 at h
 by_cases hj:j<k
 . rw[List.getElem?_append_left (by simpa using hj),List.getElem?_replicate,if_pos hj] at h
   cases h
   exact .inl rfl
 . rw[List.getElem?_append_right (by simpa using hj),List.length_replicate,List.getElem?_map] at h
   cases e:caps[j-k]? with
   | none=>rw[e] at h;cases h
   | some i=>
    rw[e] at h
    have h':(σ[i]?).getD .dead=s:=Option.some.inj h
    cases q:σ[i]? with
    | none=>rw[q] at h';exact .inl h'.symm
    | some z=>rw[q] at h';exact .inr ⟨j-k,i,by omega,e,by rw[q];exact congrArg some h'⟩
theorem aDe{k:Nat}{caps:List Nat}{σ:Sg}{j:Nat}{s:Sl}(hj:j<k)(h:(ch0 k caps σ)[j]? = some s):s=.dead:=by
 unfold ch0 at h
 rw[List.getElem?_append_left (by simpa using hj),List.getElem?_replicate,if_pos hj] at h
 cases h
 rfl
theorem aAi{k:Nat}{caps:List Nat}{σV:L2.St}{j i:Nat}{v:V}(e:caps[j]? = some i)(h:σV[i]? = some (some v)):(kN k caps σV)[k+j]? = some (some v):=by
 unfold kN
 rw[List.getElem?_append_right (by simp),List.length_replicate,List.getElem?_map,Nat.add_sub_cancel_left,e]
 show some ((σV[i]?).getD none)=_
 rw[h];rfl
theorem tN{k:Nat}{caps:List Nat}{σV:L2.St}{j i:Nat}{v:V}(e:caps[j]? = some i)(h:(kN k caps σV)[k+j]? = some (some v)):σV[i]? = some (some v):=by
 unfold kN at h
 rw[List.getElem?_append_right (by simp),List.length_replicate,List.getElem?_map,Nat.add_sub_cancel_left,e] at h
 have h':(σV[i]?).getD none=some v:=Option.some.inj h
 cases q:σV[i]? with
 | none=>rw[q] at h';cases h'
 | some z=>rw[q] at h';exact congrArg some h'
theorem rW{α:Type}:∀{l:List α},l.Nodup->∀{i j:Nat} {x:α},l[i]? = some x->l[j]? = some x->i=j
 | [],_,_,_,_,h,_=>by simp at h
 | a::l,hn,0,0,_,_,_=>rfl
 | a::l,hn,0,j+1,x,h1,h2=>by
  have e:a=x:=by simpa using h1
  have:x∈l:=mG (by simpa using h2)
  subst e
  exact absurd this (List.nodup_cons.mp hn).1
 | a::l,hn,i+1,0,x,h1,h2=>by
  have e:a=x:=by simpa using h2
  have:x∈l:=mG (by simpa using h1)
  subst e
  exact absurd this (List.nodup_cons.mp hn).1
 | a::l,hn,i+1,j+1,x,h1,h2=>congrArg (·+1) (rW (List.nodup_cons.mp hn).2 (i:=i) (j:=j) (x:=x) (by simpa using h1) (by simpa using h2))
theorem Sx.child{K:Fg}{σV:L2.St}{H:Hp}(S:Sx K RT Y old σ σV H){k:Nat}{caps:List Nat}(nd:caps.Nodup):Sx K RT Y old (ch0 k caps σ) (kN k caps σV) H where
 sh:=λj pa d e=>by
  rcases ch0_get e with z|⟨j',i,rfl,hc,hs⟩
  . cases z
  . obtain⟨v,h1,h2⟩:=S.sh i pa d hs
    exact⟨v,aAi hc h1,h2⟩
 own:=λj pa ds e=>by
  rcases ch0_get e with z|⟨j',i,rfl,hc,hs⟩
  . cases z
  . obtain⟨a,xs,h1,h2⟩:=S.own i pa ds hs
    exact⟨a,xs,aAi hc h1,h2⟩
 trk:=S.trk
 yo:=S.yo
 tk:=S.tk
 rt:=S.rt
 inj:=λj1 j2 pa pa' ds ds' a e1 e2 e3 e4=>by
  rcases ch0_get e1 with z|⟨j1',i1,rfl,hc1,hs1⟩
  . cases z
  rcases ch0_get e2 with z|⟨j2',i2,rfl,hc2,hs2⟩
  . cases z
  have:=S.inj i1 i2 pa pa' ds ds' a hs1 hs2 (tN hc1 e3) (tN hc2 e4)
  subst this
  rw[rW nd hc1 hc2]
 len:=by
  unfold ch0 kN
  rw[lA,lA,lM,lM,List.length_replicate,List.length_replicate]
theorem Sx.forget{K:Fg}{σ':Sg}{σV:L2.St}{H:Hp}(S:Sx K RT Y old σ σV H)(hl:σ'.length=σ.length)(h:∀(j:Nat) (s:Sl),σ'[j]? = some s->s=.dead\/σ[j]? = some s):Sx K RT Y old σ' σV H where
 sh:=λj pa d e=>by
  rcases h j _ e with z|z
  . cases z
  . exact S.sh j pa d z
 own:=λj pa d e=>by
  rcases h j _ e with z|z
  . cases z
  . exact S.own j pa d z
 trk:=S.trk
 yo:=S.yo
 tk:=S.tk
 rt:=S.rt
 inj:=λj1 j2 pa pa' ds ds' a e1 e2 e3 e4=>by
  rcases h j1 _ e1 with z|z1
  . cases z
  rcases h j2 _ e2 with z|z2
  . cases z
  exact S.inj j1 j2 pa pa' ds ds' a z1 z2 e3 e4
 len:=by rw[hl];exact S.len
def wTs(X:Cx)(P:Pg)(n:Nat)(RT Y old:Addr->Prop)(σ:Sg)(cs:Es):TT:=λσV H Q=>Sx X.K RT Y old σ σV H/\RE (tsts P (call P n) σ cs) λk=>∀H',Tk X.K H'->aU H H'->Q k H'
theorem aHz:PTs X [] (wTs X P n RT Y old σ .nil):=λpins s σV H Q I ⟨S,h⟩=>aEX pins s σV H Q I ((show ∀H',Tk X.K H'->aU H H'->Q true H' from h) H I.tk (aU.refl H))
theorem aHA{c:E}{e:Expr}(h:PT X e (WT X P n RT Y old σ c)):PTs X [e] (wTs X P n RT Y old σ (.cons c .nil)):=λpins s σV H Q I ⟨S,hh⟩=>aEY h pins s σV H Q I ⟨S,by
 have hh:=RE.bind' (show RE (tst P (call P n) σ c >>= λx=>if x=true then tsts P (call P n) σ .nil else R.ok false) _ from hh)
 refine hh.mono λk hk=>?_
 cases k with
 | true=>exact hk
 | false=>exact hk⟩
theorem Rvs.append{K:Fg}{σV:L2.St}{H:Hp}:∀{vs ws:List Vl} {us zs:List V},Rvs K RT Y old σ σV H vs us->Rvs K RT Y old σ σV H ws zs->Rvs K RT Y old σ σV H (vs++ws) (us++zs)
 | [],_,_,_,h,q=>by rw[show _=[] from h];exact q
 | v::vs,_,_,_,h,q=>by
  obtain⟨u,r,e,h1,h2⟩:=h
  subst e
  exact⟨u,_,rfl,h1,Rvs.append h2 q⟩
def lv(k:Nat)(caps al:List Nat)(v:Vl):Vl:=⟨v.d,false,v.pa,al++v.al.filterMap λj=>caps[j-k]?⟩
theorem vX{f:Vl->R (Option Vl)}{x:Vl}{xs rs:List Vl}(h:eO f (x::xs)=.ok rs):∃y ys,f x=.ok y/\eO f xs=.ok ys/\rs=(match y with|some y=>y::ys|none=>ys):=by
 have h:(f x >>= λy=>eO f xs >>= λys=>(match y with|some y=>R.ok (y::ys)|none=>R.ok ys))=R.ok rs:=h
 cases q1:f x with
 | ok y=>
  rw[q1] at h
  have h:(eO f xs >>= λys=>(match y with|some y=>R.ok (y::ys)|none=>R.ok ys))=R.ok rs:=h
  cases q2:eO f xs with
  | ok ys=>
   rw[q2] at h
   refine⟨y,ys,rfl,rfl,?_⟩
   cases y with
   | none=>cases(show R.ok ys=R.ok rs from h);rfl
   | some y=>cases(show R.ok (y::ys)=R.ok rs from h);rfl
  | exc z=>rw[q2] at h;cases h
  | bad=>rw[q2] at h;cases h
 | exc z=>rw[q1] at h;cases h
 | bad=>rw[q1] at h;cases h
theorem R.bind_ok{α β:Type}{x:R α}{f:α->R β}{b:β}(h:(x >>= f)=.ok b):∃a,x=.ok a/\f a=.ok b:=by
 cases x with
 | ok a=>exact⟨a,rfl,h⟩
 | exc z=>cases h
 | bad=>cases h
theorem aDf{k:Nat}{caps:List Nat}{t:T}{it:Hp.It}{cond:Es}{elt:E}(hnd:caps.Nodup)(hk:∀i∈tIx t,i<k){σV:L2.St}{H:Hp}{Q:VK}(hw:WE X P n RT Y old σ (.comp k caps t it cond elt) σV H Q) :
 aCI k caps (wI X P n RT Y old σ it) (gT X.K t) (λσV H Q=>∃RT Y old σ1,wTs X P n RT Y old σ1 cond σV H Q) (λσV H Q=>∃RT Y old σ1,WE X P n RT Y old σ1 elt σV H Q) σV H λv H'=>Tk X.K H'->Q v H':=by
 obtain⟨S,h⟩:=hw
 let f:List Nat->Vl->R (Option Vl):=λal x=>cH (ch0 k caps (freeze σ al)) x t >>= λσ1=>tsts P (call P n) σ1 cond >>= λb=>if b=true then (ev P (call P n) σ1 elt >>= λy=>R.ok (some y)) else R.ok none
 have h:=RE.bind' (show RE (walk P (call P n) σ it >>= λxs=>eO (f xs.2) xs.1 >>= λvs=>R.iff (decide (vs.length<=lim)) (R.ok (fK k caps xs.2 vs))) (Wn X RT Y old σ σV H Q) from h)
 refine⟨S,h.mono λxs hx J H1 t1 s1 ok=>?_⟩
 obtain⟨vs,evs,hv⟩:=(RE.bind' hx).eq
 obtain⟨hl,hq⟩:=hv.iff
 have hl:=of_decide_eq_true hl
 have hq:Wn X RT Y old σ σV H Q (fK k caps xs.2 vs):=hq
 have S1:=S.grow s1 t1
 have Sf:=S1.frz xs.2
 refine⟨λi m ys σ1V Hc=>m=xs.1.length-i/\i<=xs.1.length/\aU H1 Hc/\Tk X.K Hc/\Sx X.K (rtF RT σ σV xs.2) Y old (ch0 k caps (freeze σ xs.2)) σ1V Hc/\(∀j,k<=j->σ1V[j]? = (kN k caps σV)[j]?) /\
  ∃ws rs,vs=ws++rs/\eO (f xs.2) (xs.1.drop i)=.ok rs/\Rvs X.K RT Y old σ σV Hc (ws.map (lv k caps xs.2)) ys,⟨_,rfl,Nat.zero_le _,aU.refl _,t1,Sf.child hnd,λ_ _=>rfl,[],vs,rfl,evs,rfl⟩,?_⟩
 rintro i m ys σ1V Hc ⟨hm,hi,sc,tc,Sc,hcap,ws,rs,evs',ego,rvs⟩
 have okc:=ok.ok (λ_=>False) (λ_ z=>z.elim) i Hc (Kp.same sc)
 have hly:=rvs.length
 rw[lM] at hly
 have hws:ws.length<=vs.length:=by rw[evs',lA];omega
 by_cases hlt:i<xs.1.length
 . refine .inr ⟨okc.1 hlt,by rw[<-hly,sizeLine_eq];have:lim=1000000:=rfl;omega,λx H' hy=>?_⟩
   have hxi:xs.1[i]? = some xs.1[i]:=List.getElem?_eq_getElem hlt
   obtain⟨sm,tkf,rv⟩:=okc.2.2 x H' hy xs.1[i] hxi
   have rv:Rep X.K H' (exV RT Y old σ σV xs.1[i].pa xs.1[i].al) xs.1[i].d x:=Rep.weak rv λa z=>.inl z
   rw[List.drop_eq_getElem_cons hlt] at ego
   obtain⟨yo,ys',ef,ego',ers⟩:=vX ego
   obtain⟨σ1,eσ,ef⟩:=R.bind_ok ef
   obtain⟨b,eb,ef⟩:=R.bind_ok ef
   have hmem:xs.1[i]∈xs.1:=List.getElem_mem hlt
   have hnf:=ok.nofr _ hmem
   have rep:Rep X.K H' (λa=>rtF RT σ σV xs.2 a\/exB Y old xs.1[i].pa a) xs.1[i].d x:=Rep.weak rv λa z=>by
    rcases z with z|z
    . exact .inl ⟨z.1,λq=>z.2 (q.mono (ok.sub _ hmem))⟩
    . exact .inr z
   refine aDd (Sc.grow sm (tkf tc)) hnf rep eσ λσ2V S2 hkeep=>⟨_,_,_,σ1,S2,?_⟩
   rw[eb]
   intro H3 t3 s3
   have capk:∀j,k<=j->σ2V[j]? = (kN k caps σV)[j]? := λj hj=>by
    rw[hkeep j λz=>absurd (hk j z) (Nat.not_lt.mpr hj),hcap j hj]
   have back:∀{H5:Hp},Sx X.K (rtF RT σ σV xs.2) Y old σ1 σ2V H5->Sx X.K (rtF RT σ σV xs.2) Y old (ch0 k caps (freeze σ xs.2)) σ2V H5:=λ{H5} S5=>S5.forget (aDb eσ).symm λj s hs=>by
    by_cases hj:j∈tIx t
    . exact .inl (aDe (hk j hj) hs)
    . exact .inr (by rw[aDa eσ hj];exact hs)
   cases b with
   | false=>
    rw[if_neg bN] at ef ⊢
    cases(show R.ok none=R.ok yo from ef)
    have ers:rs=ys':=ers
    subst ers
    exact⟨_,by omega,rfl,hlt,sc.trans (sm.trans s3),t3,back (S2.grow s3 t3),capk,ws,rs,evs',ego',rvs.grow (sm.trans s3)⟩
   | true=>
    rw[if_pos rfl] at ef ⊢
    obtain⟨y,ey,ef⟩:=R.bind_ok ef
    cases(show R.ok (some y)=R.ok yo from ef)
    have ers:rs=y::ys':=ers
    subst ers
    refine⟨_,_,_,σ1,S2.grow s3 t3,?_⟩
    rw[ey]
    intro u H4 t4 ro4
    have s4:=ro4.1
    have rv4:Rep X.K H4 (exV (rtF RT σ σV xs.2) Y old σ1 σ2V y.pa y.al) y.d u:=ro4.rv (S2.grow s3 t3)
    refine⟨_,by omega,rfl,hlt,sc.trans (sm.trans (s3.trans s4)),t4,back ((S2.grow s3 t3).grow s4 t4),capk,ws++[y],ys',by rw[evs'];simp,ego',?_⟩
    rw[List.map_append]
    refine(rvs.grow (sm.trans (s3.trans s4))).append ⟨u,[],rfl,?_,rfl⟩
    show Rep X.K H4 (exV RT Y old σ σV y.pa (xs.2++y.al.filterMap λj=>caps[j-k]?)) y.d u
    refine rv4.weak λc z=>?_
    rcases z with⟨z1,z2⟩|z
    . refine .inl ⟨⟨z1,λq=>z2 (q.mono λj hj=>List.mem_append_left _ hj)⟩,λq=>z2 ?_⟩
      obtain⟨j,hj,⟨pa,ds,ho⟩,hV⟩:=q
      have ho:=aDc hnf eσ ho
      rcases ch0_get ho with z|⟨j',i',rfl,hc,hs⟩
      . cases z
      . rw[capk _ (Nat.le_add_right _ _)] at hV
        refine⟨i',List.mem_append_right _ (List.mem_filterMap.mpr ⟨k+j',hj,by rw[Nat.add_sub_cancel_left];exact hc⟩),⟨pa,ds,(fV hs).1⟩,tN hc hV⟩
    . exact .inr z
 . have hie:i=xs.1.length:=by omega
   subst hie
   rw[List.drop_length] at ego
   cases(show R.ok []=R.ok rs from ego)
   rw[List.append_nil] at evs'
   subst evs'
   refine .inl ⟨okc.2.1 (Nat.le_refl _),by rw[<-hly];exact fU hl,λp hp t'=>hq _ _ t' ?_⟩
   have Sc':=S.grow (s1.trans sc) tc
   have emap:(vs.map (lv k caps xs.2)).map (·.d)=vs.map (·.d):=by rw[List.map_map];rfl
   have rr:Reps X.K Hc (exV RT Y old σ σV (dS vs) (xs.2++(bT vs).filterMap λj=>caps[j-k]?)) (vs.map (·.d)) ys:=by
    rw[<-emap]
    refine rvs.reps λv hv=>?_
    obtain⟨w,hw,e⟩:=List.mem_map.mp hv
    subst e
    refine⟨λz=>vL hw z,λj hj=>?_⟩
    rcases List.mem_append.mp hj with z|z
    . exact List.mem_append_left _ z
    . obtain⟨j',hj',e⟩:=List.mem_filterMap.mp z
      exact List.mem_append_right _ (List.mem_filterMap.mpr ⟨j',nL hw j' hj',e⟩)
   unfold fK
   split
   . rename_i hn
     exact(Ro.fresh hp t' rfl rfl Sc' (Reps.free _ _ hn rr)).from (s1.trans sc)
   . exact(Ro.fresh hp t' rfl rfl Sc' rr).from (s1.trans sc)
theorem aHB(M:Mc X P Γ n){k:Nat}{caps:List Nat}{t:T}{it:Hp.It}{cond:Es}{elt:E}{e iter:Expr}{ifs:List Expr}{scope:Scope}{N':List Str}(CS:dP X scope k caps N')(hnd:caps.Nodup)(hk:∀i∈tIx t,i<k)
 (hi:PI X tg iter (wI X P n RT Y old σ it))
 (hch:∀C s₀ H₀ ex,PG (eL X scope N' C s₀ H₀ ex) tg (gT X.K t)/\(∀RT Y old σ1,PTs (eL X scope N' C s₀ H₀ ex) ifs (wTs X P n RT Y old σ1 cond))/\∀RT Y old σ1,PE (eL X scope N' C s₀ H₀ ex) e (WE X P n RT Y old σ1 elt))
 (hs:∀x,foldedSetIterable iter X.env x=pure x):PE X (.ListComp e [⟨tg,iter,ifs,0⟩] scope pos) (WE X P n RT Y old σ (.comp k caps t it cond elt)):=by
 refine(aAh (g:=gT X.K t) (tt:=λσV H Q=>∃RT Y old σ1,wTs X P n RT Y old σ1 cond σV H Q) (te:=λσV H Q=>∃RT Y old σ1,WE X P n RT Y old σ1 elt σV H Q) CS M.calm hi (λC s₀ H₀ ex=>?_) hs).imp λσV H Q t0 hw=>aDf hnd hk hw
 . obtain⟨h1,h2,h3⟩:=hch C s₀ H₀ ex
   exact⟨h1,λpins s σV H Q I ⟨RT,Y,old,σ1,hw⟩=>h2 RT Y old σ1 pins s σV H Q I hw,λpins s σV H Q I ⟨RT,Y,old,σ1,hw⟩=>h3 RT Y old σ1 pins s σV H Q I hw⟩
end
end Hp
end
noncomputable section
namespace L2
open PySem PySem.Spec PyProof.Rows
set_option maxRecDepth 100000
def all16:List (List Nat):=(List.range 16).map λm=>(List.range 4).filter λk=>m / 2 ^ k % 2==1
def iI(led:Bool)(ks:List Nat):SetTable:={ mask:=7,place:=ks.toArray,dummies:=#[],finger:=0,led:=led,moves:=0,plain:=true }
def yU(k:Nat)(ks:List Nat):Nat:=SetTable.below ks.toArray k
def iW(k:Nat)(ks:List Nat):List Nat:=ks.take (yU k ks)++k::ks.drop (yU k ks)
theorem aDg:∀led:Bool,∀ks∈all16,∀k∈List.range 4,k∉ks->(iI led ks).freeSlot (k:Int)=some (k,false)/\(iI led ks).put k=(iI led (iW k ks),yU k ks)/\(iI led (iW k ks)).fits (ks.length+1)=true/\(iI led (iW k ks)).tooFull=false/\iW k ks∈all16:=by decide +kernel
theorem jB:∀led:Bool,∀ks∈all16,(iI led ks).fits ks.length=true:=by decide +kernel
theorem aGf:∀k∈List.range 4,hashInt (k:Int)=(k:Int):=by decide +kernel
def cK(tok:Nat->Tok)(ks:List Nat):Array (Int×Value):=(ks.map λ(k:Nat)=>((k:Int),Value.int (k:Int) (tok k))).toArray
theorem bY(tok:Nat->Tok)(ks:List Nat):(cK tok ks).size=ks.length:=by unfold cK;rw[List.size_toArray,lM]
theorem vY{α:Type}(l:List α)(p:Nat)(x:α):SetTable.insertAt l.toArray p x=(l.take p++x::l.drop p).toArray:=by
 unfold SetTable.insertAt
 apply Array.ext'
 simp[List.extract_eq_drop_take]
 rw[List.take_of_length_le (by rw[List.length_drop];omega)]
theorem aHC(tok:Nat->Tok){ks:List Nat}{k:Nat}(t:Tok)(hk:k∉ks):SetTable.insertAt (cK tok ks) (yU k ks) ((k:Int),Value.int (k:Int) t)=cK (λj=>if j=k then t else tok j) (iW k ks):=by
 unfold cK iW
 rw[vY,List.map_append,mC,List.map_take,List.map_drop]
 have e:(ks.map λ(j:Nat)=>((j:Int),Value.int (j:Int) (if j=k then t else tok j)))=ks.map λ(j:Nat)=>((j:Int),Value.int (j:Int) (tok j)):=List.map_congr_left λj hj=>by
  rw[if_neg λz=>hk (by rw[<-z];exact hj)]
 rw[e]
 simp
section
variable {prog:Program} {w:World} {A:Around} {E:Value->Shared->Prop} {s:Shared}
def byT(w:World):Bool:=w.params.followText "set-order"
def iS(w:World)(h:Heap)(S:Addr)(ks:List Nat):Prop:=ks∈all16/\∃tok ep,h.get? S=some { cls:=.type "set",dict:=none,data:=.set (cK tok ks) ep (iI (!byT w) ks),slots:=#[] }
theorem aKc{tok:Nat->Tok}{ks:List Nat}(h:ks∈all16):ElemsOf (intKind prog w) (cK tok ks).toList:=by
 intro e he
 unfold cK at he
 rw[List.toList_toArray] at he
 obtain⟨k,hk,rfl⟩:=List.mem_map.mp he
 have hk4:k∈List.range 4:=by
  obtain⟨m,_,rfl⟩:=List.mem_map.mp h
  exact(List.mem_filter.mp hk).1
 exact⟨⟨(k:Int),intKind_is _ _ _ _,(aGf k hk4).symm⟩,rfl⟩
theorem aKd{tok:Nat->Tok}{ks:List Nat}(k:Nat):((cK tok ks).toList.findIdx? λe=>(intKind prog w).is (k:Int) e.2)=if k∈ks then ks.findIdx? (·==k) else none:=by
 unfold cK
 rw[List.toList_toArray,List.findIdx?_map]
 have e:((λe:Int×Value=>(intKind prog w).is (k:Int) e.2)∘λj:Nat=>((j:Int),Value.int (j:Int) (tok j)))=λj:Nat=>(j==k):=by
  funext j
  show Value.isInt (k:Int) (Value.int (j:Int) (tok j))=(j==k)
  unfold Value.isInt
  by_cases hj:j=k
  . subst hj;simp
  . have h1:(j==k)=false:=by simpa using hj
    rw[h1]
    simp
    omega
 rw[e]
 split
 . rfl
 . rename_i hk
   rw[List.findIdx?_eq_none_iff]
   intro j hj
   simpa using λz:j=k=>hk (by rw[<-z];exact hj)
theorem aMm{S:Addr}{ks:List Nat}{k:Nat}{t:Tok}{Q:Bool->Shared->Prop}(hS:iS w s.heap S ks)(hk:k∈List.range 4)
 (h:∀h' b,Heap.SameBut S s.heap h'->iS w h' S (if k∈ks then ks else iW k ks)->Q b { s with heap:=h' }):wpAny (model prog w) A (setAddHashed S (.int (k:Int) t) (hashInt (k:Int))) Q E s:=by
 obtain⟨h16,tok,ep,ho⟩:=hS
 have hf:(iI (!byT w) ks).fits (cK tok ks).size=true:=by rw[bY];exact jB _ ks h16
 have hl4:ks.length<=4:=by
  have:∀ks∈all16,ks.length<=4:=by decide +kernel
  exact this ks h16
 have hb:(cK tok ks).size<scanBound:=by rw[bY];unfold scanBound;omega
 unfold setAddHashed setAddHashedIn
 refine wpAny_holding (wpAny_bind (wpAny_setState_of ho rfl hf ?_))
 dsimp only
 rw[byScan_of (knd:=intKind prog w) rfl hb (aKc h16)]
 simp only[↓reduceIte]
 unfold setAddByScan
 refine wpAny_bind ?_
 refine wpAny_bind (wpAny_rule ?_)
 refine wpAny_bind (wpAny_setScan_of (knd:=intKind prog w) (k:=(k:Int)) (intKind_is _ _ _ _) ho rfl hf (aKc h16) ?_)
 rw[aKd]
 by_cases hm:k∈ks
 . rw[if_pos hm]
   obtain⟨j,hj⟩:∃j,ks.findIdx? (·==k)=some j:=by
    cases q:ks.findIdx? (·==k) with
    | some j=>exact⟨j,rfl⟩
    | none=>
     rw[List.findIdx?_eq_none_iff] at q
     have:=q k hm
     simp at this
   rw[hj]
   dsimp only
   refine wpAny_pure (wpAny_pure ?_)
   have:=h s.heap false (Heap.SameBut.refl S s.heap) (by rw[if_pos hm];exact⟨h16,tok,ep,ho⟩)
   exact this
 . rw[if_neg hm]
   dsimp only
   obtain⟨g1,g2,g3,g4,g5⟩:=aDg (!byT w) ks h16 k hk hm
   have hlay:layNew (iI (!byT w) ks) (cK tok ks) (hashInt (k:Int)) (.int (k:Int) t)=(cK (λj=>if j=k then t else tok j) (iW k ks),iI (!byT w) (iW k ks),false,false):=by
    have hsz:(cK (λj=>if j=k then t else tok j) (iW k ks)).size=ks.length+1:=by
     rw[bY]
     unfold iW
     rw[lA,lC,List.length_take,List.length_drop]
     have:yU k ks<=ks.length\/ks.length<yU k ks:=by omega
     rcases this with z|z
     . omega
     . exfalso
       have q:∀ks∈all16,∀k∈List.range 4,yU k ks<=ks.length:=by decide +kernel
       have:=q ks h16 k hk
       omega
    unfold layNew
    rw[aGf k hk,g1]
    dsimp only
    rw[g2]
    dsimp only
    rw[aHC tok t hm,hsz,show(iI (!byT w) (iW k ks)).orStandIn (ks.length+1)=iI (!byT w) (iW k ks) by unfold SetTable.orStandIn;rw[g3,if_pos rfl],g3]
    rfl
   rw[hlay]
   dsimp only
   refine wpAny_bind (wpAny_pure ?_)
   rw[if_pos (show(iI (!byT w) (iW k ks)).plain=true from rfl),hashByValue_scannable 8 (x:=.int (k:Int) t) rfl]
   refine wpAny_bind (wpAny_pure ?_)
   rw[if_pos (show plainKind (.int (k:Int) t)=true from rfl)]
   have hsz4:(cK (λj=>if j=k then t else tok j) (iW k ks)).size<scanBound:=by
    have:∀ks∈all16,ks.length<=4:=by decide +kernel
    have:=this _ g5
    rw[bY];unfold scanBound;omega
   refine wpAny_bind (wpAny_storeSet_of ho rfl ?_ (fits_of_scanBound hsz4))
   rw[g4]
   refine wpAny_pure ?_
   refine wpAny_pure (h _ true (Heap.SameBut.update s.heap S _) ?_)
   rw[if_neg hm]
   refine⟨g5,λj=>if j=k then t else tok j,ep+1,?_⟩
   have:=Heap.get?_update_self (Obj.putSet (cK (λj=>if j=k then t else tok j) (iW k ks)) (iI (!byT w) (iW k ks))) ho rfl
   exact this
end
def yV(ks:List Nat)(k:Nat):List Nat:=if k∈ks then ks else iW k ks
def nT(ns:List Nat):List Nat:=ns.foldl yV []
theorem aBt(ns:List Nat)(k:Nat):nT (ns++[k])=yV (nT ns) k:=by unfold nT;rw[List.foldl_append];rfl
def aDh(vs:List Value)(ns:List Nat):Prop:=Paired (λv (n:Nat)=>n<4/\∃t,v=Value.int (n:Int) t) vs ns
theorem aDh.get:∀{vs:List Value} {ns:List Nat},aDh vs ns->∀{i:Nat} {v:Value},vs[i]? = some v->∃n,ns[i]? = some n/\n<4/\∃t,v=Value.int (n:Int) t
 | _,_,.nil,_,_,h=>by simp at h
 | _,_,.cons r _,0,_,h=>by simp at h;subst h;exact⟨_,rfl,r⟩
 | _,_,.cons _ t,i+1,v,h=>by
  obtain⟨k,h1,h2⟩:=aDh.get t (i:=i) (v:=v) (by simpa using h)
  exact⟨k,by simpa using h1,h2⟩
section
variable {prog:Program} {w:World} {A:Around} {R:Result->Shared->Prop} {I:Addr} {fp wr:List Addr} {G:Array GenState->Array GenState->Prop} {n:Nat} {P:Nat->Value->Prop} {St:Nat->Shared->Prop}
theorem iS.keep{h h':Heap}{S:Addr}{ks:List Nat}(x:iS w h S ks)(e:∀o,h.get? S=some o->h'.get? S=some o):iS w h' S ks:=by
 obtain⟨a,tok,ep,ho⟩:=x
 exact⟨a,tok,ep,e _ ho⟩
theorem aBu(W:WalksS prog w A.in1 I fp wr G n P St)(S:Addr)(hSf:S∉fp)(ns:List Nat)(hval:∀i v,P i v->∃k,ns[i]? = some k/\k<4/\∃t,v=Value.int (k:Int) t)(hn:ns.length=n) :
 ∀(m i:Nat) (s:Shared),n-i=m->i<=n->St i s->iS w s.heap S (nT (ns.take i)) ->
  (∀s',Moved (S::wr) G s s'->iS w s'.heap S (nT ns)->R (.ok (.ret .none)) s') ->
  codeAny (model prog w) A (.builtin "set.update.loop" ⟨[.ref S,.ref I],[]⟩) R s:=by
 have nw:S∉wr:=λh=>hSf (W.sub _ h)
 have sb:∀b∈wr,b∈S::wr:=λb hb=>List.mem_cons_of_mem _ hb
 intro m
 induction m with
 | zero=>
  intro i s hk hi hst hS hR
  obtain rfl:i=n:=by omega
  refine codeAny_builtin PyProof.Rows.F.entry_set_update_loop ?_
  rw[Around.under_plainId PyProof.Rows.F.plain_set_update_loop _]
  show wpAny _ A.in1 (pyNext (.ref I) >>= _) _ _ s
  refine wpAny_bind (W.done s _ _ hst λs' hm=>?_)
  show wpAny _ A.in1 (ret Value.none) _ _ s'
  rw[List.take_of_length_le (by omega)] at hS
  exact wpAny_pure (hR s' (hm.mono sb) (hS.keep λo e=>hm.heap S o nw e))
 | succ m ih=>
  intro i s hk hi hst hS hR
  have hlt:i<n:=by omega
  refine codeAny_builtin PyProof.Rows.F.entry_set_update_loop ?_
  rw[Around.under_plainId PyProof.Rows.F.plain_set_update_loop _]
  show wpAny _ A.in1 (pyNext (.ref I) >>= _) _ _ s
  refine wpAny_bind (W.item i s _ _ hlt hst λv s' hP hst' hm=>?_)
  obtain⟨k,hk1,hk2,t,rfl⟩:=hval i v hP
  have hS':iS w s'.heap S (nT (ns.take i)):=hS.keep λo e=>hm.heap S o nw e
  have htk:ns.take (i+1)=ns.take i++[k]:=by
   rw[List.take_succ,hk1];rfl
  show wpAny _ A.in1 (holding [Value.int (k:Int) t] (setAdd S (Value.int (k:Int) t)) >>= _) _ _ s'
  refine wpAny_bind (wpAny_holding ?_)
  unfold setAdd
  refine wpAny_holding ?_
  refine wpAny_bind ((intKind prog w).pyHash (k:=(k:Int)) (intKind_is _ _ _ _) ?_)
  refine aMm (s:={ s' with toks:=s'.toks+1 }) hS' (List.mem_range.mpr hk2) λh' b hsb hS2=>?_
  have hSi:iS w h' S (nT (ns.take (i+1))):=by rw[htk,aBt];exact hS2
  refine wpAny_pure ⟨plainId_quiet PyProof.Rows.F.plain_set_update_loop _,ih (i+1) _ (by omega) hlt (W.frame _ s' _ _ hst' (Nat.le_succ _) λb hb o e=>?_) hSi λs'' hm'' hS''=>?_⟩
  . rw[hsb.2 b λh:b=S=>hSf (by rw[<-h];exact hb)];exact e
  . refine hR s'' (Moved.trans W.gtrans ((hm.mono sb).then_heap (Nat.le_succ _) λb o hb e=>?_) hm'') hS''
    rw[hsb.2 b λh:b=S=>hb (by rw[h];exact List.mem_cons_self)];exact e
end
section
variable {prog:Program} {w:World} {A:Around} {E:Value->Shared->Prop} {s:Shared}
theorem aDi(a:Value){Q₁:Value->Shared->Prop}(h:Q₁ (.ref s.heap.objs.size) { s with heap:=s.heap.push { cls:=.type "set",dict:=none,data:=.set #[] 0 (.fresh 0 0 (!byT w)) } }) :
 codeAny (model prog w) A (.call (.builtin "set.__new__") ⟨[.type "set",a],[]⟩) (wants Q₁ E) s:=by
 refine codeAny_of_tree ?_
 show wpAny _ A.in1 (do checkBuiltinCall "set.__new__" ⟨[.type "set",a],[]⟩;again (.builtin "set.__new__" ⟨[.type "set",a],[]⟩)) _ _ s
 refine wpAny_bind (wpAny_of_eq (F.newCall_set_1 a) (wpAny_pure ⟨plainId_quiet F.plain_set_new _,codeAny_builtin F.entry_set_new ?_⟩))
 rw[Around.under_plainId F.plain_set_new _]
 unfold Builtin.«set.__new__» Builtin.Frozenset.newClass
 have hsub:=sub_set_self
 obtain⟨hp,g,d,tk,os⟩:=s
 dsimp only
 wp_walk
 refine wpAny_askSetting (wpAny_pure ?_)
 dsimp only
 simp only[newObj]
 refine wpAny_bind (wpAny_alloc (wpAny_pure ?_))
 exact wpAny_pure h
set_option maxHeartbeats 3200000 in
theorem aBv{l:Addr}{items:Array Value}{ns:List Nat}{Q:Value->Shared->Prop}(hh:A.handled=none)(hl:s.heap.IsList l items)(hi:aDh items.toList ns)(hn:ns.length=items.size)
 (h:∀(h':Heap) (tk:Nat),iS w h' s.heap.objs.size (nT ns)->(∀b o,b<s.heap.objs.size->s.heap.get? b=some o->h'.get? b=some o)->Q (.ref s.heap.objs.size) { s with heap:=h',toks:=tk }) :
 wpAny (model prog w) A (call (.type "set") [.ref l]) Q E s:=by
 obtain⟨c,tl,hmro⟩:=PySem.F.called_set.mro
 have hmade:=PySem.F.called_set.made
 have hsub:=PySem.F.called_set.sub
 refine wpAny_call (codeAny_of_tree ?_)
 show wpAny _ _ (callAny (.type "set") _) _ _ _
 refine wpAny_pure ⟨Code.quiet_builtin _ (by decide +kernel),codeAny_builtin F.entry_type_call ?_⟩
 rw[Around.under_plain (weight_type_call_type "set" [.ref l] []) rfl]
 have h1:=PySem.F.called_set.notType
 have h2:=PySem.F.called_set.canCreate
 have hct:=PySem.F.typeCall_set_1 (.ref l)
 repeat (any_goals (first|assumption|wp_step))
 refine codeAny_mono (aDi (.ref l) (E:=E) (Q₁:=λobj s₁=>obj=.ref s.heap.objs.size/\s₁={ s with heap:=s.heap.push { cls:=.type "set",dict:=none,data:=.set #[] 0 (.fresh 0 0 (!byT w)) } }) ⟨rfl,rfl⟩) λr s₁ hr=>?_
 cases r with
 | error e=>exact hr
 | ok fl=>
  cases fl with
  | ret obj=>
   obtain⟨rfl,rfl⟩:=hr
   generalize hled:(!byT w)=led at *
   have hS:(s.heap.push { cls:=.type "set",dict:=none,data:=.set #[] 0 (.fresh 0 0 led) }).get? s.heap.objs.size=some { cls:=.type "set",dict:=none,data:=.set #[] 0 (.fresh 0 0 led) }:=Heap.get?_push_size _ rfl
   have hT:Shared.TypeIs { s with heap:=s.heap.push { cls:=.type "set",dict:=none,data:=.set #[] 0 (.fresh 0 0 led) } } (.ref s.heap.objs.size) "set" := ⟨_,hS,rfl⟩
   have hli:=PySem.F.called_set.init.lookup
   have hbi:=PySem.F.called_set.init.bind (.ref s.heap.objs.size)
   repeat (any_goals (first|assumption|wp_step))
   refine codeAny_mono (codeAny_call_builtin (R:=wants (λr s₂=>r=.none/\∃h' tk,s₂={ s with heap:=h',toks:=tk }/\iS w h' s.heap.objs.size (nT ns) /\
    (∀b o,b<s.heap.objs.size->s.heap.get? b=some o->h'.get? b=some o)) E) PySem.F.called_set.init.plain F.entry_set_init (check_set_init_1 hT ?_)) λr₂ s₂ hr₂=>?_
   . obtain⟨ol,hol,hcl,nl,hdl⟩:=hl
     obtain⟨ocls,odict,odata,oslots⟩:=ol
     simp only at hcl hdl
     subst hcl;subst hdl
     have hol':(s.heap.push { cls:=.type "set",dict:=none,data:=.set #[] 0 (.fresh 0 0 led) }).get? l=some { cls:=.type "list",dict:=odict,data:=.seq items nl,slots:=oslots }:=Heap.get?_push_of_some _ hol
     have hsls:=PySem.F.sub_list_set
     have hslf:=PySem.F.sub_list_frozenset
     have hne:(Value.type "list" == Value.type "dict")=false:=by decide
     have hl1:(s.heap.push { cls:=.type "set",dict:=none,data:=.set #[] 0 (.fresh 0 0 led) }).IsList l items:=⟨_,hol',rfl,nl,rfl⟩
     unfold Builtin.«set.__init__» noKeywords Builtin.Frozenset.updateFrom
     generalize hPI:pyIter=PI
     wp_walk
     subst hPI
     refine wpAny_pyIter_list hl1 ?_
     refine wpAny_bind (wpAny_runValue ?_)
     have hlS:l<s.heap.objs.size:=Heap.lt_size hol
     have hh3:A.in1.in1.in1.handled=none:=by simp[hh]
     have hsz:(s.heap.push { cls:=.type "set",dict:=none,data:=.set #[] 0 (.fresh 0 0 led) }).objs.size=s.heap.objs.size+1:=Heap.size_push _ _
     refine aBu ((Walks.list hh3 _ l (by rw[hsz];exact Nat.ne_of_lt (Nat.lt_succ_of_lt hlS)) items).toS) s.heap.objs.size
      (by
       rw[hsz]
       intro z
       rcases List.mem_cons.mp z with q|q
       . exact absurd q (Nat.ne_of_lt (Nat.lt_succ_self _))
       . exact absurd (List.mem_singleton.mp q) (Nat.ne_of_gt hlS)) ns
      (λi v hv=>hi.get (by rw[Array.getElem?_toList];exact hv)) hn (items.size-0) 0 _ (by omega) (Nat.zero_le _)
      ⟨⟨_,Heap.get?_push_size _ rfl,rfl,rfl⟩,(hl1.push _)⟩ ?hS0 ?hR
     case hS0=>
      refine⟨show([]:List Nat)∈all16 by decide +kernel,λ_=>0,0,?_⟩
      rw[hled]
      exact Heap.get?_push_of_some _ hS
     case hR=>
      intro s' hm hS'
      obtain⟨h',g',d',tk',os'⟩:=s'
      have eg:g'=s.gens:=hm.gens
      have ed:d'=s.drawn:=hm.drawn
      have eo:os'=s.os:=hm.os
      subst eg;subst ed;subst eo
      show wpAny _ _ _ _ _ _
      refine wpAny_pure ?_
      show wpAny _ _ (ret Value.none) _ _ _
      refine wpAny_pure ⟨rfl,h',tk',rfl,hS',λb o hb e=>?_⟩
      refine hm.heap b o ?_ (Heap.get?_push_of_some _ (Heap.get?_push_of_some _ e))
      rw[hsz]
      intro z
      rcases List.mem_cons.mp z with q|q
      . exact absurd q (Nat.ne_of_lt hb)
      . exact absurd (List.mem_singleton.mp q) (Nat.ne_of_lt (Nat.lt_succ_of_lt hb))
   . cases r₂ with
     | error e=>exact hr₂
     | ok fl₂=>
      cases fl₂ with
      | ret r=>
       obtain⟨rfl,h',tk,rfl,hS',hk'⟩:=hr₂
       repeat (any_goals (first|assumption|wp_step))
       exact h _ _ hS' hk'
      | _=>exact hr₂.elim
  | _=>exact hr.elim
end
set_option maxRecDepth 100000
theorem cV:Slot "set_iterator" "__next__" "set_iterator.__next__" :=
 .of (owner:= "set_iterator") (n:= "__next__") (by rw[typeLookup_type,builtinLookup_eq_fast];kernel_rfl) (by decide +kernel) (by decide +kernel) (by decide +kernel)
  (by first|exact .inl (by decide +kernel)|exact .inr (by decide +kernel)) (by rw[isSubtype_type];kernel_rfl)
theorem iT:entryFor table "set_iterator.__next__" = some Builtin.«set_iterator.__next__»:=entryFor_of_tree (by kernel_rfl)
theorem jC(a:Value):argsOk "set_iterator.__next__" ⟨[a],[]⟩:=by unfold argsOk;kernel_rfl
theorem pQ:entryFor table "set.__iter__" = some Builtin.«frozenset.__iter__»:=
 entryFor_alias (id':= "frozenset.__iter__") (by kernel_rfl) rfl (by decide +kernel) (by kernel_rfl)
theorem jD:Slot "set_iterator" "__iter__" "set_iterator.__iter__" :=
 .of (owner:= "set_iterator") (n:= "__iter__") (by rw[typeLookup_type,builtinLookup_eq_fast];kernel_rfl) (by decide +kernel) (by decide +kernel) (by decide +kernel)
  (by first|exact .inl (by decide +kernel)|exact .inr (by decide +kernel)) (by rw[isSubtype_type];kernel_rfl)
theorem nU:entryFor table "set_iterator.__iter__" = some Builtin.«dict_keyiterator.__iter__»:=
 entryFor_alias (id':= "dict_keyiterator.__iter__") (by kernel_rfl) rfl (by decide +kernel) (by kernel_rfl)
theorem pR(a:Value):argsOk "set_iterator.__iter__" ⟨[a],[]⟩:=by unfold argsOk;kernel_rfl
theorem pS{α:Type}:∀(l:List α) (j:Nat) (h:j<l.length),(l[j]::l.eraseIdx j).Perm l
 | [],_,h=>absurd h (Nat.not_lt_zero _)
 | a::l,0,_=>List.Perm.refl _
 | a::l,j+1,h=>(List.Perm.swap a (l[j]'(by simpa using h)) _).trans ((pS l j (by simpa using h)).cons a)
theorem rX{α:Type}(next:Nat->Nat):∀(fuel k:Nat) (left:List α) (out:Array α),left.length=fuel->(pickOrder.go next fuel k left out).toList.Perm (out.toList++left)
 | 0,_,left,out,h=>by
  have:left=[]:=List.eq_nil_of_length_eq_zero h
  subst this
  rw[pickOrder.go,List.append_nil]
 | fuel+1,k,left,out,h=>by
  have hlt:next k % left.length<left.length:=Nat.mod_lt _ (by omega)
  rw[pickOrder.go,List.getElem?_eq_getElem hlt]
  dsimp only
  refine(rX next fuel (k+1) _ _ (by rw[List.length_eraseIdx_of_lt hlt];omega)).trans ?_
  rw[Array.toList_push,List.append_assoc]
  exact List.Perm.append_left _ (pS _ _ hlt)
def nV(w:World)(S:Addr)(ep:Nat)(es:Array (Int×Value)):Array (Int×Value):=if byT w then pickOrder (w.params.setOrder S ep) es else es
theorem vZ(w:World)(S:Addr)(ep:Nat)(es:Array (Int×Value)):(nV w S ep es).toList.Perm es.toList:=by
 unfold nV
 split
 . unfold pickOrder
   refine(rX _ _ _ _ _ (by rw[Array.length_toList])).trans ?_
   simp
 . exact List.Perm.refl _
theorem lK(w:World)(S:Addr)(ep:Nat)(es:Array (Int×Value)):(nV w S ep es).size=es.size:=by
 rw[<-Array.length_toList,(vZ w S ep es).length_eq,Array.length_toList]
def yW(ks:List Nat):Nat->Nat
 | 0=>0
 | i+1=>ks.getD i 0+1
def slotV(w:World)(ks:List Nat)(i:Nat):Nat:=if byT w then 0 else yW ks i
theorem aHD:∀ks∈all16,∀i∈List.range 5,i<=ks.length->SetTable.below ks.toArray (yW ks i)=i:=by decide +kernel
section
variable {prog:Program} {w:World} {A:Around} {E:Value->Shared->Prop} {s:Shared}
def wB(w:World)(tok:Nat->Tok)(ep:Nat)(ks:List Nat):Obj:={ cls:=.type "set",dict:=none,data:=.set (cK tok ks) ep (iI (!byT w) ks),slots:=#[] }
def mV(w:World)(S:Addr)(ep:Nat)(ks:List Nat)(i:Nat):Obj:={ cls:=.type "set_iterator",dict:=none,data:=.fields #[rawInt (slotV w ks i),rawInt i,.ref S,rawInt ks.length,rawInt ep],slots:=#[] }
variable {S I:Addr} {tok:Nat->Tok} {ep i:Nat} {ks:List Nat}
theorem aGg{Q:Option (Value×Nat)->Shared->Prop}(h16:ks∈all16)(ho:s.heap.get? S=some (wB w tok ep ks))(hi:i<=ks.length)
 (h:Q (((nV w S ep (cK tok ks))[i]?).map λe=>(e.2,slotV w ks (i+1))) s):wpAny (model prog w) A (setNext S (slotV w ks i) i ep) Q E s:=by
 have hf:(iI (!byT w) ks).fits (cK tok ks).size=true:=by rw[bY];exact jB _ ks h16
 unfold setNext
 refine wpAny_bind (wpAny_setState_of ho rfl hf ?_)
 dsimp only
 unfold setsByText
 refine wpAny_bind (wpAny_bind (wpAny_askSetting (wpAny_pure ?_)))
 show wpAny _ _ (if byT w=true then _ else _) _ _ s
 unfold nV slotV at h
 unfold slotV
 cases hb:byT w with
 | true=>
  rw[hb,if_pos rfl,if_pos rfl] at h
  rw[if_pos rfl,if_pos rfl]
  rw[if_neg (by simp)]
  unfold setWalk
  refine wpAny_bind (wpAny_bind (wpAny_setState_of ho rfl hf ?_))
  dsimp only
  unfold setsByText
  refine wpAny_bind (wpAny_bind (wpAny_askSetting (wpAny_pure ?_)))
  show wpAny _ _ (if byT w=true then _ else _) _ _ s
  rw[hb,if_pos rfl]
  refine wpAny_bind (wpAny_askSetting (wpAny_pure ?_))
  exact wpAny_pure h
 | false=>
  rw[hb,if_neg bN,if_neg bN] at h
  rw[if_neg bN,if_neg bN]
  show wpAny _ _ (if (!true&&decide ((cK tok ks).size>1))=true then _ else _) _ _ s
  rw[if_neg (by simp)]
  refine wpAny_bind ?_
  show wpAny _ _ (if (!(!false)&&!(cK tok ks).isEmpty)=true then _ else _) _ _ s
  rw[if_neg (by simp)]
  refine wpAny_pure ?_
  have hb4:=aHD ks h16 i (List.mem_range.mpr (by
   have:∀ks∈all16,ks.length<=4:=by decide +kernel
   have:=this ks h16
   omega)) hi
  show wpAny _ _ (pure (match (cK tok ks)[SetTable.below ks.toArray (yW ks i)]?,ks.toArray[SetTable.below ks.toArray (yW ks i)]? with
   | some (_,x),some j=>some (x,j+1)
   | _,_=>none)) _ _ s
  rw[hb4]
  refine wpAny_pure ?_
  have e:(match (cK tok ks)[i]?,ks.toArray[i]? with|some (_,x),some j=>some (x,j+1)|_,_=>none)=((cK tok ks)[i]?).map λe=>(e.2,yW ks (i+1)):=by
   by_cases hlt:i<ks.length
   . have e1:(cK tok ks)[i]? = some ((ks[i]:Int),Value.int (ks[i]:Int) (tok ks[i])):=by
      unfold cK
      rw[List.getElem?_toArray,List.getElem?_map,List.getElem?_eq_getElem hlt];rfl
     have e2:ks.toArray[i]? = some ks[i]:=by rw[List.getElem?_toArray,List.getElem?_eq_getElem hlt]
     rw[e1,e2]
     simp[hlt,yW]
   . have e1:(cK tok ks)[i]? = none:=by
      unfold cK
      rw[List.getElem?_toArray,List.getElem?_map,List.getElem?_eq_none (by omega)];rfl
     rw[e1];rfl
  rw[e]
  exact h
theorem aKe{e:Int×Value}{Q:Option Value->Shared->Prop}(h16:ks∈all16)(ho:s.heap.get? S=some (wB w tok ep ks))(hI:s.heap.get? I=some (mV w S ep ks i))(hne:S≠I)(he:(nV w S ep (cK tok ks))[i]? = some e)
 (hQ:∀h',h'.get? I=some (mV w S ep ks (i+1))->Heap.SameBut I s.heap h'->Q (some e.2) { s with heap:=h' }):wpAny (model prog w) A (pyNext (.ref I)) Q E s:=by
 have hf:(iI (!byT w) ks).fits (cK tok ks).size=true:=by rw[bY];exact jB _ ks h16
 have hT:s.TypeIs (.ref I) "set_iterator" := ⟨_,hI,rfl⟩
 have hlt:i<ks.length:=by
  have:=(Array.getElem?_eq_some_iff.mp he).1
  rw[lK,bY] at this
  exact this
 unfold pyNext
 refine wpAny_bind (wpAny_attempt (wpAny_callSpecial?_slot (name:=Str.ofString "__next__") hT cV (wpAny_call_entry cV hT iT ?_ (jC _))))
 unfold Builtin.«set_iterator.__next__» slotArgs
 simp only[List.isEmpty_nil,Bool.not_true,bF,↓reduceIte,bind_assoc,lN,bne_self_eq_false]
 refine wpAny_bind (wpAny_pure ?_)
 try dsimp only
 refine wpAny_bind (wpAny_fieldsOf hI rfl ?_)
 show wpAny _ _ (setEntries S >>= _) _ _ s
 refine wpAny_bind (wpAny_setEntries_of ho rfl hf ?_)
 rw[if_neg (by rw[bY];simp)]
 show wpAny _ _ (setNext S ((slotV w ks i:Int).toNat) ((i:Int).toNat) ((ep:Int).toNat) >>= _) _ _ s
 rw[Int.toNat_natCast,Int.toNat_natCast,Int.toNat_natCast]
 refine wpAny_bind (aGg h16 ho (by omega) ?_)
 rw[he]
 dsimp only[Option.map_some]
 refine wpAny_bind (wpAny_setField_rec hI (by simp) λh1 g1 b1=>?_)
 refine wpAny_bind (wpAny_setField_rec (s:={ s with heap:=h1 }) g1 (by simp) λh2 g2 b2=>?_)
 refine wpAny_pure ⟨e.2,rfl,wpAny_pure (hQ h2 ?_ (b1.trans b2))⟩
 rw[g2]
 simp[mV,rawInt]
theorem aMn{Q:Option Value->Shared->Prop}(hh:A.handled=none)(h16:ks∈all16)(ho:s.heap.get? S=some (wB w tok ep ks))(hI:s.heap.get? I=some (mV w S ep ks ks.length))
 (hQ:∀h',Heap.ExtBut I s.heap h'->Q none { s with heap:=h' }):wpAny (model prog w) A (pyNext (.ref I)) Q E s:=by
 have hf:(iI (!byT w) ks).fits (cK tok ks).size=true:=by rw[bY];exact jB _ ks h16
 have hT:s.TypeIs (.ref I) "set_iterator" := ⟨_,hI,rfl⟩
 have he:(nV w S ep (cK tok ks))[ks.length]? = none:=by
  rw[Array.getElem?_eq_none_iff,lK,bY]
  exact Nat.le_refl _
 unfold pyNext
 refine wpAny_bind (wpAny_attempt (wpAny_callSpecial?_slot (name:=Str.ofString "__next__") hT cV (wpAny_call_entry cV hT iT ?_ (jC _))))
 unfold Builtin.«set_iterator.__next__» slotArgs
 simp only[List.isEmpty_nil,Bool.not_true,bF,↓reduceIte,bind_assoc,lN,bne_self_eq_false]
 refine wpAny_bind (wpAny_pure ?_)
 try dsimp only
 refine wpAny_bind (wpAny_fieldsOf hI rfl ?_)
 show wpAny _ _ (setEntries S >>= _) _ _ s
 refine wpAny_bind (wpAny_setEntries_of ho rfl hf ?_)
 rw[if_neg (by rw[bY];simp)]
 show wpAny _ _ (setNext S ((slotV w ks ks.length:Int).toNat) ((ks.length:Int).toNat) ((ep:Int).toNat) >>= _) _ _ s
 rw[Int.toNat_natCast,Int.toNat_natCast,Int.toNat_natCast]
 refine wpAny_bind (aGg h16 ho (Nat.le_refl _) ?_)
 rw[he]
 dsimp only[Option.map_none]
 refine wpAny_bind (wpAny_setField_rec hI (by simp) λh1 g1 b1=>?_)
 show wpAny _ _ (newExc (.type "StopIteration") [] >>= _) _ _ _
 refine wpAny_bind ?_
 simp only[newExc,newTuple]
 refine wpAny_bind (wpAny_newObj_type ?_ (by size_fits))
 refine wpAny_bind (m:=firstArgMember _ _) (wpAny_of_eq (a:=Value.none) (by first|rfl|(simp only[firstArgMember];rfl)) ?_)
 refine wpAny_newObj_type ?_ (by size_fits)
 simp only[raiseNew]
 refine wpAny_bind (wpAny_handled ?_)
 first|rw[show A.in1.handled=none from hh]|rw[hh]
 refine wpAny_bind (wpAny_pure (wpAny_throw ?_))
 refine wpAny_bind (wpAny_isInstance (T:= "StopIteration") (b:=true) ⟨_,Heap.get?_push_size _ rfl,rfl⟩ isSubtype_stop ?_)
 exact wpAny_pure (hQ _ ((b1.extBut.push _).push _))
theorem aHE(hh:A.handled=none)(h16:ks∈all16)(hne:S≠I):Walks prog w A I [I,S] [I] ks.length (λi v=>∃e,(nV w S ep (cK tok ks))[i]? = some e/\v=e.2) (λi h=>h.get? I=some (mV w S ep ks i)/\h.get? S=some (wB w tok ep ks)) where
 sub:=λb hb=>by
  rw[List.mem_singleton.mp hb]
  exact List.mem_cons_self
 frame:=λi h h' st k=>⟨k I List.mem_cons_self _ st.1,k S (List.mem_cons_of_mem _ (List.mem_singleton.mpr rfl)) _ st.2⟩
 item:=λi s Q E hi st hQ=>by
  have hlt:i<(nV w S ep (cK tok ks)).size:=by rw[lK,bY];exact hi
  refine aKe h16 st.2 st.1 hne (Array.getElem?_eq_getElem hlt) λh' g b=>hQ _ h' s.toks ⟨_,Array.getElem?_eq_getElem hlt,rfl⟩ ⟨g,?_⟩ λc o hc e=>?_
  . rw[b.2 S hne];exact st.2
  . rw[b.2 c λz=>hc (by rw[z];exact List.mem_singleton.mpr rfl)];exact e
 done:=λs Q E st hQ=>aMn hh h16 st.2 st.1 λh' b=>hQ h' s.toks λc o hc e=>b c o (λz=>hc (by rw[z];exact List.mem_singleton.mpr rfl)) e
 self:=λi s Q E st hQ=>by
  have hT:s.TypeIs (.ref I) "set_iterator" := ⟨_,st.1,rfl⟩
  refine wpAny_pyIter_slot hT jD (wpAny_call_entry jD hT nU ?_ (pR _))
  show wpAny _ _ (ret (.ref I)) _ _ s
  exact wpAny_pure ⟨_,rfl, "set_iterator",_,hT,cV.lookup,hQ⟩
theorem aKf{Q:Value->Shared->Prop}(h16:ks∈all16)(ho:s.heap.get? S=some (wB w tok ep ks))(h:Q (.ref s.heap.objs.size) { s with heap:=s.heap.push (mV w S ep ks 0) }):wpAny (model prog w) A (pyIter (.ref S)) Q E s:=by
 have hf:(iI (!byT w) ks).fits (cK tok ks).size=true:=by rw[bY];exact jB _ ks h16
 have hT:s.TypeIs (.ref S) "set" := ⟨_,ho,rfl⟩
 refine wpAny_pyIter_slot hT PySem.F.slot_set_iter (wpAny_call_entry PySem.F.slot_set_iter hT pQ ?_ (PySem.F.args_set_iter_1 _))
 unfold Builtin.«frozenset.__iter__» Builtin.Frozenset.slot0 slotArgs
 simp only[List.isEmpty_nil,Bool.not_true,bF,↓reduceIte,bind_assoc,lN,bne_self_eq_false]
 unfold Builtin.Frozenset.addrOf Builtin.Frozenset.sizeOf
 refine wpAny_bind (wpAny_pure ?_)
 try dsimp only
 refine wpAny_bind (wpAny_pure ?_)
 refine wpAny_bind (wpAny_bind (wpAny_setEntries_of ho rfl hf (wpAny_pure ?_)))
 unfold setDrawn setsByText
 refine wpAny_bind (wpAny_bind (wpAny_setState_of ho rfl hf ?_))
 dsimp only
 refine wpAny_bind (wpAny_bind (wpAny_askSetting (wpAny_pure ?_)))
 refine wpAny_pure ?_
 show wpAny _ _ (if (!byT w&&(!true&&decide ((cK tok ks).size>1)))=true then _ else _) _ _ s
 rw[if_neg (by simp)]
 refine wpAny_bind (wpAny_pure ?_)
 refine wpAny_bind (wpAny_setEpoch_of ho rfl hf ?_)
 refine wpAny_bind (wpAny_newObj_type ?_)
 have e:(#[rawInt 0,rawInt 0,Value.ref S,rawInt ((cK tok ks).size:Int),rawInt (ep:Int)]:Array Value)=#[rawInt (slotV w ks 0),rawInt ((0:Nat):Int),.ref S,rawInt ks.length,rawInt ep]:=by
  rw[bY]
  have:slotV w ks 0=0:=by unfold slotV yW;split <;> rfl
  rw[this];rfl
 refine wpAny_pure ⟨_,rfl, "set_iterator",_,⟨_,Heap.get?_push_size _ rfl,rfl⟩,cV.lookup,?_⟩
 show Q (.ref s.heap.objs.size) { s with heap:=s.heap.push { cls:=.type "set_iterator",data:=.fields #[rawInt 0,rawInt 0,Value.ref S,rawInt ((cK tok ks).size:Int),rawInt (ep:Int)] } }
 rw[e]
 exact h
theorem aBw{P:Nat->Value->Prop}{acc:Array Value}{m:Nat}{od:List (Int×Value)}(hP:∀i v,P i v->∃e,od[i]? = some e/\v=e.2)(h:ItemsOf P acc m)(hm:od.length=m):acc.toList=od.map (·.2):=by
 refine List.ext_getElem? λj=>?_
 rw[Array.getElem?_toList,List.getElem?_map]
 by_cases hj:j<acc.size
 . obtain⟨e,he,hv⟩:=hP j acc[j] (h.2 j _ (Array.getElem?_eq_getElem hj))
   rw[Array.getElem?_eq_getElem hj,he,hv];rfl
 . have h1:=h.1
   rw[Array.getElem?_eq_none (by omega),List.getElem?_eq_none (by omega)];rfl
theorem aDj{Q:List Value->Shared->Prop}(hh:A.handled=none)(h16:ks∈all16)(ho:s.heap.get? S=some (wB w tok ep ks))
 (hQ:∀s' acc,(∀b o,s.heap.get? b=some o->s'.heap.get? b=some o)->(s.heap.objs.size<s'.heap.objs.size/\∃tk h',s'={ s with heap:=h',toks:=tk })->acc=(nV w S ep (cK tok ks)).toList.map (·.2)->Q acc s'):wpAny (model prog w) A (collect (.ref S)) Q E s:=by
 have hT:s.TypeIs (.ref S) "set" := ⟨_,ho,rfl⟩
 have hSL:S<s.heap.objs.size:=Heap.lt_size ho
 unfold collect
 refine wpAny_bind (wpAny_runValue (codeAny_builtin F.entry_proto_collect ?_))
 rw[Around.under_plainId F.plain_proto_collect _]
 show wpAny _ A.in1 (newList [] >>= λl=>again (.builtin "list.__iadd__" ⟨[l,.ref S],[]⟩)) _ _ s
 refine wpAny_bind (wpAny_newObj_type ?_)
 refine wpAny_pure ⟨plainId_quiet F.plain_list_iadd _,codeAny_builtin F.entry_list_iadd ?_⟩
 rw[Around.under_plainId F.plain_list_iadd _]
 have ho1:(s.heap.push { cls:=.type "list",data:=.seq ([]:List Value).toArray }).get? S=some (wB w tok ep ks):=Heap.get?_push_of_some _ ho
 have hT1:Shared.TypeIs { s with heap:=s.heap.push { cls:=.type "list",data:=.seq ([]:List Value).toArray } } (.ref S) "set" := ⟨_,ho1,rfl⟩
 have hL1:(s.heap.push { cls:=.type "list",data:=.seq ([]:List Value).toArray }).get? s.heap.objs.size=some { cls:=.type "list",data:=.seq ([]:List Value).toArray }:=Heap.get?_push_size _ rfl
 have h1:Builtin.List.listSameRef (.ref s.heap.objs.size) (.ref S)=false:=by
  simp only[Builtin.List.listSameRef,beq_eq_false_iff_ne]
  exact Nat.ne_of_gt hSL
 show wpAny _ A.in1 (Builtin.List.listExtendWith (.ref s.heap.objs.size) (.ref S) (.ref s.heap.objs.size)) _ _ _
 unfold Builtin.List.listExtendWith
 refine wpAny_bind (wpAny_typeOf hT1 ?_)
 rw[if_neg (by rw[h1];decide)]
 refine wpAny_bind (aKf h16 ho1 ?_)
 refine wpAny_bind (wpAny_holding ?_)
 have ho2:((s.heap.push { cls:=.type "list",data:=.seq ([]:List Value).toArray }).push (mV w S ep ks 0)).get? S=some (wB w tok ep ks):=Heap.get?_push_of_some _ ho1
 have hT2:Shared.TypeIs { s with heap:=(s.heap.push { cls:=.type "list",data:=.seq ([]:List Value).toArray }).push (mV w S ep ks 0) } (.ref S) "set" := ⟨_,ho2,rfl⟩
 unfold Builtin.List.listLengthHint
 refine wpAny_bind (wpAny_specialOf hT2 PySem.F.slot_set_len.lookup ?_)
 generalize hid:("set.__len__" : String)=id0
 wp_delta
 rw[show splitId id0=some ("set", "__len__") from by subst hid;decide +kernel]
 subst hid
 refine wpAny_bind (wpAny_isInstance (b:=true) hT2 (by rw[isSubtype_type];kernel_rfl) ?_)
 rw[if_neg (by decide)]
 dsimp only
 rw[if_pos (by decide +kernel)]
 refine wpAny_bind (wpAny_typeOf hT2 ?_)
 refine wpAny_pure ?_
 rw[if_pos (by decide +kernel)]
 refine wpAny_bind (wpAny_rule ?_)
 unfold Builtin.List.listTouch
 have hL2:((s.heap.push { cls:=.type "list",data:=.seq ([]:List Value).toArray }).push (mV w S ep ks 0)).get? s.heap.objs.size=some { cls:=.type "list",data:=.seq ([]:List Value).toArray }:=Heap.get?_push_of_some _ hL1
 refine wpAny_bind (wpAny_bind (listUpdate_at (f:=λx=>x.push Value.none) hL2 rfl ?_))
 have hL3:=get?_update_seq (c:= "list") (xs:=#[]) (n:=0) hL2 (λx=>x.push Value.none)
 refine listUpdate_at (f:=λx=>x.pop) hL3 rfl ?_
 have hL4:=get?_update_seq hL3 (λx=>x.pop)
 have hIsz:(s.heap.push { cls:=.type "list",data:=.seq ([]:List Value).toArray }).objs.size=s.heap.objs.size+1:=size_push' _ _
 have hI2:((s.heap.push { cls:=.type "list",data:=.seq ([]:List Value).toArray }).push (mV w S ep ks 0)).get? (s.heap.push { cls:=.type "list",data:=.seq ([]:List Value).toArray }).objs.size=some (mV w S ep ks 0):=Heap.get?_push_size _ rfl
 rw[hIsz] at hI2 ⊢
 have keep:∀b o,b≠s.heap.objs.size->((s.heap.push { cls:=.type "list",data:=.seq ([]:List Value).toArray }).push (mV w S ep ks 0)).get? b=some o->((((s.heap.push { cls:=.type "list",data:=.seq ([]:List Value).toArray }).push (mV w S ep ks 0)).update s.heap.objs.size (Obj.mapSeq λx=>x.push Value.none)).update s.heap.objs.size (Obj.mapSeq λx=>x.pop)).get? b=some o:=λb o hb e=>by
  rw[Heap.get?_update_ne _ _ _ _ hb,Heap.get?_update_ne _ _ _ _ hb];exact e
 have hSI:S≠s.heap.objs.size+1:=λz=>Nat.not_lt.mpr (Nat.le_succ _) (z▸hSL)
 have hSf:s.heap.objs.size∉[s.heap.objs.size+1,S]:=λhm=>by
  rcases List.mem_cons.mp hm with z|z
  . exact absurd z (by omega)
  . rw[<-List.mem_singleton.mp z] at hSL;exact Nat.lt_irrefl _ hSL
 have hlen:∀ks∈all16,ks.length<=4:=by decide +kernel
 refine wpAny_pure ⟨plainId_quiet F.plain_extend_loop _,codeAny_extend_loopS (aHE (A:=A.in1) (tok:=tok) (ep:=ep) (I:=s.heap.objs.size+1) hh h16 hSI).toS (Nat.le_trans (hlen ks h16) (by decide)) _ hSf _ ks.length 0 _ #[] 2 (Nat.sub_zero _) (Nat.zero_le _) ⟨keep _ _ (by omega) hI2,keep _ _ (Nat.ne_of_lt hSL) ho2⟩ hL4 (ItemsOf.nil _) λs' acc' c' hm hS' hacc=>?_⟩
 show wpAny _ A (load s.heap.objs.size >>= _) _ _ s'
 refine wpAny_bind (wpAny_load hS' ?_)
 refine wpAny_pure (hQ s' acc'.toList (λb o e=>?_) ?_ ?_)
 . have hb:b<s.heap.objs.size:=Heap.lt_size e
   refine hm.heap b o (λz=>?_) (keep b o (Nat.ne_of_lt hb) (Heap.get?_push_of_some _ (Heap.get?_push_of_some _ e)))
   rcases List.mem_cons.mp z with z|z
   . exact Nat.ne_of_lt hb z
   . exact Nat.not_lt.mpr (Nat.le_succ _) (List.mem_singleton.mp z▸hb)
 . obtain⟨h',g',d',tk',os'⟩:=s'
   have eg:g'=s.gens:=hm.gens
   have ed:d'=s.drawn:=hm.drawn
   have eo:os'=s.os:=hm.os
   subst eg;subst ed;subst eo
   exact⟨Heap.lt_size hS',tk',h',rfl⟩
 . exact aBw (P:=λi v=>∃e,(nV w S ep (cK tok ks))[i]? = some e/\v=e.2) (λi v ⟨e,he,hv⟩=>⟨e,by rw[Array.getElem?_toList];exact he,hv⟩) hacc (by rw[Array.length_toList,lK,bY])
end
set_option maxRecDepth 100000
theorem aAj:∀{as bs:List Int},as.Pairwise (·<=·)->bs.Pairwise (·<=·)->as.Perm bs->as=bs
 | [],bs,_,_,p=>(p.nil_eq)
 | a::as,[],_,_,p=>absurd p.length_eq (by simp)
 | a::as,b::bs,ha,hb,p=>by
  have hab:a=b:=by
   have h1:a∈b::bs:=p.subset List.mem_cons_self
   have h2:b∈a::as:=p.symm.subset List.mem_cons_self
   rcases List.mem_cons.mp h1 with h1|h1
   . exact h1
   . rcases List.mem_cons.mp h2 with h2|h2
     . exact h2.symm
     . have q1:=(List.pairwise_cons.mp ha).1 b h2
       have q2:=(List.pairwise_cons.mp hb).1 a h1
       omega
  subst hab
  rw[aAj (List.pairwise_cons.mp ha).2 (List.pairwise_cons.mp hb).2 (List.Perm.cons_inv p)]
theorem aHF:∀ks∈all16,(ks.map Int.ofNat).Pairwise (·<=·):=by decide +kernel
theorem aKg:∀ks∈all16,ks.length<=4:=by decide +kernel
theorem wC:∀{es:List (Int×Value)},(∀e∈es,∃t,e.2=Value.int e.1 t)->IntsAre (es.map (·.2)) (es.map (·.1))
 | [],_=>.nil
 | e::es,h=>by
  obtain⟨t,q⟩:=h e List.mem_cons_self
  have r:=wC (es:=es) λx hx=>h x (List.mem_cons_of_mem _ hx)
  rw[mC,mC,q]
  exact .cons _ _ r
theorem aFk{tok:Nat->Tok}{ks:List Nat}:∀e∈(cK tok ks).toList,∃t,e.2=Value.int e.1 t:=by
 intro e he
 unfold cK at he
 rw[List.toList_toArray] at he
 obtain⟨k,hk,rfl⟩:=List.mem_map.mp he
 exact⟨_,rfl⟩
theorem aHG{tok:Nat->Tok}{ks:List Nat}:(cK tok ks).toList.map (·.1)=ks.map Int.ofNat:=by
 unfold cK
 rw[List.toList_toArray,List.map_map]
 rfl
section
variable {prog:Program} {w:World} {A:Around} {E:Value->Shared->Prop} {s:Shared}
theorem wD{S:Addr}{ks:List Nat}{Q:Value->Shared->Prop}(hh:A.handled=none)(hS:iS w s.heap S ks)
 (h:∀(h':Heap) (tk:Nat) (L:Addr) (out:List Value) (n:Nat),s.heap.objs.size<=L->(∀b o,s.heap.get? b=some o->h'.get? b=some o)->h'.get? L=some (seqObj "list" out.toArray n)->IntsAre out (ks.map Int.ofNat)->Q (.ref L) { s with heap:=h',toks:=tk }) :
 wpAny (model prog w) A (call (.builtin "sorted") [.ref S]) Q E s:=by
 obtain⟨h16,tok,ep,ho⟩:=hS
 refine Calls.call_function_entry kind_sorted plain_sorted entry_sorted (args_sorted1 _) ?_
 unfold Builtin.«sorted»
 refine wpAny_bind (m:=checkCount "sorted" 1 1 _) (wpAny_pure ?_)
 refine wpAny_bind (aDj (tok:=tok) (ep:=ep) (ks:=ks) hh h16 ho λs' acc hk hs' hacc=>?_)
 obtain⟨hle,tk,h1,rfl⟩:=hs'
 have pm:=vZ w S ep (cK tok ks)
 have h64:acc.length<64:=by
  rw[hacc,lM,pm.length_eq,Array.length_toList,bY]
  have:=aKg ks h16
  omega
 refine wpAny_bind (wpAny_newList ?_ (Nat.le_trans (Nat.le_of_lt h64) (by decide)))
 have hoL:(h1.push (seqObj "list" acc.toArray 0)).get? h1.objs.size=some (seqObj "list" acc.toArray 0):=Heap.get?_push_size _ rfl
 have hI:IntsAre acc ((nV w S ep (cK tok ks)).toList.map (·.1)):=by
  rw[hacc]
  exact wC λe he=>aFk e (pm.subset he)
 refine wpAny_bind (wpAny_holding (wpAny_call_entry (s:={ s with heap:=h1.push (seqObj "list" acc.toArray 0),toks:=tk }) slot_list_sort ⟨_,hoL,rfl⟩ entry_list_sort (list_sort_tree hoL hI h64 λout ns' a1 a2 a3=>⟨_,rfl,?_⟩) (args_list_sort _)))
 have e:ns'=ks.map Int.ofNat:=aAj a3 (aHF ks h16) (by rw[<-aHG (tok:=tok)];exact a2.trans (pm.map _))
 obtain⟨n,hL⟩:=sortedHeap_at (out:=out) hoL
 refine wpAny_pure ⟨_,rfl,h _ _ h1.objs.size out.toList n (Nat.le_of_lt hle) (λb o q=>?_) (by rw[Array.toArray_toList];exact hL) (e▸a1)⟩
 have hb:b<h1.objs.size:=Heap.lt_size (hk b o q)
 rw[sortedHeap_old (Nat.ne_of_lt hb) (by rw[size_push'];exact Nat.lt_succ_of_lt hb)]
 exact Heap.get?_push_of_some _ (hk b o q)
end
end L2
end
noncomputable section
namespace Hp
open PySem PySem.Spec PyProof.Rows L2
theorem aDk:∀ks∈all16,∀k∈List.range 4,yV ks k∈all16/\∀j∈List.range 4,(j∈yV ks k↔j=k\/j∈ks):=by decide +kernel
theorem aDl:∀ks∈all16,ks=(List.range 4).filter λk=>decide (k∈ks):=by decide +kernel
theorem rY:∀(ns ks:List Nat),ks∈all16->(∀n∈ns,n<4)->ns.foldl yV ks∈all16/\∀j∈List.range 4,(j∈ns.foldl yV ks↔j∈ns\/j∈ks)
 | [],ks,h,_=>⟨h,λj _=>by simp⟩
 | n::ns,ks,h,h4=>by
  obtain⟨a1,a2⟩:=aDk ks h n (List.mem_range.mpr (h4 n List.mem_cons_self))
  obtain⟨b1,b2⟩:=rY ns (yV ks n) a1 λm hm=>h4 m (List.mem_cons_of_mem _ hm)
  refine⟨b1,λj hj=>?_⟩
  rw[List.foldl_cons,b2 j hj,a2 j hj,List.mem_cons]
  constructor
  . rintro (z|z|z)
    . exact .inl (.inr z)
    . exact .inl (.inl z)
    . exact .inr z
  . rintro ((z|z)|z)
    . exact .inr (.inl z)
    . exact .inl z
    . exact .inr (.inr z)
theorem aFl{ns:List Nat}(h4:∀n∈ns,n<4):nT ns=dW ns:=by
 obtain⟨b1,b2⟩:=rY ns [] (by decide +kernel) h4
 unfold nT dW
 rw[aDl _ b1]
 refine List.filter_congr λj hj=>?_
 have:=b2 j hj
 simp only[List.not_mem_nil,or_false] at this
 simp only[this]
section
variable {X:Cx} {P:Pg} {Γ:Ct} {n:Nat} {RT Y old:Addr->Prop} {σ:Sg} {pos:Pos} {K:Fg} {H:Hp}
theorem rZ:∀{ds:List D} {ns:List Nat} {ex:Addr->Prop} {vs:List V} {us:List Value},oZ ds=some ns->Reps K H ex ds vs->bC vs us->aDh us ns/\ns.length=us.length/\∀n∈ns,n<4
 | [],ns,ex,vs,us,h,r,rv=>by
  cases h
  rw[show vs=[] from r] at rv
  cases rv
  exact⟨.nil,rfl,λn hn=>by cases hn⟩
 | d::ds,ns,ex,vs,us,h,r,rv=>by
  obtain⟨v,vr,e,h1,h2⟩:=r
  subst e
  cases rv with
  | cons r1 r2=>
   cases d with
   | int i=>
    unfold oZ at h
    split at h
    . rename_i hi
      cases q:oZ ds with
      | none=>rw[q] at h;cases h
      | some ms=>
       rw[q] at h
       cases h
       rw[show v=.int i from h1] at r1
       obtain⟨t,rfl⟩:=r1
       obtain⟨g1,g2,g3⟩:=rZ q h2 r2
       refine⟨.cons ⟨by omega,t,?_⟩ g1,by rw[lC,lC,g2],λn hn=>?_⟩
       . rw[Int.toNat_of_nonneg hi.1]
       . rcases List.mem_cons.mp hn with z|z
         . rw[z];omega
         . exact g3 n z
    . cases h
   | _=>cases h
theorem gO:∀{ns:List Int} {us:List Value},IntsAre us ns->bC (ns.map V.int) us
 | _,_,.nil=>.nil
 | _,_,.cons i t r=>.cons ⟨t,rfl⟩ (gO r)
theorem sA{ex:Addr->Prop}:∀(ks:List Nat),Reps K H ex (ks.map λ(k:Nat)=>D.int (k:Int)) ((ks.map Int.ofNat).map V.int)
 | []=>.nil
 | k::ks=>.cons rfl (sA ks)
theorem aHH(M:Mc X P Γ n){a:E}{ea:Expr}{f g:Str}{pf pg p2:Pos}(hf:f=("sorted" : Str))(hg:dJ Γ f=true)(hf2:g=("set" : Str))(hg2:dJ Γ g=true)(ha:PE X ea (WE X P n RT Y old σ a))(hp:bJ ea=true) :
 PE X (.Call (.Name f pf) [.Call (.Name g pg) [ea] [] p2] [] pos) (WE X P n RT Y old σ (.sset a)):=by
 subst hf hf2
 intro pins s σV H Q I hw
 obtain⟨S,h⟩:=hw
 have h:=RE.bind' (show RE (ev P (call P n) σ a >>= λx=>(match x.d with
  | .lst ds=>(match oZ ds with|some ns=>R.ok (⟨.lst ((dW ns).map λ(k:Nat)=>.int (k:Int)),true,false,[]⟩:Vl)|none=>.bad)
  | _=>.bad)) _ from h)
 obtain⟨x,ex,h⟩:=h.eq
 cases hd:x.d with
 | lst ds=>
  rw[hd] at h
  cases hk:oZ ds with
  | none=>simp only[hk] at h;exact h.elim
  | some ns=>
   simp only[hk] at h
   refine wpAny_Call_Name_kw (fF I (M.gl hg) (M.md.blt _ (by decide +kernel)) boot_sorted ?_ (by decide +kernel) (by decide +kernel))
   refine PyProof.Rows.callWith_builtin1 ?_ (aE (e:=.Call (.Name "set" pg) [ea] [] p2) (es:=[]) rfl) rfl
   rw[aE (e:=.Call (.Name "set" pg) [ea] [] p2) (es:=[]) rfl]
   show wpAny _ _ (spliced ((false,eval (.Call (.Name "set" pg) [ea] [] p2) X.env)::backTo pos (starEach [] X.env))) _ _ s
   refine Calls.spliced_cons (wpAny_Call_Name_kw (fF I (M.gl hg2) (M.md.blt _ (by decide +kernel)) (show bootBuiltins "set" = some (.type "set") by kernel_rfl) ?_ (by decide +kernel) (by decide +kernel)))
   refine PyProof.Rows.callWith_type1 (thn (jN (es:=[]) ha mL (aE hp) p2 pins s σV H (λus H1=>∃u,us=[u]/\Tk X.K H1/\Ro X.K RT Y old σ σV H H1 x u) I ⟨S,?_⟩) λus s1 ⟨vs,H1,I1,r1,u,e1,t1,ro⟩=>?_) (aE hp) rfl
   . rw[ex]
     intro u H1 t1 ro
     exact⟨u,rfl,t1,ro⟩
   . subst e1
     obtain⟨u',rfl,ru⟩:=r1.one
     obtain⟨b,xs,rfl,hS,_,rr⟩:=(ro.rv S).lst hd
     cases ru
     obtain⟨its,r2,p,_⟩:=I1.list hS
     obtain⟨hK,hKl,h4⟩:=rZ hk rr r2
     refine aBv (I1.ok.hd M.calm) p.isList (by simpa using hK) (by rw[List.size_toArray];exact hKl) λh' tk hset hkeep=>?_
     have I2:L2.Inv X pins σV H1 { s1 with heap:=h',toks:=tk }:=I1.kept λb o e=>hkeep b o (Heap.lt_size e) e
     refine Calls.spliced_nil ?_
     refine wD (s:={ s1 with heap:=h',toks:=tk }) (I2.ok.hd M.calm) hset λh2 tk2 L out m hL hk2 hoL hints=>?_
     have hn:H1 L=none:=I2.hok.fresh hL
     have e4:nT ns=dW ns:=aFl h4
     have l4:(dW ns).length<=4:=by
      unfold dW
      exact Nat.le_trans (List.length_filter_le _ _) (by decide)
     rw[e4] at hints
     have I3:L2.Inv X pins σV (upd H1 L (.lst (((dW ns).map Int.ofNat).map V.int))) { s1 with heap:=h2,toks:=tk2 }:=I2.laid hk2 hL ⟨by rw[lM,lM,sizeLine_eq];omega,out,m,gO hints,hoL⟩
     have s3:aU H1 (upd H1 L (.lst (((dW ns).map Int.ofNat).map V.int))):=aU.new hn
     refine⟨.ref L,_,I3,rfl,?_⟩
     exact(show Wn X RT Y old σ σV H Q (⟨.lst ((dW ns).map λ(k:Nat)=>.int (k:Int)),true,false,[]⟩:Vl) from h) _ _ I3.tk ⟨ro.1.trans s3,by rw[if_pos rfl];exact⟨L,_,_,rfl,rfl,ro.1.free hn,cU,sA (dW ns)⟩⟩
 | _=>rw[hd] at h;exact h.elim
end
end Hp
end
noncomputable section
set_option maxHeartbeats 8000000
namespace Hp
open PySem PySem.Spec PyProof.Rows L2
section
variable {P:Pg} {n:Nat}
theorem wF{X:Cx}{Γ:Ct}(M:Mc X P Γ n)(scope:Scope):(relabel scope X.env).names=pB Γ.sc scope.names:=by
 unfold relabel pB
 simp only
 refine List.map_congr_left λp hp=>?_
 obtain⟨m,k⟩:=p
 have e1:(X.env.scope.kind==ScopeKind.function)=true:=by rw[M.fk];rfl
 have e2:X.env.kindOf m=Γ.sc.lookup m:=by unfold Env.kindOf;rw[M.sc]
 simp only[e1,e2,Bool.and_true]
abbrev chN(Γ:Ct)(tg:Expr)(caps:List Nat):List Str:=gN tg++caps.filterMap λi=>Γ.N[i]?
abbrev yX(Γ:Ct)(tg:Expr)(caps:List Nat)(scope:Scope):Ct:={ Γ with N:=chN Γ tg caps,sc:=pB Γ.sc scope.names,fn:=false }
structure aDm (Γ:Ct) (tg:Expr) (caps:List Nat) (scope:Scope) (k:Nat) (t:T):Prop where
 len:(gN tg).length=k
 lt:∀i∈caps,i<Γ.N.length
 ndc:caps.Nodup
 kind:scope.kind=.function
 nd:(chN Γ tg caps).Nodup
 cap:∀x∈caps.filterMap (λi=>Γ.N[i]?),scope.names.lookup x=some .free/\Γ.sc.lookup x=some .cell
 all:∀p∈scope.names,p.2≠.cell/\(p.2=.local->scope.names.lookup p.1=some .local)/\(p.2=.free->Γ.sc.lookup p.1=some .cell)
 tk:∀i∈tIx t,i<k
theorem tP{N:List Str}:∀{caps:List Nat},(∀i∈caps,i<N.length)->∀{j i:Nat},caps[j]? = some i->(caps.filterMap λi=>N[i]?)[j]? = N[i]?/\(caps.filterMap λi=>N[i]?).length=caps.length
 | [],_,_,_,h=>by simp at h
 | c::cs,hl,j,i,h=>by
  have hc:N[c]? = some N[c]! := by
   have:=hl c List.mem_cons_self
   simp[this]
  rw[List.filterMap_cons_some hc]
  have hl':∀i∈cs,i<N.length:=λi hi=>hl i (List.mem_cons_of_mem _ hi)
  have len:(cs.filterMap λi=>N[i]?).length=cs.length:=by
   cases cs with
   | nil=>rfl
   | cons c' cs'=>exact(tP hl' (j:=0) (i:=c') rfl).2
  refine⟨?_,by rw[lC,lC,len]⟩
  cases j with
  | zero=>
   have e:c=i:=by simpa using h
   subst e
   rw[gZ,hc]
  | succ j=>
   rw[gS]
   exact(tP hl' (j:=j) (i:=i) (by simpa using h)).1
theorem aHI{N:List Str}{caps:List Nat}(h:∀i∈caps,i<N.length):(caps.filterMap λi=>N[i]?).length=caps.length:=by
 cases caps with
 | nil=>rfl
 | cons c cs=>exact(tP h (j:=0) (i:=c) rfl).2
theorem aDm.scope{X:Cx}{Γ:Ct}{tg:Expr}{caps:List Nat}{scope:Scope}{k:Nat}{t:T}(O:aDm Γ tg caps scope k t)(M:Mc X P Γ n):dP X scope k caps (chN Γ tg caps) where
 kind:=O.kind
 nocell:=λy hy=>(O.all y hy).1
 loc:=λy hy e=>(O.all y hy).2.1 e
 free:=λm hm=>.inl (by
  have:=(O.all _ hm).2.2 rfl
  show X.env.scope.names.lookup m=_
  rw[M.sc];exact this)
 len:=by rw[lA,O.len,aHI O.lt]
 cap:=λj i e=>by
  have hi:=O.lt i (mG e)
  have hx:Γ.N[i]? = some Γ.N[i]:=List.getElem?_eq_getElem hi
  have hg:=(tP O.lt e).1
  rw[hx] at hg
  obtain⟨h1,h2⟩:=O.cap _ (mG hg)
  refine⟨Γ.N[i],?_,by rw[M.N];exact hx,h1,?_⟩
  . show(gN tg++_)[k+j]? = _
    rw[List.getElem?_append_right (by rw[O.len];omega),O.len,Nat.add_sub_cancel_left]
    exact hg
  . show X.env.scope.names.lookup _=_
    rw[M.sc];exact h2
 ndp:=M.nd
theorem aDm.mc{X:Cx}{Γ:Ct}{tg:Expr}{caps:List Nat}{scope:Scope}{k:Nat}{t:T}(O:aDm Γ tg caps scope k t)(M:Mc X P Γ n)(C:Addr)(s₀:Shared)(H₀:Hp)(ex:List Addr) :
 Mc (eL X scope (chN Γ tg caps) C s₀ H₀ ex) P (yX Γ tg caps scope) n where
 md:=⟨M.md.fn,M.md.blt,M.md.cns,M.md.tab⟩
 N:=rfl
 nd:=O.nd
 sc:=wF M scope
 calm:=M.calm
 room:=M.room
 xe:=rfl
 st:=λx h=>.inr (by
  show(relabel scope X.env).names.lookup x=_
  rw[wF M scope]
  unfold vI at h
  have h:(match (pB Γ.sc scope.names).lookup x with|some .local=>true|some .cell=>false|_=>false)=true:=h
  split at h
  . rename_i e;exact e
  . cases h
  . cases h)
 fk:=O.kind
theorem wG{Γ:Ct}{tt:Bool}{a b:E}{e:Expr}:chkI Γ tt (.rng a b) e=oS (mO e) λp=>(p.1==("range" : Str))&&dJ Γ p.1&&(match p.2 with
 | [x]=>yJ a&&aW Γ b x
 | [x,y]=>aW Γ a x&&aW Γ b y
 | _=>false):=rfl
theorem wH{Γ:Ct}{tt:Bool}{a b:E}{e:Expr}:chkI Γ tt (.zip a b) e=oS (mO e) λp=>(match p.2 with
 | [x,y]=>tt&&(p.1==("zip" : Str))&&dJ Γ p.1&&aW Γ a x&&aW Γ b y
 | _=>false):=rfl
theorem sB{Γ:Ct}{tt:Bool}{a:E}{e:Expr}:chkI Γ tt (.enum a) e=oS (mO e) λp=>(match p.2 with
 | [x]=>tt&&(p.1==("enumerate" : Str))&&dJ Γ p.1&&aW Γ a x
 | _=>false):=rfl
theorem kQ{Γ:Ct}{tt:Bool}{it:Hp.It}{e:Expr}(h:chkI Γ tt it e=true):bJ e=true:=by
 cases it with
 | seq c=>exact aQ (c:=c) (by exact h)
 | rng a b=>rw[wG] at h;obtain⟨_,⟨_,_,rfl⟩,_⟩:=aJ h;rfl
 | zip a b=>rw[wH] at h;obtain⟨_,⟨_,_,rfl⟩,_⟩:=aJ h;rfl
 | enum a=>rw[sB] at h;obtain⟨_,⟨_,_,rfl⟩,_⟩:=aJ h;rfl
 | rev a=>cases h
theorem aFm{X:Cx}{e:Expr}{c:E}{RT Y old:Addr->Prop}{σ:Sg}(h:tst P (call P n) σ c=.bad):PT X e (WT X P n RT Y old σ c):=λpins s σV H Q I ⟨S,hh⟩=>by
 rw[h] at hh
 exact hh.elim
theorem iJ{a b c:Bool}(h:(a&&b&&c)=true):a=true/\b=true/\c=true:=by
 cases a <;> cases b <;> cases c <;> first|exact⟨rfl,rfl,rfl⟩|cases h
theorem fL{a b:Bool}(h:(a&&b)=true):a=true/\b=true:=by
 cases a <;> cases b <;> first|exact⟨rfl,rfl⟩|cases h
theorem aHJ{a b c d:Bool}(h:(a&&b&&c&&d)=true):a=true/\b=true/\c=true/\d=true:=by
 obtain⟨h1,h2,h3⟩:=iJ h
 obtain⟨h1,h4⟩:=fL h1
 exact⟨h1,h4,h2,h3⟩
theorem yY{a b c d e:Bool}(h:(a&&b&&c&&d&&e)=true):a=true/\b=true/\c=true/\d=true/\e=true:=by
 obtain⟨h1,h2,h3,h4⟩:=aHJ h
 obtain⟨h1,h5⟩:=fL h1
 exact⟨h1,h5,h2,h3,h4⟩
theorem aAk{Γ:Ct}{k:Nat}{caps:List Nat}{t:T}{it:Hp.It}{cond:Es}{elt:E}{e:Expr}(h:aW Γ (.comp k caps t it cond elt) e=true) :
 ∃el tg iter ifs scope pos,e=.ListComp el [⟨tg,iter,ifs,0⟩] scope pos/\aDm Γ tg caps scope k t/\ifs.length<=1/\rB (yX Γ tg caps scope) t tg=true/\chkI Γ (pC tg) it iter=true/\chkEs (yX Γ tg caps scope) cond ifs=true/\aW (yX Γ tg caps scope) elt el=true:=by
 obtain⟨⟨el,gens,scope⟩,h1,g⟩:=aJ h
 clear h
 obtain⟨pos,rfl⟩:=h1
 have h:=g
 clear g
 rcases gens with _|⟨⟨tg,iter,ifs,as⟩,_|⟨_,_⟩⟩
 . cases h
 . have h:(as==0&&(gN tg).length==k&&(caps.all λi=>decide (i<Γ.N.length))&&decide caps.Nodup&&scope.kind==.function&&decide (gN tg++caps.filterMap λi=>Γ.N[i]?).Nodup &&
    ((caps.filterMap λi=>Γ.N[i]?).all λx=>scope.names.lookup x==some .free&&Γ.sc.lookup x==some .cell) &&
    (scope.names.all λp=>p.2 != .cell&&(p.2 != .local||scope.names.lookup p.1==some .local)&&(p.2 != .free||Γ.sc.lookup p.1==some .cell)) &&
    ((tIx t).all λi=>decide (i<k))&&decide (ifs.length<=1) &&
    rB (yX Γ tg caps scope) t tg&&chkI Γ (pC tg) it iter&&chkEs (yX Γ tg caps scope) cond ifs&&aW (yX Γ tg caps scope) elt el)=true:=by
    exact h
   simp only[bA,beq_iff_eq,List.all_eq_true,decide_eq_true_eq,Bool.or_eq_true,bne_iff_ne,ne_eq] at h
   obtain⟨⟨⟨⟨⟨⟨⟨⟨⟨⟨⟨⟨⟨h0,h1⟩,h2⟩,h3⟩,h4⟩,h5⟩,h6⟩,h7⟩,h8⟩,h9⟩,h10⟩,h11⟩,h12⟩,h13⟩:=h
   subst h0
   refine⟨el,tg,iter,ifs,scope,pos,rfl,⟨h1,h2,h3,h4,h5,h6,λp hp=>?_,h8⟩,h9,h10,h11,h12,h13⟩
   obtain⟨⟨q1,q2⟩,q3⟩:=h7 p hp
   exact⟨q1,λe=>q2.resolve_left λz=>z e,λe=>q3.resolve_left λz=>z e⟩
 . cases h
abbrev PEc(P:Pg)(n:Nat)(c:E):Prop:=∀{X:Cx} {Γ:Ct},Mc X P Γ n->∀{e:Expr},aW Γ c e=true->∀(RT Y old:Addr->Prop) (σ:Sg),PE X e (WE X P n RT Y old σ c)
abbrev PTc(P:Pg)(n:Nat)(c:E):Prop:=∀{X:Cx} {Γ:Ct},Mc X P Γ n->∀{e:Expr},aW Γ c e=true->∀(RT Y old:Addr->Prop) (σ:Sg),PT X e (WT X P n RT Y old σ c)
abbrev PWc(P:Pg)(n:Nat)(c:E):Prop:=∀{X:Cx} {Γ:Ct},Mc X P Γ n->∀{o:BoolOp} {xs:List Expr} {pos:Pos},aW Γ c (.BoolOp o xs pos)=true->∀(RT Y old:Addr->Prop) (σ:Sg),PW X (.BoolOp o xs pos) (WT X P n RT Y old σ c)
structure Q3 (P:Pg) (n:Nat) (c:E):Prop where
 e:PEc P n c
 t:PTc P n c
 w:PWc P n c
structure QA (P:Pg) (n:Nat) (cs:Es):Prop where
 a:∀{X:Cx} {Γ:Ct},Mc X P Γ n->∀{es:List Expr},chkEs Γ cs es=true->∀(RT Y old:Addr->Prop) (σ:Sg),PA X es (WA X P n RT Y old σ cs)
 o:∀{X:Cx} {Γ:Ct},Mc X P Γ n->∀{e:Option Expr},chkO Γ cs e=true->∀(RT Y old:Addr->Prop) (σ:Sg),PO X e (wO X P n RT Y old σ cs)
 ts:∀{X:Cx} {Γ:Ct},Mc X P Γ n->∀{es:List Expr},es.length<=1->chkEs Γ cs es=true->∀(RT Y old:Addr->Prop) (σ:Sg),PTs X es (wTs X P n RT Y old σ cs)
abbrev QI(P:Pg)(n:Nat)(it:Hp.It):Prop:=∀{X:Cx} {Γ:Ct},Mc X P Γ n->∀{tg e:Expr},chkI Γ (pC tg) it e=true->∀(RT Y old:Addr->Prop) (σ:Sg),PI X tg e (wI X P n RT Y old σ it)
theorem Q3.of{c:E}(h:PEc P n c)(hd:∀σ,tst P (call P n) σ c=.bad)(hw:∀{Γ:Ct} {o:BoolOp} {xs:List Expr} {pos:Pos},aW Γ c (.BoolOp o xs pos)=false):Q3 P n c:=
 ⟨h,λ{X Γ} M {e} z RT Y old σ=>aFm (hd σ),λ{X Γ} M {o xs pos} z RT Y old σ=>absurd (hw.symm.trans z) bN⟩
theorem n_c{d:D}:Q3 P n (.c d):=by
 have h0:∀{Γ:Ct} {e:Expr},aW Γ (.c d) e=true->(∃c k p,e=.Constant c k p/\eqC d c=true)\/∃x p,e=.Name x p/\dJ Γ x=true/\cZ x=true/\∃d',Γ.cns.lookup x=some d'/\eqK d d'=true:=λ{Γ e} h=>by
  rcases(Bool.or_eq_true _ _).mp (show(oS (asC e) (eqC d)||oS (asN e) λx=>dJ Γ x&&cZ x&&oB (Γ.cns.lookup x) (eqK d))=true from h) with h|h
  . obtain⟨c,h1,g⟩:=aJ h
    clear h
    obtain⟨k,p,rfl⟩:=h1
    have h:=g
    clear g
    exact .inl ⟨c,k,p,rfl,h⟩
  . obtain⟨x,h1,g⟩:=aJ h
    clear h
    obtain⟨p,rfl⟩:=h1
    have h:=g
    clear g
    obtain⟨h1,h2,h3⟩:=iJ h
    obtain⟨d',q1,q2⟩:=aCK h3
    exact .inr ⟨x,p,rfl,h1,h2,d',q1,q2⟩
 have k:PEc P n (.c d):=λ{X Γ} M {e} h RT Y old σ=>by
  rcases h0 h with⟨c,j,p,rfl,g⟩|⟨x,p,rfl,h1,h2,d',q,h3⟩
  . exact s_c g
  . have e:=aHm h3
    subst e
    obtain⟨u,v,m,r,hr⟩:=M.md.cns x d q
    refine(zX (M.gl h1) m r (aY h2)).imp λσV H Q t ⟨S,hh⟩ t'=>?_
    exact(show Wn _ RT Y old σ σV H Q (Vl.cl d) from hh) v H t' (Ro.val (aU.refl H) (hr H))
 refine⟨k,λ{X Γ} M {e} h RT Y old σ=>?_,λ{X Γ} M {o xs pos} h RT Y old σ=>absurd h bN⟩
 refine rR (k M h RT Y old σ) ?_ λp hp=>hp
 rcases h0 h with⟨c,j,p,rfl,h⟩|⟨x,p,rfl,_⟩ <;> (intro _;rfl)
theorem n_v{i:Nat}:Q3 P n (.v i):=by
 have k:PEc P n (.v i):=λ{X Γ} M {e} h RT Y old σ=>by
  obtain⟨x,h1,g⟩:=aJ h
  clear h
  obtain⟨p,rfl⟩:=h1
  have h:=g
  clear g
  have h:eP _ i x=true:=h
  unfold eP at h
  obtain⟨h1,h2,h3⟩:=iJ h
  exact s_v (by rw[M.N];exact eq_of_beq h1) (M.vis h2) (aY h3) (mP h3)
 refine⟨k,λ{X Γ} M {e} h RT Y old σ=>?_,λ{X Γ} M {o xs pos} h RT Y old σ=>absurd h bN⟩
 refine rR (k M h RT Y old σ) ?_ λp hp=>RE.bind' (show RE (bZ σ i >>= λx=>fS x) p from hp)
 obtain⟨x,⟨p,rfl⟩,_⟩:=aJ h
 intro _;rfl
theorem aMo{o:Operator}{a b:E}(ha:Q3 P n a)(hb:Q3 P n b):Q3 P n (.op o a b):=Q3.of (λ{X Γ} M {e} h RT Y old σ=>by
 obtain⟨⟨l,o',r⟩,h1,g⟩:=aJ h
 clear h
 obtain⟨p,rfl⟩:=h1
 have h:=g
 clear g
 obtain⟨h1,h2,h3⟩:=iJ h
 have e:o=o':=eq_of_beq h1
 subst e
 exact aMj (ha.e M h2 RT Y old σ) (hb.e M h3 RT Y old σ)) (λ_=>rfl) rfl
theorem aKh{a:E}(ha:Q3 P n a):Q3 P n (.neg a):=Q3.of (λ{X Γ} M {e} h RT Y old σ=>by
 obtain⟨⟨o,x⟩,h1,g⟩:=aJ h
 clear h
 obtain⟨p,rfl⟩:=h1
 have h:=g
 clear g
 obtain⟨h1,h2⟩:=fL h
 have e:o=.USub:=eq_of_beq h1
 subst e
 exact aJN (ha.e M h2 RT Y old σ)) (λ_=>rfl) rfl
theorem aMp{a:E}(ha:Q3 P n a):Q3 P n (.nt a):=by
 have h0:∀{Γ:Ct} {e:Expr},aW Γ (.nt a) e=true->∃x p,e=.UnaryOp .Not x p/\aW Γ a x=true:=λ{Γ e} h=>by
  obtain⟨⟨o,x⟩,h1,g⟩:=aJ h
  clear h
  obtain⟨p,rfl⟩:=h1
  have h:=g
  clear g
  obtain⟨h1,h2⟩:=fL h
  have e:o=.Not:=eq_of_beq h1
  subst e
  exact⟨x,p,rfl,h2⟩
 refine⟨λ{X Γ} M {e} h RT Y old σ=>?_,λ{X Γ} M {e} h RT Y old σ=>?_,λ{X Γ} M {o xs pos} h RT Y old σ=>absurd h bN⟩
 . obtain⟨x,p,rfl,g⟩:=h0 h
   exact aJO (ha.e M g RT Y old σ)
 . obtain⟨x,p,rfl,g⟩:=h0 h
   exact dQ (ha.t M g RT Y old σ)
theorem aAl{Γ:Ct}{a b:E}{w:BoolOp}{xs:List Expr}{p:Pos}(h:(match xs with
 | [x,y]=>aW Γ a x&&aW Γ b y
 | x::y::z::r=>aW Γ a x&&aW Γ b (.BoolOp w (y::z::r) p)
 | _=>false)=true):∃x y r,xs=x::y::r/\aW Γ a x=true/\((r=[]/\aW Γ b y=true)\/aW Γ b (.BoolOp w (y::r) p)=true):=by
 rcases xs with _|⟨x,_|⟨y,_|⟨z,r⟩⟩⟩
 . cases h
 . cases h
 . obtain⟨h1,h2⟩:=fL h
   exact⟨x,y,[],rfl,h1,.inl ⟨rfl,h2⟩⟩
 . obtain⟨h1,h2⟩:=fL h
   exact⟨x,y,z::r,rfl,h1,.inr h2⟩
theorem aMq{a b:E}(ha:Q3 P n a)(hb:Q3 P n b):Q3 P n (.an a b):=by
 have kw:PWc P n (.an a b):=λ{X Γ} M {o xs pos} h RT Y old σ=>by
  obtain⟨h1,h2⟩:=fL h
  have e:o=.And:=eq_of_beq h1
  subst e
  obtain⟨x,y,r,rfl,g1,g2⟩:=aAl h2
  rcases g2 with⟨rfl,g2⟩|g2
  . exact aJW (ha.t M g1 RT Y old σ) (aEu (hb.t M g2 RT Y old σ))
  . exact aJW (ha.t M g1 RT Y old σ) (hb.w M g2 RT Y old σ)
 refine⟨λ{X Γ} M {e} h RT Y old σ=>?_,λ{X Γ} M {e} h RT Y old σ=>?_,kw⟩
 . obtain⟨⟨o,xs,pos⟩,h1,g⟩:=aJ h
   clear h
   obtain rfl:=h1
   have h:=g
   clear g
   obtain⟨h1,h2⟩:=fL h
   have e:o=.And:=eq_of_beq h1
   subst e
   obtain⟨x,y,r,e,g1,g2⟩:=aAl h2
   have e:xs=x::y::r:=e
   subst e
   rcases g2 with⟨rfl,g2⟩|g2
   . exact aJP (ha.e M g1 RT Y old σ) (aCb (hb.e M g2 RT Y old σ))
   . exact aJP (ha.e M g1 RT Y old σ) (hb.e M g2 RT Y old σ)
 . obtain⟨⟨o,xs,pos⟩,rfl,_⟩:=aJ h
   exact(kw M h RT Y old σ).pt
theorem aKi{a b:E}(ha:Q3 P n a)(hb:Q3 P n b):Q3 P n (.orr a b):=by
 have kw:PWc P n (.orr a b):=λ{X Γ} M {o xs pos} h RT Y old σ=>by
  obtain⟨h1,h2⟩:=fL h
  have e:o=.Or:=eq_of_beq h1
  subst e
  obtain⟨x,y,r,rfl,g1,g2⟩:=aAl h2
  rcases g2 with⟨rfl,g2⟩|g2
  . exact aGd (ha.t M g1 RT Y old σ) (aGB (hb.t M g2 RT Y old σ))
  . exact aGd (ha.t M g1 RT Y old σ) (hb.w M g2 RT Y old σ)
 refine⟨λ{X Γ} M {e} h RT Y old σ=>?_,λ{X Γ} M {e} h RT Y old σ=>?_,kw⟩
 . obtain⟨⟨o,xs,pos⟩,h1,g⟩:=aJ h
   clear h
   obtain rfl:=h1
   have h:=g
   clear g
   obtain⟨h1,h2⟩:=fL h
   have e:o=.Or:=eq_of_beq h1
   subst e
   obtain⟨x,y,r,e,g1,g2⟩:=aAl h2
   have e:xs=x::y::r:=e
   subst e
   rcases g2 with⟨rfl,g2⟩|g2
   . exact aGc (ha.e M g1 RT Y old σ) (aCb (hb.e M g2 RT Y old σ))
   . exact aGc (ha.e M g1 RT Y old σ) (hb.e M g2 RT Y old σ)
 . obtain⟨⟨o,xs,pos⟩,rfl,_⟩:=aJ h
   exact(kw M h RT Y old σ).pt
theorem aKj{t a b:E}(ht:Q3 P n t)(ha:Q3 P n a)(hb:Q3 P n b):Q3 P n (.ife t a b):=Q3.of (λ{X Γ} M {e} h RT Y old σ=>by
 obtain⟨⟨t',a',b'⟩,h1,g⟩:=aJ h
 clear h
 obtain⟨p,rfl⟩:=h1
 have h:=g
 clear g
 obtain⟨h1,h2,h3⟩:=iJ h
 exact aJQ (ht.t M h1 RT Y old σ) (ha.e M h2 RT Y old σ) (hb.e M h3 RT Y old σ)) (λ_=>rfl) rfl
theorem aKk{o:CmpOp}{a b:E}(ha:Q3 P n a)(hb:Q3 P n b):Q3 P n (.cmp o a b):=by
 have h0:∀{Γ:Ct} {e:Expr},aW Γ (.cmp o a b) e=true->∃l r p,e=.Compare l [o] [r] p/\aW Γ a l=true/\aW Γ b r=true:=λ{Γ e} h=>by
  obtain⟨⟨l,os,rs⟩,h1,g⟩:=aJ h
  clear h
  obtain⟨p,rfl⟩:=h1
  have h:=g
  clear g
  rcases os with _|⟨o',_|⟨_,_⟩⟩
  . cases h
  . rcases rs with _|⟨r,_|⟨_,_⟩⟩
    . cases h
    . obtain⟨h1,h2,h3⟩:=iJ h
      have e:o=o':=eq_of_beq h1
      subst e
      exact⟨l,r,p,rfl,h2,h3⟩
    . cases h
  . cases h
 refine⟨λ{X Γ} M {e} h RT Y old σ=>?_,λ{X Γ} M {e} h RT Y old σ=>?_,λ{X Γ} M {o xs pos} h RT Y old σ=>absurd h bN⟩
 . obtain⟨l,r,p,rfl,h2,h3⟩:=h0 h
   exact aJR M (ha.e M h2 RT Y old σ) (hb.e M h3 RT Y old σ) (aQ h3)
 . obtain⟨l,r,p,rfl,h2,h3⟩:=h0 h
   exact cQ M (ha.e M h2 RT Y old σ) (hb.e M h3 RT Y old σ) (aQ h3)
theorem aHK{o1 o2:CmpOp}{a b c:E}(ha:Q3 P n a)(hb:Q3 P n b)(hc:Q3 P n c):Q3 P n (.cmp2 o1 o2 a b c):=by
 have h0:∀{Γ:Ct} {e:Expr},aW Γ (.cmp2 o1 o2 a b c) e=true->∃l m r p,e=.Compare l [o1,o2] [m,r] p/\aW Γ a l=true/\aW Γ b m=true/\aW Γ c r=true:=λ{Γ e} h=>by
  obtain⟨⟨l,os,rs⟩,h1,g⟩:=aJ h
  clear h
  obtain⟨p,rfl⟩:=h1
  have h:=g
  clear g
  rcases os with _|⟨o1',_|⟨o2',_|⟨_,_⟩⟩⟩
  . cases h
  . cases h
  . rcases rs with _|⟨m,_|⟨r,_|⟨_,_⟩⟩⟩
    . cases h
    . cases h
    . obtain⟨h1,h2,h3,h4,h5⟩:=yY h
      have e:o1=o1':=eq_of_beq h1
      subst e
      have e:o2=o2':=eq_of_beq h2
      subst e
      exact⟨l,m,r,p,rfl,h3,h4,h5⟩
    . cases h
  . cases h
 refine⟨λ{X Γ} M {e} h RT Y old σ=>?_,λ{X Γ} M {e} h RT Y old σ=>?_,λ{X Γ} M {o xs pos} h RT Y old σ=>absurd h bN⟩
 . obtain⟨l,m,r,p,rfl,h3,h4,h5⟩:=h0 h
   exact aHp M (ha.e M h3 RT Y old σ) (hb.e M h4 RT Y old σ) (hc.e M h5 RT Y old σ) (aQ h5)
 . obtain⟨l,m,r,p,rfl,h3,h4,h5⟩:=h0 h
   exact aHq M (ha.e M h3 RT Y old σ) (hb.e M h4 RT Y old σ) (hc.e M h5 RT Y old σ) (aQ h5)
theorem aKl{a b:E}(ha:Q3 P n a)(hb:Q3 P n b):Q3 P n (.idx a b):=by
 have k:PEc P n (.idx a b):=λ{X Γ} M {e} h RT Y old σ=>by
  obtain⟨⟨x,i⟩,h1,g⟩:=aJ h
  clear h
  obtain⟨p,rfl⟩:=h1
  have h:=g
  clear g
  obtain⟨h1,h2⟩:=fL h
  exact aJS (ha.e M h1 RT Y old σ) (hb.e M h2 RT Y old σ) (aQ h2)
 refine⟨k,λ{X Γ} M {e} h RT Y old σ=>?_,λ{X Γ} M {o xs pos} h RT Y old σ=>absurd h bN⟩
 refine rR (k M h RT Y old σ) ?_ λp hp=>?_
 . obtain⟨⟨x,i⟩,⟨p,rfl⟩,_⟩:=aJ h
   intro _;rfl
 . have hp:=RE.bind' (show RE (ev P (call P n) σ a >>= λx=>ev P (call P n) σ b >>= λy=>eA x y >>= λz=>fS z) p from hp)
   show RE (ev P (call P n) σ a >>= λx=>ev P (call P n) σ b >>= λy=>eA x y) _
   rw[RE.bind]
   refine hp.mono λx hx=>?_
   rw[RE.bind]
   exact(RE.bind' hx).mono λy hy=>RE.bind' hy
theorem aKm{a:E}{lo hi:Es}(ha:Q3 P n a)(hl:QA P n lo)(hh:QA P n hi):Q3 P n (.sli a lo hi):=Q3.of (λ{X Γ} M {e} h RT Y old σ=>by
 obtain⟨⟨x,i⟩,h1,g⟩:=aJ h
 clear h
 obtain⟨p,rfl⟩:=h1
 have h:=g
 clear g
 obtain⟨⟨l,u⟩,h1,g⟩:=aJ h
 clear h
 obtain⟨p2,e2⟩:=h1
 have h:=g
 clear g
 have e2:i=.Slice l u none p2:=e2
 subst e2
 obtain⟨h1,h2,h3⟩:=iJ h
 exact aJZ (ha.e M h1 RT Y old σ) (hl.o M h2 RT Y old σ) (hh.o M h3 RT Y old σ)) (λ_=>rfl) rfl
theorem aKn{es:Es}(ha:QA P n es):Q3 P n (.tup es):=Q3.of (λ{X Γ} M {e} h RT Y old σ=>by
 obtain⟨xs,h1,g⟩:=aJ h
 clear h
 obtain⟨k,p,rfl⟩:=h1
 have h:=g
 clear g
 obtain⟨h1,h2⟩:=fL h
 exact aJT (ha.a M h2 RT Y old σ) h2 (of_decide_eq_true h1)) (λ_=>rfl) rfl
theorem aKo{es:Es}(ha:QA P n es):Q3 P n (.lst es):=Q3.of (λ{X Γ} M {e} h RT Y old σ=>by
 obtain⟨xs,h1,g⟩:=aJ h
 clear h
 obtain⟨p,rfl⟩:=h1
 have h:=g
 clear g
 obtain⟨h1,h2⟩:=fL h
 exact aJU (ha.a M h2 RT Y old σ) h2 (of_decide_eq_true h1)) (λ_=>rfl) rfl
theorem aHL{f:Nat}{es:Es}(ha:QA P n es):Q3 P n (.call f es):=by
 have k:PEc P n (.call f es):=λ{X Γ} M {e} h RT Y old σ=>by
  obtain⟨⟨x,xs⟩,h1,g⟩:=aJ h
  clear h
  obtain⟨p1,p2,rfl⟩:=h1
  have h:=g
  clear g
  obtain⟨h1,h2,h3,h4⟩:=aHJ h
  exact aHn M (eq_of_beq h1) h2 h3 (ha.a M h4 RT Y old σ) (iZ h4) h4
 refine⟨k,λ{X Γ} M {e} h RT Y old σ=>?_,λ{X Γ} M {o xs pos} h RT Y old σ=>absurd h bN⟩
 refine rR (k M h RT Y old σ) ?_ λp hp=>?_
 . obtain⟨⟨x,xs⟩,⟨p1,p2,rfl⟩,_⟩:=aJ h
   intro _;rfl
 . have hp:=RE.bind' (show RE (evs P (call P n) σ es >>= λvs=>call P n f (vs.map (·.d)) >>= λr=>fS (gQ vs r)) p from hp)
   show RE (evs P (call P n) σ es >>= λvs=>call P n f (vs.map (·.d)) >>= λr=>R.ok (gQ vs r)) _
   rw[RE.bind]
   refine hp.mono λx hx=>?_
   rw[RE.bind]
   exact(RE.bind' hx).mono λy hy=>hy
theorem aMr{b:Bi}{es:Es}(ha:QA P n es):Q3 P n (.bi b es):=by
 have k:PEc P n (.bi b es):=λ{X Γ} M {e} h RT Y old σ=>by
  obtain⟨⟨x,xs⟩,h1,g⟩:=aJ h
  clear h
  obtain⟨p1,p2,rfl⟩:=h1
  have h:=g
  clear g
  obtain⟨h,h6⟩:=fL h
  obtain⟨h1,h2,h3,h4,h5⟩:=yY h
  cases xs with
  | nil=>cases h5
  | cons y ys=>exact aMk M h1 (eq_of_beq h2) h3 h4 (ha.a M h6 RT Y old σ) (iZ h6)
 refine⟨k,λ{X Γ} M {e} h RT Y old σ=>?_,λ{X Γ} M {o xs pos} h RT Y old σ=>absurd h bN⟩
 refine rR (k M h RT Y old σ) ?_ λp hp=>?_
 . obtain⟨⟨x,xs⟩,⟨p1,p2,rfl⟩,_⟩:=aJ h
   intro _;rfl
 . have hp:=RE.bind' (show RE (evs P (call P n) σ es >>= λvs=>biD b vs >>= λx=>fS x) p from hp)
   show RE (evs P (call P n) σ es >>= λvs=>biD b vs) _
   rw[RE.bind]
   exact hp.mono λx hx=>RE.bind' hx
theorem aKp{a:E}{cs:List Cl}(ha:Q3 P n a):Q3 P n (.isi a cs):=by
 have k:PEc P n (.isi a cs):=λ{X Γ} M {e} h RT Y old σ=>by
  obtain⟨⟨f,xs⟩,h1,g⟩:=aJ h
  clear h
  obtain⟨p1,p2,rfl⟩:=h1
  have h:=g
  clear g
  rcases cs with _|⟨c,_|⟨_,_⟩⟩
  . cases h
  . rcases xs with _|⟨x,_|⟨y,_|⟨_,_⟩⟩⟩
    . cases h
    . cases h
    . obtain⟨h1,h2,h3,h4,h5⟩:=yY h
      unfold aFZ at h5
      split at h5
      . rename_i z p3
        obtain⟨q1,q2,q3⟩:=iJ h5
        have hc:∃cv,vO c=some cv:=by cases c <;> first|exact⟨_,rfl⟩|cases h3
        obtain⟨cv,hc⟩:=hc
        exact aJV M (eq_of_beq h1) h2 hc (eq_of_beq q1) q2 q3 (ha.e M h4 RT Y old σ) (aQ h4)
      . cases h5
    . cases h
  . cases h
 refine⟨k,λ{X Γ} M {e} h RT Y old σ=>?_,λ{X Γ} M {o xs pos} h RT Y old σ=>absurd h bN⟩
 refine rR (k M h RT Y old σ) ?_ λp hp=>?_
 . obtain⟨⟨x,xs⟩,⟨p1,p2,rfl⟩,_⟩:=aJ h
   intro _;rfl
 . have hp:=RE.bind' (show RE (ev P (call P n) σ a >>= λx=>(match isI cs P x.d with|some k=>R.ok k|none=>.bad)) p from hp)
   show RE (ev P (call P n) σ a >>= λx=>(match isI cs P x.d with|some k=>R.ok (Vl.cl (.bl k))|none=>.bad)) _
   rw[RE.bind]
   refine hp.mono λx hx=>?_
   cases q:isI cs P x.d with
   | none=>rw[q] at hx;exact hx.elim
   | some k=>rw[q] at hx;exact hx
theorem aHM{k:Nat}{caps:List Nat}{t:T}{it:Hp.It}{cond:Es}{elt:E}(hi:QI P n it)(hc:QA P n cond)(he:Q3 P n elt):Q3 P n (.comp k caps t it cond elt):=Q3.of (λ{X Γ} M {e} h RT Y old σ=>by
 obtain⟨el,tg,iter,ifs,scope,pos,rfl,O,h1,h2,h3,h4,h5⟩:=aAk h
 refine aHB M (O.scope M) O.ndc O.tk (hi M h3 RT Y old σ) (λC s₀ H₀ ex=>?_) (mQ (kQ h3))
 have M':=O.mc M C s₀ H₀ ex
 exact⟨aFj M' h2,λRT Y old σ1=>hc.ts M' h1 h4 RT Y old σ1,λRT Y old σ1=>he.e M' h5 RT Y old σ1⟩) (λ_=>rfl) rfl
theorem aHN{i:Nat}{a:E}(ha:Q3 P n a):Q3 P n (.tget i a):=Q3.of (λ{X Γ} M {e} h RT Y old σ=>by
 obtain⟨⟨o,m,xs,l⟩,h1,g⟩:=aJ h
 clear h
 obtain⟨ap,cp,rfl,hl⟩:=h1
 have h:=g
 clear g
 obtain⟨x,h1,g⟩:=aJ h
 clear h
 obtain⟨p,e2⟩:=h1
 have h:=g
 clear g
 have e2:o=.Name x p:=e2
 subst e2
 obtain⟨h,h6⟩:=fL h
 obtain⟨h1,h2,h3,h4,h5⟩:=yY h
 rw[show l=true from h5] at hl
 rcases xs with _|⟨y,_|⟨_,_⟩⟩
 . cases h6
 . exact aHo M (eq_of_beq h1) (eq_of_beq h2) h3 h4 hl (ha.e M h6 RT Y old σ) (aQ h6)
 . cases h6) (λ_=>rfl) rfl
theorem aDn{a:E}(ha:Q3 P n a):Q3 P n (.numset a):=Q3.of (λ{X Γ} M {e} h RT Y old σ=>by
 obtain⟨⟨f,xs⟩,h1,g⟩:=aJ h
 clear h
 obtain⟨p1,p2,rfl⟩:=h1
 have h:=g
 clear g
 rcases xs with _|⟨s,_|⟨_,_⟩⟩
 . cases h
 . obtain⟨⟨g,ys⟩,h1,g⟩:=aJ h
   clear h
   obtain⟨p3,p4,e2⟩:=h1
   have h:=g
   clear g
   have e2:s=.Call (.Name g p3) ys [] p4:=e2
   subst e2
   obtain⟨h1,h2,h3,h4,h5⟩:=yY h
   rcases ys with _|⟨x,_|⟨_,_⟩⟩
   . cases h5
   . exact aCR M (eq_of_beq h1) h2 (eq_of_beq h3) h4 (ha.e M h5 RT Y old σ) (aQ h5)
   . cases h5
 . cases h) (λ_=>rfl) rfl
theorem tQ{c:E}(h:∀{Γ:Ct} {e:Expr},aW Γ c e=false):Q3 P n c:=
 ⟨λ{X Γ} M {e} z=>absurd (h.symm.trans z) bN,λ{X Γ} M {e} z=>absurd (h.symm.trans z) bN,λ{X Γ} M {o xs pos} z=>absurd (h.symm.trans z) bN⟩
theorem aKq:QA P n .nil:=by
 refine⟨λ{X Γ} M {es} h RT Y old σ=>?_,λ{X Γ} M {e} h RT Y old σ=>?_,λ{X Γ} M {es} hl h RT Y old σ=>?_⟩
 . cases es with
   | nil=>exact vQ
   | cons _ _=>exact nf h
 . cases e with
   | none=>exact aJX
   | some _=>exact nf h
 . cases es with
   | nil=>exact aHz
   | cons _ _=>exact nf h
theorem aHO{c:E}{cs:Es}(hc:Q3 P n c)(hs:QA P n cs):QA P n (.cons c cs):=by
 refine⟨λ{X Γ} M {es} h RT Y old σ=>?_,λ{X Γ} M {e} h RT Y old σ=>?_,λ{X Γ} M {es} hl h RT Y old σ=>?_⟩
 . cases es with
   | nil=>exact nf h
   | cons e es=>
    obtain⟨h1,h2⟩:=fL h
    exact kO (hc.e M h1 RT Y old σ) (hs.a M h2 RT Y old σ) (aQ h1)
 . cases cs with
   | nil=>cases e with
    | none=>exact nf h
    | some e=>exact aJY (hc.e M (by exact h) RT Y old σ)
   | cons _ _=>cases e <;> exact nf h
 . cases es with
   | nil=>exact nf h
   | cons e es=>
    obtain⟨h1,h2⟩:=fL h
    cases es with
    | nil=>cases cs with
     | nil=>exact aHA (hc.t M h1 RT Y old σ)
     | cons _ _=>exact absurd h2 bN
    | cons _ _=>simp at hl
theorem aKr{c:E}(hc:Q3 P n c):QI P n (.seq c):=λ{X Γ} M {tg e} h RT Y old σ=>aKa (hc.e M (by exact h) RT Y old σ)
theorem aKs{a b:E}(ha:Q3 P n a)(hb:Q3 P n b):QI P n (.rng a b):=λ{X Γ} M {tg e} h RT Y old σ=>by
 rw[wG] at h
 obtain⟨⟨f,xs⟩,h1,g⟩:=aJ h
 clear h
 obtain⟨p1,p2,rfl⟩:=h1
 have h:=g
 clear g
 obtain⟨h1,h2,h3⟩:=iJ h
 rcases xs with _|⟨x,_|⟨y,_|⟨_,_⟩⟩⟩
 . cases h3
 . obtain⟨h3,h4⟩:=fL h3
   have ez:a=.c (.int 0):=by
    unfold yJ at h3
    split at h3
    . rw[eq_of_beq h3]
    . cases h3
   rw[ez]
   exact aHw M (eq_of_beq h1) h2 (hb.e M h4 RT Y old σ) (aQ h4)
 . obtain⟨h3,h4⟩:=fL h3
   exact aHx M (eq_of_beq h1) h2 (ha.e M h3 RT Y old σ) (hb.e M h4 RT Y old σ) (aQ h3) (aQ h4)
 . cases h3
theorem aKt{a b:E}(ha:Q3 P n a)(hb:Q3 P n b):QI P n (.zip a b):=λ{X Γ} M {tg e} h RT Y old σ=>by
 rw[wH] at h
 obtain⟨⟨f,xs⟩,h1,g⟩:=aJ h
 clear h
 obtain⟨p1,p2,rfl⟩:=h1
 have h:=g
 clear g
 rcases xs with _|⟨x,_|⟨y,_|⟨_,_⟩⟩⟩
 . cases h
 . cases h
 . obtain⟨h0,h1,h2,h3,h4⟩:=yY h
   unfold pC at h0
   split at h0
   . exact aKb M (eq_of_beq h1) h2 (ha.e M h3 RT Y old σ) (hb.e M h4 RT Y old σ) (aQ h3) (aQ h4)
   . cases h0
 . cases h
theorem aHP{a:E}(ha:Q3 P n a):QI P n (.enum a):=λ{X Γ} M {tg e} h RT Y old σ=>by
 rw[sB] at h
 obtain⟨⟨f,xs⟩,h1,g⟩:=aJ h
 clear h
 obtain⟨p1,p2,rfl⟩:=h1
 have h:=g
 clear g
 rcases xs with _|⟨x,_|⟨_,_⟩⟩
 . cases h
 . obtain⟨h0,h1,h2,h3⟩:=aHJ h
   unfold pC at h0
   split at h0
   . exact aHy M (eq_of_beq h1) h2 (ha.e M h3 RT Y old σ) (aQ h3)
   . cases h0
 . cases h
theorem aKu{it:Hp.It}(z:∀Γ tt e,chkI Γ tt it e=false):QI P n it:=by
 intro X Γ M tg e h RT Y old σ
 rw[z] at h
 cases h
theorem aHQ{a:E}(ha:Q3 P n a):Q3 P n (.sset a):=Q3.of (λ{X Γ} M {e} h RT Y old σ=>by
 obtain⟨⟨f,xs⟩,h1,g⟩:=aJ h
 clear h
 obtain⟨p1,p2,rfl⟩:=h1
 have h:=g
 clear g
 rcases xs with _|⟨s,_|⟨_,_⟩⟩
 . cases h
 . obtain⟨⟨g,ys⟩,h1,g⟩:=aJ h
   clear h
   obtain⟨p3,p4,e2⟩:=h1
   have h:=g
   clear g
   have e2:s=.Call (.Name g p3) ys [] p4:=e2
   subst e2
   obtain⟨h1,h2,h3,h4,h5⟩:=yY h
   rcases ys with _|⟨x,_|⟨_,_⟩⟩
   . cases h5
   . exact aHH M (eq_of_beq h1) h2 (eq_of_beq h3) h4 (ha.e M h5 RT Y old σ) (aQ h5)
   . cases h5
 . cases h) (λ_=>rfl) rfl
mutual
theorem qE:(c:E)->Q3 P n c
 | .c _=>n_c
 | .v _=>n_v
 | .op _ a b=>aMo (qE a) (qE b)
 | .neg a=>aKh (qE a)
 | .nt a=>aMp (qE a)
 | .an a b=>aMq (qE a) (qE b)
 | .orr a b=>aKi (qE a) (qE b)
 | .ife t a b=>aKj (qE t) (qE a) (qE b)
 | .cmp _ a b=>aKk (qE a) (qE b)
 | .cmp2 _ _ a b c=>aHK (qE a) (qE b) (qE c)
 | .idx a b=>aKl (qE a) (qE b)
 | .sli a lo hi=>aKm (qE a) (qA lo) (qA hi)
 | .tup es=>aKn (qA es)
 | .lst es=>aKo (qA es)
 | .dic _ _=>tQ rfl
 | .call _ es=>aHL (qA es)
 | .bi _ es=>aMr (qA es)
 | .mth _ _ _=>tQ rfl
 | .isi a _=>aKp (qE a)
 | .attr _ _=>tQ rfl
 | .comp _ _ _ it cond elt=>aHM (qI it) (qA cond) (qE elt)
 | .numset a=>aDn (qE a)
 | .tget _ a=>aHN (qE a)
 | .lzip _ _=>tQ rfl
 | .sset a=>aHQ (qE a)
theorem qA:(cs:Es)->QA P n cs
 | .nil=>aKq
 | .cons c cs=>aHO (qE c) (qA cs)
theorem qI:(it:Hp.It)->QI P n it
 | .seq c=>aKr (qE c)
 | .rng a b=>aKs (qE a) (qE b)
 | .zip a b=>aKt (qE a) (qE b)
 | .enum a=>aHP (qE a)
 | .rev _=>aKu λ_ _ _=>rfl
end
theorem sE(c:E):PEc P n c:=(qE c).e
theorem sT(c:E):PTc P n c:=(qE c).t
theorem sTs(cs:Es):∀{X:Cx} {Γ:Ct},Mc X P Γ n->∀{es:List Expr},es.length<=1->chkEs Γ cs es=true->∀(RT Y old:Addr->Prop) (σ:Sg),PTs X es (wTs X P n RT Y old σ cs):=(qA cs).ts
theorem sI(it:Hp.It):QI P n it:=qI it
end
end Hp
end
noncomputable section
set_option maxHeartbeats 4000000
namespace Hp
open PySem PySem.Spec PyProof.Rows L2
def eV(K:Fg)(RT Y old:Addr->Prop)(H:Hp)(σ':Sg)(Q:L2.St->Hp->Prop):Prop:=
 ∀(RT':Addr->Prop) (σV':L2.St) (H':Hp),Kp RT H H'->(∀b,RT' b->RT b\/H b=none)->Sx K RT' Y old σ' σV' H'->Q σV' H'
def Rtv(K:Fg)(Y old:Addr->Prop)(H':Hp)(v:Vl)(u:V):Prop:=
 if v.fr=true then ∃a xs ds,u=.ref a/\v.d=.lst ds/\¬ old a/\H' a=some (.lst xs)/\Reps K H' (λb=>b=a\/exB Y old v.pa b) ds xs
 else Rep K H' (exB Y old v.pa) v.d u
def pT(K:Fg)(RT Y old:Addr->Prop)(H:Hp)(v:Vl)(Q:VK):Prop:=∀(u:V) (H':Hp),Kp RT H H'->Tk K H'->Rtv K Y old H' v u->Q u H'
def OE(K:Fg)(RT Y old:Addr->Prop)(H:Hp)(o:O)(D:Ends):Prop:=match o with
 | .next σ'=>eV K RT Y old H σ' D.nx
 | .brk σ'=>eV K RT Y old H σ' D.bk
 | .cnt σ'=>eV K RT Y old H σ' D.ct
 | .ret v=>pT K RT Y old H v D.rt
 | .exc _ _=>False
 | .bad=>False
def wS(X:Cx)(RT Y old:Addr->Prop)(σ:Sg)(o:O):TS:=λD σV H=>Sx X.K RT Y old σ σV H/\OE X.K RT Y old H o D
section
variable {K:Fg} {RT RT' RT'' Y old:Addr->Prop} {σ:Sg} {σV:L2.St} {H H1 H2:Hp} {o:O} {D D':Ends}
theorem Kp.chain(a:Kp RT H H1)(s:∀b,RT' b->RT b\/H b=none)(b:Kp RT' H1 H2):Kp RT H H2:=λc o e n=>b c o (a c o e n) λz=>(s c z).elim n λq=>by rw[q] at e;cases e
theorem mW(a:Kp RT H H1)(s1:∀b,RT' b->RT b\/H b=none)(s2:∀b,RT'' b->RT' b\/H1 b=none):∀b,RT'' b->RT b\/H b=none:=λb z=>by
 rcases s2 b z with q|q
 . exact s1 b q
 . by_cases hr:RT b
   . exact .inl hr
   . refine .inr ?_
     cases e:H b with
     | none=>rfl
     | some o=>rw[a b o e hr] at q;cases q
theorem eV.mono{σ':Sg}{Q:L2.St->Hp->Prop}(a:Kp RT H H1)(s:∀b,RT' b->RT b\/H b=none)(h:eV K RT Y old H σ' Q):eV K RT' Y old H1 σ' Q:=λRT2 σV2 H2 k n S=>h RT2 σV2 H2 (a.chain s k) (mW a s n) S
theorem OE.mono(a:Kp RT H H1)(s:∀b,RT' b->RT b\/H b=none)(h:OE K RT Y old H o D):OE K RT' Y old H1 o D:=by
 cases o with
 | next σ'=>exact eV.mono a s h
 | brk σ'=>exact eV.mono a s h
 | cnt σ'=>exact eV.mono a s h
 | ret v=>exact λu H2 k t r=>(show pT K RT Y old H v D.rt from h) u H2 (a.chain s k) t r
 | exc x σ'=>exact h
 | bad=>exact h
theorem cL:∀b,RT b->RT b\/H b=none:=λ_ z=>.inl z
def tkE(K:Fg)(D:Ends):Ends:=⟨λσ H=>Tk K H->D.nx σ H,λv H=>Tk K H->D.rt v H,λσ H=>Tk K H->D.bk σ H,λσ H=>Tk K H->D.ct σ H⟩
theorem OE.from{α:Type}{x:R α}{f:α->O}(h:OE K RT Y old H (O.from σ x f) D):RE x λa=>OE K RT Y old H (f a) D:=by
 cases x with
 | ok a=>exact h
 | exc e=>exact h
 | bad=>exact h
end
section
variable {X:Cx} {st:Stmt} {t t':TS}
theorem aGh{pins:List (Addr×Obj)}{D:Ends}{f:Flow}{s':Shared}(h:SP X pins (tkE X.K D) f s'):SP X pins D f s':=by
 cases f with
 | next=>obtain⟨σ',H',I,q⟩:=h;exact⟨σ',H',I,q I.tk⟩
 | brk=>obtain⟨σ',H',I,q⟩:=h;exact⟨σ',H',I,q I.tk⟩
 | cont=>obtain⟨σ',H',I,q⟩:=h;exact⟨σ',H',I,q I.tk⟩
 | ret u=>obtain⟨v,σ',H',I,r,q⟩:=h;exact⟨v,σ',H',I,r,q I.tk⟩
theorem dL(h:PS X st t)(f:∀D σV H,Tk X.K H->t' D σV H->t (tkE X.K D) σV H):PS X st t':=λpins s σV H D I hw=>thn (h pins s σV H _ I (f D σV H I.tk hw)) λfl s' q=>aGh q
theorem tR{sts:List Stmt}(h:PSs X sts t)(f:∀D σV H,Tk X.K H->t' D σV H->t (tkE X.K D) σV H):PSs X sts t':=λpins s σV H D I hw=>thn (h pins s σV H _ I (f D σV H I.tk hw)) λfl s' q=>aGh q
theorem aAm{Y old:Addr->Prop}{sts:List Stmt}{f:Sg->O}(h:∀RT σ,PSs X sts (wS X RT Y old σ (f σ))):PSs X sts (λD σV H=>∃RT σ,wS X RT Y old σ (f σ) D σV H):=λpins s σV H D I ⟨RT,σ,hw⟩=>h RT σ pins s σV H D I hw
end
section
variable {X:Cx} {P:Pg} {Γ:Ct} {n:Nat} {RT Y old:Addr->Prop} {σ:Sg} {pos:Pos}
theorem eV.tkE{σ':Sg}{Q:L2.St->Hp->Prop}{H:Hp}(h:eV X.K RT Y old H σ' Q):eV X.K RT Y old H σ' λσ H=>Tk X.K H->Q σ H:=λRT' σV' H' k n S _=>h RT' σV' H' k n S
theorem OE.tkE{o:O}{D:Ends}{H:Hp}(h:OE X.K RT Y old H o D):OE X.K RT Y old H o (tkE X.K D):=by
 cases o with
 | next σ'=>exact eV.tkE h
 | brk σ'=>exact eV.tkE h
 | cnt σ'=>exact eV.tkE h
 | ret v=>exact λu H2 k t r _=>(show pT X.K RT Y old H v D.rt from h) u H2 k t r
 | exc x σ'=>exact h
 | bad=>exact h
theorem aKv:PSs X [] (wS X RT Y old σ (exs P (call P n) σ .nil)):=tR aEv λD σV H t ⟨S,h⟩ _=>(show eV X.K RT Y old H σ D.nx from h) RT σV H (Kp.refl RT H) cL S
theorem aHR{s:S}{ss:Ss}{x:Stmt}{xs:List Stmt}(h1:∀RT σ,PS X x (wS X RT Y old σ (ex P (call P n) σ s)))(h2:∀RT σ,PSs X xs (wS X RT Y old σ (exs P (call P n) σ ss))) :
 PSs X (x::xs) (wS X RT Y old σ (exs P (call P n) σ (.cons s ss))):=by
 refine tR (aCd (h1 RT σ) (aAm h2)) λD σV H t ⟨S,h⟩=>?_
 have h:OE X.K RT Y old H ((ex P (call P n) σ s).on λσ'=>exs P (call P n) σ' ss) D:=h
 refine⟨S,?_⟩
 cases q:ex P (call P n) σ s with
 | next σ'=>
  rw[q] at h
  exact λRT' σV' H' k nn S'=>⟨RT',σ',S',(OE.mono k nn (show OE X.K RT Y old H (exs P (call P n) σ' ss) D from h)).tkE⟩
 | brk σ'=>rw[q] at h;exact OE.tkE (D:=D) (o:=.brk σ') h
 | cnt σ'=>rw[q] at h;exact OE.tkE (D:=D) (o:=.cnt σ') h
 | ret v=>rw[q] at h;exact OE.tkE (D:=D) (o:=.ret v) h
 | exc e σ'=>rw[q] at h;exact h
 | bad=>rw[q] at h;exact h
theorem aHS:PS X (.Pass pos) (wS X RT Y old σ (ex P (call P n) σ .pass)):=dL aEw λD σV H t ⟨S,h⟩ _=>(show eV X.K RT Y old H σ D.nx from h) RT σV H (Kp.refl RT H) cL S
theorem aKw:PS X (.Break pos) (wS X RT Y old σ (ex P (call P n) σ .brk)):=dL aCe λD σV H t ⟨S,h⟩ _=>(show eV X.K RT Y old H σ D.bk from h) RT σV H (Kp.refl RT H) cL S
theorem aKx:PS X (.Continue pos) (wS X RT Y old σ (ex P (call P n) σ .cnt)):=dL vA λD σV H t ⟨S,h⟩ _=>(show eV X.K RT Y old H σ D.ct from h) RT σV H (Kp.refl RT H) cL S
theorem aKy{st:Stmt}{c:Nat}{k:Bool}{es:Es}:PS X st (wS X RT Y old σ (ex P (call P n) σ (.rse c k es))):=dL aCg λD σV H t ⟨S,h⟩=>by
 have h:OE X.K RT Y old H (O.from σ (evs P (call P n) σ es) λvs=>.exc (.err c (if k then vs.map (·.d) else [])) σ) D:=h
 obtain⟨vs,_,q⟩:=(OE.from h).eq
 exact q
theorem aAn{pa:Bool}{al:List Nat}{σV:L2.St}{b:Addr}(h:exB Y old pa b):exV RT Y old σ σV pa al b:=.inr h
theorem Ro.rtv{H H':Hp}{σV:L2.St}{v:Vl}{u:V}(S:Sx X.K RT Y old σ σV H)(ro:Ro X.K RT Y old σ σV H H' v u):Rtv X.K Y old H' v u:=by
 unfold Rtv
 by_cases hf:v.fr=true
 . rw[if_pos hf]
   obtain⟨s,h⟩:=ro
   rw[if_pos hf] at h
   obtain⟨a,xs,ds,e1,e2,e3,e4,r⟩:=h
   exact⟨a,xs,ds,e1,e2,λz=>S.trk a (.inr (.inr z)) e3,e4,r.weak λb z=>z.elim .inl λz=>.inr (aAn z)⟩
 . rw[if_neg hf]
   exact Rep.weak (ro.rv S) λb z=>aAn z
theorem aKz{c:E}{e:Expr}(he:PE X e (WE X P n RT Y old σ c)):PS X (.Return (some e) pos) (wS X RT Y old σ (ex P (call P n) σ (.ret c))):=by
 refine dL (aCf he) λD σV H t ⟨S,h⟩=>?_
 have h:=OE.from (show OE X.K RT Y old H (O.from σ (ev P (call P n) σ c) .ret) D from h)
 exact wE.one S h λx u H1 hx t1 S1 r1 _=>(show pT X.K RT Y old H x D.rt from hx) u H1 (Kp.same r1.1) t1 (r1.rtv S)
theorem aHT:PS X (.Return none pos) (wS X RT Y old σ (ex P (call P n) σ .retN)):=dL aEx λD σV H t ⟨S,h⟩ _=>(show pT X.K RT Y old H (.cl .non) D.rt from h) .non H (Kp.refl RT H) t rfl
theorem aHU{i:Nat}{x:Str}{p:Pos}(M:Mc X P Γ n)(hx:eP Γ i x=true):PS X (.Return (some (.Name x p)) pos) (wS X RT Y old σ (ex P (call P n) σ (.retv i))):=by
 have hpe:PE X (.Name x p) (aGx i):=by
  unfold eP at hx
  obtain⟨h1,h2,h3⟩:=iJ hx
  exact xT (by rw[M.N];exact eq_of_beq h1) (M.vis h2) (aY h3) (mP h3)
 refine dL (aCf hpe) λD σV H t ⟨S,h⟩=>?_
 have h:OE X.K RT Y old H (match σ[i]? with|some (.own pa ds)=>.ret ⟨.lst ds,true,pa,[]⟩|_=>O.from σ (bZ σ i) .ret) D:=h
 unfold bZ at h
 cases e:σ[i]? with
 | none=>rw[e] at h;exact h.elim
 | some sl=>
  rw[e] at h
  cases sl with
  | dead=>exact h.elim
  | own pa ds=>
   obtain⟨a,xs,h1,h2,h3,h4,h5⟩:=S.own i pa ds e
   refine⟨.ref a,h1,λ_=>(show pT X.K RT Y old H ⟨.lst ds,true,pa,[]⟩ D.rt from h) _ H (Kp.refl RT H) t ?_⟩
   unfold Rtv
   rw[if_pos rfl]
   exact⟨a,xs,ds,rfl,rfl,h4,h2,h5.weak λb z=>z.elim (λz=>.inl (by rw[z];exact h3)) .inr⟩
  | sh pa d=>
   obtain⟨v,h1,h2⟩:=S.sh i pa d e
   refine⟨v,h1,λ_=>(show pT X.K RT Y old H ⟨d,false,pa&&!noL d,[]⟩ D.rt from h) v H (Kp.refl RT H) t ?_⟩
   unfold Rtv
   rw[if_neg bN]
   show Rep X.K H (exB Y old (pa&&!noL d)) d v
   cases hn:noL d with
   | true=>exact Rep.free d v hn h2
   | false=>
    refine h2.weak λb z=>.inr ?_
    rw[Bool.not_false,Bool.and_true] at z
    exact z
theorem aMs{c:E}{e:Expr}(he:PE X e (WE X P n RT Y old σ c))(hs:pD e=false):PS X (.Expr e pos) (wS X RT Y old σ (ex P (call P n) σ (.ex c))):=by
 refine dL (sW he (by cases e <;> first|rfl|cases hs)) λD σV H t ⟨S,h⟩=>?_
 have h:=OE.from (show OE X.K RT Y old H (O.from σ (ev P (call P n) σ c) λ_=>.next σ) D from h)
 exact wE.one S h λx u H1 hx t1 S1 r1 _=>(show eV X.K RT Y old H σ D.nx from hx) RT σV H1 (Kp.same r1.1) cL S1
theorem aMt{c:E}{a b:Ss}{e:Expr}{xa xb:List Stmt}(hc:PT X e (WT X P n RT Y old σ c))(ha:∀RT σ,PSs X xa (wS X RT Y old σ (exs P (call P n) σ a)))(hb:∀RT σ,PSs X xb (wS X RT Y old σ (exs P (call P n) σ b))) :
 PS X (.If e xa xb pos) (wS X RT Y old σ (ex P (call P n) σ (.iff c a b))):=by
 refine dL (aIX hc (ha RT σ) (hb RT σ)) λD σV H t ⟨S,h⟩=>?_
 have h:=OE.from (show OE X.K RT Y old H (O.from σ (tst P (call P n) σ c) λk=>if k=true then exs P (call P n) σ a else exs P (call P n) σ b) D from h)
 refine⟨S,h.mono λk hk H1 t1 s1=>?_⟩
 cases k with
 | true=>rw[if_pos rfl] at hk ⊢;exact⟨S.grow s1 t1,(OE.mono (Kp.same s1) cL hk).tkE⟩
 | false=>rw[if_neg bN] at hk ⊢;exact⟨S.grow s1 t1,(OE.mono (Kp.same s1) cL hk).tkE⟩
theorem tS{σV:L2.St}{H H1:Hp}{v:Vl}{u:V}{t:T}{D:Ends}(S:Sx X.K RT Y old σ σV H)(t1:Tk X.K H1)(r1:Ro X.K RT Y old σ σV H H1 v u)(h:OE X.K RT Y old H (O.from σ (cH (freeze σ v.al) v t) .next) D):gT X.K t u σV H1 D.nx:=by
 obtain⟨σ2,e,hp⟩:=(OE.from h).eq
 have hp:eV X.K RT Y old H σ2 D.nx:=hp
 clear h
 cases t with
 | n i=>
  obtain⟨RT',S',hsub⟩:=S.store r1 t1 i
  rw[pP e] at hp
  exact hp RT' _ H1 (Kp.same r1.1) hsub S'
 | t is=>
  obtain⟨ds,hd,hl,e'⟩:=pO e
  have Sf:=(S.grow r1.1 t1).frz v.al
  have hr:Rep X.K H1 (λa=>rtF RT σ σV v.al a\/exB Y old v.pa a) v.d u:=r1.rv S
  have hf:v.fr=false\/v.fr=true:=by cases v.fr <;> simp
  rcases hf with hf|hf
  . exact aDd Sf hf hr e λσ2V S2 _=>hp _ _ _ (Kp.same r1.1) (λb z=>.inl z.1) S2
  . have:=r1.2
    rw[if_pos hf] at this
    obtain⟨a,xs,ds',_,e2,_⟩:=this
    rw[hd] at e2;cases e2
theorem aHV{c:E}{e:Expr}{i:Nat}{x:Str}{p:Pos}(M:Mc X P Γ n)(hx:cT Γ i x=true)(he:PE X e (WE X P n RT Y old σ c))(hs:pD e=false):PS X (.Assign [.Name x p] e pos) (wS X RT Y old σ (ex P (call P n) σ (.set (.n i) c))):=by
 unfold cT at hx
 obtain⟨h1,h2,h3⟩:=iJ hx
 refine dL (xU (i:=i) M.nd (by rw[M.N];exact eq_of_beq h1) (M.loc h2) he (by cases e <;> first|rfl|cases hs) (M.st x h2)) λD σV H t ⟨S,h⟩=>?_
 have h:=OE.from (show OE X.K RT Y old H (O.from σ (ev P (call P n) σ c) λv=>O.from σ (cH (freeze σ v.al) v (.n i)) .next) D from h)
 exact wE.one S h λv u H1 hv t1 S1 r1=>tS (t:=.n i) S t1 r1 (OE.tkE hv)
theorem aHW{c:E}{e:Expr}{is:List Nat}{es:List Expr}{k:Nat}{p:Pos}(M:Mc X P Γ n)(hx:rB Γ (.t is) (.Tuple es k p)=true)(he:PE X e (WE X P n RT Y old σ c))(hs:yK e=false):PS X (.Assign [.Tuple es k p] e pos) (wS X RT Y old σ (ex P (call P n) σ (.set (.t is) c))):=by
 refine dL (aCi he (aFj M hx) (by cases e <;> rfl) (by cases e <;> first|rfl|cases hs)) λD σV H t ⟨S,h⟩=>?_
 have h:=OE.from (show OE X.K RT Y old H (O.from σ (ev P (call P n) σ c) λv=>O.from σ (cH (freeze σ v.al) v (.t is)) .next) D from h)
 exact wE.one S h λv u H1 hv t1 S1 r1=>tS (t:=.t is) S t1 r1 (OE.tkE hv)
theorem aBx{i:Nat}{x:Str}{p cpos:Pos}(M:Mc X P Γ n)(hx:cT Γ i x=true){k:Nat}{caps:List Nat}{t:T}{it:Hp.It}{cond:Es}{elt:E}{e tg iter:Expr}{ifs:List Expr}{scope:Scope}{N':List Str}(CS:dP X scope k caps N')(hnd:caps.Nodup)(hk:∀i∈tIx t,i<k)
 (hi:PI X tg iter (wI X P n RT Y old σ it))
 (hch:∀C s₀ H₀ ex,PG (eL X scope N' C s₀ H₀ ex) tg (gT X.K t)/\(∀RT Y old σ1,PTs (eL X scope N' C s₀ H₀ ex) ifs (wTs X P n RT Y old σ1 cond))/\∀RT Y old σ1,PE (eL X scope N' C s₀ H₀ ex) e (WE X P n RT Y old σ1 elt))
 (hs:∀x,foldedSetIterable iter X.env x=pure x):PS X (.Assign [.Name x p] (.ListComp e [⟨tg,iter,ifs,0⟩] scope cpos) pos) (wS X RT Y old σ (ex P (call P n) σ (.set (.n i) (.comp k caps t it cond elt)))):=by
 unfold cT at hx
 obtain⟨h1,h2,h3⟩:=iJ hx
 refine dL (yO (g:=gT X.K t) (tt:=λσV H Q=>∃RT Y old σ1,wTs X P n RT Y old σ1 cond σV H Q) (te:=λσV H Q=>∃RT Y old σ1,WE X P n RT Y old σ1 elt σV H Q) CS M.calm hi (λC s₀ H₀ ex=>?_) hs M.nd (by rw[M.N];exact eq_of_beq h1) (M.loc h2) (M.st x h2)) λD σV H t0 ⟨S,h⟩=>?_
 . obtain⟨h1,h2,h3⟩:=hch C s₀ H₀ ex
   exact⟨h1,λpins s σV H Q I ⟨RT,Y,old,σ1,hw⟩=>h2 RT Y old σ1 pins s σV H Q I hw,λpins s σV H Q I ⟨RT,Y,old,σ1,hw⟩=>h3 RT Y old σ1 pins s σV H Q I hw⟩
 . have h:=OE.from (show OE X.K RT Y old H (O.from σ (ev P (call P n) σ (.comp k caps t it cond elt)) λv=>O.from σ (cH (freeze σ v.al) v (.n i)) .next) D from h)
   exact aDf (Q:=λv H'=>rG i v σV H' D.nx) hnd hk ⟨S,h.mono λv hv u H1 t1 r1=>tS (t:=.n i) S t1 r1 hv⟩
theorem Sx.mut{K:Fg}{σV:L2.St}{H:Hp}(S:Sx K RT Y old σ σV H){i:Nat}{pa pa':Bool}{ds ds':List D}{a:Addr}{xs':List V}(e:σ[i]? = some (.own pa ds))(ha:σV[i]? = some (some (.ref a)))(r:Reps K H (λb=>RT b\/exB Y old pa' b) ds' xs') :
 Sx K RT Y old (σ.set i (.own pa' ds')) σV (upd H a (.lst xs')):=by
 obtain⟨a',xs,h1,h2,h3,h4,h5⟩:=S.own i pa ds e
 rw[ha] at h1
 cases h1
 have ks:∀{ex:Addr->Prop},∀b o,H b=some o->(∀ys,o=.lst ys->¬ (RT b\/ex b))->upd H a (.lst xs') b=some o:=λ{ex} b o q hl=>by
  rw[aV λz=>by subst z;rw[h2] at q;cases q;exact hl xs rfl (.inl h3)]
  exact q
 exact {
  sh:=λj pb d q=>by
   rcases set_some q with⟨_,z,_⟩|⟨_,q⟩
   . cases z
   . obtain⟨v,g1,g2⟩:=S.sh j pb d q
     exact⟨v,g1,g2.keep ks⟩
  own:=λj pb dd q=>by
   rcases set_some q with⟨rfl,z,_⟩|⟨hne,q⟩
   . cases z
     exact⟨a,xs',ha,cU,h3,h4,r.keep ks⟩
   . obtain⟨b,ys,g1,g2,g3,g4,g5⟩:=S.own j pb dd q
     have hb:b≠a:=λz=>by
      subst z
      exact hne (S.inj i j pa pb ds dd b e q ha g1)
     exact⟨b,ys,g1,by rw[aV hb];exact g2,g3,g4,g5.keep ks⟩
  trk:=λb z q=>by
   by_cases hb:b=a
   . rw[hb,cU] at q;cases q
   . rw[aV hb] at q;exact S.trk b z q
  yo:=S.yo
  tk:=λb z=>by
   by_cases hb:b=a
   . rw[hb];exact S.tk a (by rw[h2];simp)
   . rw[aV hb] at z;exact S.tk b z
  rt:=λb z=>by
   by_cases hb:b=a
   . rw[hb];exact⟨xs',cU⟩
   . rw[aV hb];exact S.rt b z
  inj:=λj j' pb pb' dd dd' b q1 q2=>by
   have get:∀{j:Nat} {pb:Bool} {dd:List D},(σ.set i (.own pa' ds'))[j]? = some (.own pb dd)->∃p2 d2,σ[j]? = some (.own p2 d2):=λ{j pb dd} q=>by
    rcases set_some q with⟨rfl,_,_⟩|⟨_,q⟩
    . exact⟨pa,ds,e⟩
    . exact⟨pb,dd,q⟩
   obtain⟨_,_,z1⟩:=get q1
   obtain⟨_,_,z2⟩:=get q2
   exact S.inj j j' _ _ _ _ b z1 z2
  len:=by rw[List.length_set];exact S.len }
theorem Kp.upd{H H1:Hp}{a:Addr}{xs:List V}(s:aU H H1)(h:RT a):Kp RT H (upd H1 a (.lst xs)):=λb o e nn=>by
 rw[aV λz=>nn (by rw[z];exact h)]
 exact s b o e
theorem aDo{i:Nat}{pa:Bool}{ds:List D}(h:lE σ i=some (pa,ds)):σ[i]? = some (.own pa ds):=by
 unfold lE at h
 split at h
 . rename_i q;cases h;exact q
 . cases h
theorem yZ{i:Nat}{v:Vl}{f:List D->Option (List D)}{H:Hp}{D:Ends}(h:OE X.K RT Y old H (put σ i v f) D):∃pa ds ds',σ[i]? = some (.own pa ds)/\i∉v.al/\f ds=some ds'/\ds'.length<=lim/\eV X.K RT Y old H ((freeze σ v.al).set i (.own (pa||v.pa) ds')) D.nx:=by
 unfold put at h
 split at h
 . rename_i pa ds q
   have q:=fV (aDo q)
   split at h
   . rename_i ds' q2
     split at h
     . rename_i hl
       exact⟨pa,ds,ds',q.1,q.2,q2,hl,h⟩
     . exact h.elim
   . exact h.elim
 . exact h.elim
theorem tU{pa pb:Bool}{b:Addr}(h:exB Y old (pa||pb) b):exB Y old pa b:=h.imp_right λz=>⟨by cases pa <;> simp_all,z.2⟩
theorem aAo{pa pb:Bool}{b:Addr}(h:exB Y old (pa||pb) b):exB Y old pb b:=h.imp_right λz=>⟨by cases pb <;> simp_all,z.2⟩
theorem aAp{i:Nat}{m:Str}{c:Expr}{xs:List Expr}(h:vJ Γ i m c=some xs):∃x p ap cp,c=.Call (.Attribute (.Name x p) m ap) xs [] cp/\eP Γ i x=true/\(ap.endLine==cp.line)=true:=by
 unfold vJ at h
 split at h
 . rename_i x p a ap xs' cp
   split at h
   . rename_i q
     obtain⟨q1,q2,q3⟩:=iJ q
     cases h
     have e:a=m:=eq_of_beq q1
     subst e
     exact⟨x,p,ap,cp,rfl,q2,q3⟩
   . cases h
 . cases h
theorem oA{i:Nat}{x:Str}{p:Pos}(M:Mc X P Γ n)(hx:eP Γ i x=true):PE X (.Name x p) (aGx i):=by
 unfold eP at hx
 obtain⟨h1,h2,h3⟩:=iJ hx
 exact xT (by rw[M.N];exact eq_of_beq h1) (M.vis h2) (aY h3) (mP h3)
theorem aDp:lim<sizeLine:=by rw[sizeLine_eq];decide
theorem pU{i:Nat}{al:List Nat}{pa:Bool}{ds:List D}{σV:L2.St}{H H1:Hp}{b:Addr}{xs:List V}(S:Sx X.K RT Y old σ σV H)(s1:aU H H1)(q1:σ[i]? = some (.own pa ds))(h1:σV[i]? = some (some (.ref b)))(h2:H b=some (.lst xs)) :
 Reps X.K H1 (λc=>rtF RT σ σV al c\/exB Y old pa c) ds xs:=by
 obtain⟨b',xs',g1,g2,g3,g4,g5⟩:=S.own i pa ds q1
 rw[h1] at g1
 cases g1
 rw[h2] at g2
 cases g2
 exact(g5.grow s1).weak λc z=>z.elim (λz=>.inl z.1) .inr
theorem pV{i:Nat}{v:Vl}{pa:Bool}{ds ds':List D}{σV:L2.St}{H H1:Hp}{b:Addr}{xs':List V}{Q:L2.St->Hp->Prop}(S:Sx X.K RT Y old σ σV H)(s1:aU H H1)(t1:Tk X.K H1)(q1:σ[i]? = some (.own pa ds))(q2:i∉v.al)(h1:σV[i]? = some (some (.ref b)))
 (r:Reps X.K H1 (λc=>rtF RT σ σV v.al c\/exB Y old (pa||v.pa) c) ds' xs') (hpost:eV X.K RT Y old H ((freeze σ v.al).set i (.own (pa||v.pa) ds')) Q):Q σV (upd H1 b (.lst xs')):=by
 obtain⟨b',xs,g1,g2,g3,g4,g5⟩:=S.own i pa ds q1
 rw[h1] at g1
 cases g1
 have e':(freeze σ v.al)[i]? = some (.own pa ds):=by
  rw[iH,q1]
  simp[q2]
 exact hpost _ σV _ (Kp.upd s1 g3) (λc z=>.inl z.1) (((S.grow s1 t1).frz v.al).mut e' h1 r)
theorem aDq{σV:L2.St}{H1:Hp}{v:Vl}{u:V}{pa:Bool}(h:Rv X.K RT Y old σ σV H1 v u):Rep X.K H1 (λc=>rtF RT σ σV v.al c\/exB Y old (pa||v.pa) c) v.d u:=Rep.weak h λc z=>z.imp id aAo
theorem aKA{i:Nat}{c:E}{e a:Expr}(M:Mc X P Γ n)(hc:vJ Γ i "append" e=some [a])(ha:PE X a (WE X P n RT Y old σ c))(hp:bJ a=true):PS X (.Expr e pos) (wS X RT Y old σ (ex P (call P n) σ (.app i c))):=by
 obtain⟨x,p,ap,cp,rfl,hx,hl⟩:=aAp hc
 refine dL (sW (aFT PySem.F.plainAttrs_list PySem.F.slot_list_append PySem.F.type_list_append aAZ (oA M hx) (jN ha mL (aE hp)) rfl (by rw[aE hp];rfl) hl (aE hp) rfl)) λD σV H t ⟨S,h⟩=>?_
 have h:=OE.from (show OE X.K RT Y old H (O.from σ (ev P (call P n) σ c) λv=>put σ i v λds=>some (ds++[v.d])) D from h)
 obtain⟨v,ee,h⟩:=h.eq
 obtain⟨pa,ds,ds',q1,q2,q3,q4,hpost⟩:=yZ h
 cases q3
 obtain⟨b,xs,h1,h2,h3,h4,h5⟩:=S.own i pa ds q1
 refine⟨.ref b,h1,.inl ⟨rfl,xs,SqL.of h2⟩,S,?_⟩
 rw[ee]
 intro u H1 t1 r1
 have hlen:=h5.length
 refine⟨b,xs,u,rfl,rfl,r1.1 _ _ h2,?_,λ_=>?_⟩
 . rw[lA,List.length_singleton] at q4
   have:=aDp
   omega
 . exact pV S r1.1 t1 q1 q2 h1 (((pU S r1.1 q1 h1 h2).weak λc z=>z.imp id tU).append (.cons (aDq (r1.rv S)) .nil)) hpost
theorem aKB{i:Nat}{c:E}{e a:Expr}(M:Mc X P Γ n)(hc:vJ Γ i "extend" e=some [a])(ha:PE X a (WE X P n RT Y old σ c))(hp:bJ a=true):PS X (.Expr e pos) (wS X RT Y old σ (ex P (call P n) σ (.ext i c))):=by
 obtain⟨x,p,ap,cp,rfl,hx,hl⟩:=aAp hc
 refine dL (sW (aFT PySem.F.plainAttrs_list PySem.F.slot_list_extend PySem.F.type_list_extend aBa (oA M hx) (jN ha mL (aE hp)) rfl (by rw[aE hp];rfl) hl (aE hp) rfl)) λD σV H t ⟨S,h⟩=>?_
 have h:=OE.from (show OE X.K RT Y old H (O.from σ (ev P (call P n) σ c) λv=>(match pA v with|some (v',ds')=>put σ i v' λds=>some (ds++ds')|none=>.bad)) D from h)
 obtain⟨v,ee,h⟩:=h.eq
 unfold pA at h
 cases hf:v.fr with
 | false=>rw[hf] at h;exact h.elim
 | true=>
  rw[hf] at h
  cases hd:v.d with
  | lst es=>
   rw[hd] at h
   obtain⟨pa,ds,ds',q1,q2,q3,q4,hpost⟩:=yZ h
   cases q3
   obtain⟨b,xs,h1,h2,h3,h4,h5⟩:=S.own i pa ds q1
   refine⟨.ref b,h1,.inl ⟨rfl,xs,SqL.of h2⟩,S,?_⟩
   rw[ee]
   intro u H1 t1 r1
   have hr:=r1.2
   rw[if_pos hf] at hr
   obtain⟨a',ys,es',e1,e2,e3,e4,r⟩:=hr
   rw[hd] at e2
   cases e2
   subst e1
   have hlen:=h5.length
   have hlen2:=r.length
   refine⟨b,a',xs,ys,rfl,rfl,r1.1 _ _ h2,e4,?_,λ_=>?_⟩
   . rw[lA] at q4
     have:=aDp
     omega
   . refine pV S r1.1 t1 q1 q2 h1 (((pU S r1.1 q1 h1 h2).weak λc z=>z.imp id tU).append ?_) hpost
     have rr:=gD (r.weak λb z=>.inr z)
     exact rr.weak λc z=>z.imp id aAo
  | _=>rw[hd] at h;exact h.elim
theorem aFn{i:Nat}{ck c:E}{x:Str}{p p2:Pos}{ix v:Expr}(M:Mc X P Γ n)(hx:eP Γ i x=true)(hk:PE X ix (WE X P n RT Y old σ ck))(he:PE X v (WE X P n RT Y old σ c))(hpl:bJ ix=true):PS X (.Assign [.Subscript (.Name x p) ix p2] v pos) (wS X RT Y old σ (ex P (call P n) σ (.setIx i ck c))):=by
 refine dL (aCi he (aGJ (oA M hx) hk aCt (by intro _;cases ix <;> first|rfl|cases hpl)) (by cases v <;> rfl) (by cases v <;> rfl)) λD σV H t ⟨S,h⟩=>?_
 have h:=OE.from (show OE X.K RT Y old H (O.from σ (ev P (call P n) σ c) λv=>O.from σ (ev P (call P n) σ ck) λkv=>(match kv.d with
  | .int k=>put σ i v λds=>(match ixN ds.length k with|some j=>some (ds.set j v.d)|none=>none)
  | _=>.bad)) D from h)
 refine wE.one S h λv u H1 hv t1 S1 r1=>?_
 obtain⟨kv,ek,hv⟩:=(OE.from hv).eq
 cases hd:kv.d with
 | int k=>
  rw[hd] at hv
  obtain⟨pa,ds,ds',q1,q2,q3,q4,hpost⟩:=yZ hv
  obtain⟨b,xs,h1,h2,h3,h4,h5⟩:=S.own i pa ds q1
  cases hj:ixN ds.length k with
  | none=>rw[hj] at q3;cases q3
  | some j=>
   rw[hj] at q3
   cases q3
   refine⟨.ref b,h1,S1,?_⟩
   rw[ek]
   intro uk H2 t2 r2
   have hlen:=h5.length
   refine⟨b,xs,k,j,rfl,(r2.rv S1).int hd,r2.1 _ _ (r1.1 _ _ h2),by rw[<-hlen,<-tJ];exact hj,λ_=>?_⟩
   have s2:=r1.1.trans r2.1
   refine pV S s2 t2 q1 q2 h1 (((pU S s2 q1 h1 h2).weak λc z=>z.imp id tU).set j (aDq ((r1.rv S).grow r2.1))) hpost
 | _=>rw[hd] at hv;exact hv.elim
theorem Sx.move{K:Fg}{σV:L2.St}{H:Hp}(S:Sx K RT Y old σ σV H){i j:Nat}{pa:Bool}{ds:List D}{a:Addr}(e:σ[j]? = some (.own pa ds))(hij:i≠j)(ha:σV[j]? = some (some (.ref a))):Sx K RT Y old ((σ.set j .dead).set i (.own pa ds)) (σV.set i (some (.ref a))) H where
 sh:=λk pb d q=>by
  rcases set_some q with⟨_,z,_⟩|⟨n1,q⟩
  . cases z
  rcases set_some q with⟨_,z,_⟩|⟨n2,q⟩
  . cases z
  obtain⟨v,g1,g2⟩:=S.sh k pb d q
  exact⟨v,by rw[List.getElem?_set_ne n1];exact g1,g2⟩
 own:=λk pb dd q=>by
  rcases set_some q with⟨rfl,z,hl⟩|⟨n1,q⟩
  . cases z
    obtain⟨b,xs,g1,g2,g3⟩:=S.own j pa ds e
    rw[ha] at g1
    cases g1
    rw[List.length_set] at hl
    exact⟨a,xs,List.getElem?_set_self (by rw[<-S.len];exact hl),g2,g3⟩
  rcases set_some q with⟨_,z,_⟩|⟨n2,q⟩
  . cases z
  obtain⟨b,xs,g1,g2⟩:=S.own k pb dd q
  exact⟨b,xs,by rw[List.getElem?_set_ne n1];exact g1,g2⟩
 trk:=S.trk
 yo:=S.yo
 tk:=S.tk
 rt:=S.rt
 inj:=λk k' pb pb' dd dd' b q1 q2 v1 v2=>by
  have get:∀{k:Nat} {pb:Bool} {dd:List D},((σ.set j .dead).set i (.own pa ds))[k]? = some (.own pb dd)->(σV.set i (some (.ref a)))[k]? = some (some (.ref b))->(k=i/\b=a)\/(k≠i/\k≠j/\σ[k]? = some (.own pb dd)/\σV[k]? = some (some (.ref b))):=λ{k pb dd} q v=>by
   rcases set_some q with⟨rfl,z,hl⟩|⟨n1,q⟩
   . rw[List.length_set] at hl
     rw[List.getElem?_set_self (by rw[<-S.len];exact hl)] at v
     cases v
     exact .inl ⟨rfl,rfl⟩
   rcases set_some q with⟨_,z,_⟩|⟨n2,q⟩
   . cases z
   rw[List.getElem?_set_ne n1] at v
   exact .inr ⟨Ne.symm n1,Ne.symm n2,q,v⟩
  rcases get q1 v1 with⟨e1,b1⟩|⟨n1,m1,o1,w1⟩
  . rcases get q2 v2 with⟨e2,_⟩|⟨n2,m2,o2,w2⟩
    . rw[e1,e2]
    . subst b1
      exact absurd (S.inj k' j _ _ _ _ b o2 e w2 ha) m2
  . rcases get q2 v2 with⟨e2,b2⟩|⟨n2,m2,o2,w2⟩
    . subst b2
      exact absurd (S.inj k j _ _ _ _ b o1 e w1 ha) m1
    . exact S.inj k k' _ _ _ _ b o1 o2 w1 w2
 len:=by rw[List.length_set,List.length_set,List.length_set];exact S.len
theorem aKC{i j:Nat}{x y:Str}{p p2:Pos}(M:Mc X P Γ n)(hx:cT Γ i x=true)(hy:eP Γ j y=true):PS X (.Assign [.Name x p] (.Name y p2) pos) (wS X RT Y old σ (ex P (call P n) σ (.mov i j))):=by
 unfold cT at hx
 obtain⟨h1,h2,h3⟩:=iJ hx
 refine dL (xU (i:=i) M.nd (by rw[M.N];exact eq_of_beq h1) (M.loc h2) (oA M hy) rfl (M.st x h2)) λD σV H t ⟨S,h⟩=>?_
 have h:OE X.K RT Y old H (match σ[j]? with
  | some (.own pa ds)=>if i=j then .bad else .next ((σ.set j .dead).set i (.own pa ds))
  | some (.sh pa d)=>.next (σ.set i (.sh (pa&&!noL d) d))
  | _=>.bad) D:=h
 cases e:σ[j]? with
 | none=>rw[e] at h;exact h.elim
 | some sl=>
  rw[e] at h
  cases sl with
  | dead=>exact h.elim
  | own pa ds=>
   by_cases hij:i=j
   . have h:OE X.K RT Y old H (if i=j then .bad else .next ((σ.set j .dead).set i (.own pa ds))) D:=h
     rw[if_pos hij] at h;exact h.elim
   . have h:OE X.K RT Y old H (if i=j then .bad else .next ((σ.set j .dead).set i (.own pa ds))) D:=h
     rw[if_neg hij] at h
     obtain⟨a,xs,g1,g2⟩:=S.own j pa ds e
     exact⟨.ref a,g1,λ_=>(show eV X.K RT Y old H _ D.nx from h) RT _ H (Kp.refl RT H) cL (S.move e hij g1)⟩
  | sh pa d=>
   obtain⟨v,g1,g2⟩:=S.sh j pa d e
   refine⟨v,g1,λ_=>(show eV X.K RT Y old H (σ.set i (.sh (pa&&!noL d) d)) D.nx from h) RT _ H (Kp.refl RT H) cL (S.setSh ?_)⟩
   cases hn:noL d with
   | true=>exact Rep.free d v hn g2
   | false=>rw[Bool.not_false,Bool.and_true];exact g2
theorem aKD{t:T}{it:Hp.It}{b:Ss}{tg iter:Expr}{body:List Stmt}(M:Mc X P Γ n)(hx:rB Γ t tg=true)(hi:PI X tg iter (wI X P n RT Y old σ it))(hb:∀RT σ,PSs X body (wS X RT Y old σ (exs P (call P n) σ b)))(hs:∀x,foldedSetIterable iter X.env x=pure x) :
 PS X (.For tg iter body [] pos) (wS X RT Y old σ (ex P (call P n) σ (.for t it b))):=by
 have hp:PassesOwn (model X.prog X.w) X.A X.env X.xe:=by rw[M.xe];exact PassesOwn.never
 refine dL (aGL hp M.calm hi (aFj M hx) (aAm hb) hs) λD0 σV H t0 ⟨S,h⟩=>?_
 have h:=OE.tkE h
 revert h
 generalize tkE X.K D0=D
 intro h
 let f:Sg->Vl->O:=λσ x=>O.from σ (cH σ x t) λσ'=>exs P (call P n) σ' b
 have h:=OE.from (show OE X.K RT Y old H (O.from σ (walk P (call P n) σ it) λxs=>eB f xs.1 (freeze σ xs.2)) D from h)
 refine⟨S,h.mono λxs hx J H1 t1 s1 ok=>?_⟩
 have S1:=S.grow s1 t1
 have Sf:=S1.frz xs.2
 refine⟨λi m σ1V Hc=>m=xs.1.length-i/\i<=xs.1.length/\∃RT1 σ1,Kp (rtF RT σ σV xs.2) H1 Hc/\(∀b,RT1 b->rtF RT σ σV xs.2 b\/H1 b=none)/\Sx X.K RT1 Y old σ1 σ1V Hc/\OE X.K RT1 Y old Hc (eB f (xs.1.drop i) σ1) D,
  ⟨_,rfl,Nat.zero_le _,rtF RT σ σV xs.2,freeze σ xs.2,Kp.refl _ _,cL,Sf,OE.mono (Kp.same s1) (λb z=>.inl z.1) hx⟩,?_⟩
 rintro i m σ1V Hc ⟨hm,hi,RT1,σ1,kp,hsub,Sc,ho⟩
 have okc:=ok.ok (rtF RT σ σV xs.2) (λ_ z=>z) i Hc kp
 by_cases hlt:i<xs.1.length
 . refine .inr ⟨okc.1 hlt,λσ' H'=>xs.1.length-(i+1)=xs.1.length-(i+1)/\i+1<=xs.1.length/\∃RT1 σ1,Kp (rtF RT σ σV xs.2) H1 H'/\(∀b,RT1 b->rtF RT σ σV xs.2 b\/H1 b=none)/\Sx X.K RT1 Y old σ1 σ' H'/\OE X.K RT1 Y old H' (eB f (xs.1.drop (i+1)) σ1) D,
    λσ' H' hN=>⟨_,by omega,hN⟩,λx H' hy=>?_⟩
   have hxi:xs.1[i]? = some xs.1[i]:=List.getElem?_eq_getElem hlt
   obtain⟨sm,tkf,rv⟩:=okc.2.2 x H' hy xs.1[i] hxi
   have hmem:xs.1[i]∈xs.1:=List.getElem_mem hlt
   rw[List.drop_eq_getElem_cons hlt] at ho
   have Sc':=Sc.grow sm (tkf Sc.tk)
   have rep:Rep X.K H' (λa=>RT1 a\/exB Y old xs.1[i].pa a) xs.1[i].d x:=rv.weak λa z=>by
    rcases z with z|z
    . rcases hsub a z with q|q
      . exact .inl (.inl ⟨q.1,λw=>q.2 (w.mono (ok.sub _ hmem))⟩)
      . exact .inr ⟨q,Sc.tk a (Sc.trk a (.inl z))⟩
    . exact .inl (.inr z)
   have ho:OE X.K RT1 Y old Hc (match f σ1 xs.1[i] with
    | .next σ'=>eB f (xs.1.drop (i+1)) σ'
    | .cnt σ'=>eB f (xs.1.drop (i+1)) σ'
    | .brk σ'=>.next σ'
    | o=>o) D:=ho
   cases hset:cH σ1 xs.1[i] t with
   | exc e=>rw[show f σ1 xs.1[i]=.exc e σ1 by show O.from σ1 (cH σ1 xs.1[i] t) _=_;rw[hset];rfl] at ho;exact ho.elim
   | bad=>rw[show f σ1 xs.1[i]=.bad by show O.from σ1 (cH σ1 xs.1[i] t) _=_;rw[hset];rfl] at ho;exact ho.elim
   | ok σ2=>
    rw[show f σ1 xs.1[i]=exs P (call P n) σ2 b by show O.from σ1 (cH σ1 xs.1[i] t) _=_;rw[hset];rfl] at ho
    refine aDd Sc' (ok.nofr _ hmem) rep hset λσ2V S2 _=>⟨RT1,σ2,S2,?_⟩
    have kS:Kp RT1 Hc H':=Kp.same sm
    have again:∀{σ':Sg} {RT':Addr->Prop} {σV':L2.St} {H'':Hp},Kp RT1 H' H''->(∀b,RT' b->RT1 b\/H' b=none)->Sx X.K RT' Y old σ' σV' H''->OE X.K RT1 Y old Hc (eB f (xs.1.drop (i+1)) σ') D ->
     (xs.1.length-(i+1)=xs.1.length-(i+1)/\i+1<=xs.1.length/\∃RT1 σ1,Kp (rtF RT σ σV xs.2) H1 H''/\(∀b,RT1 b->rtF RT σ σV xs.2 b\/H1 b=none)/\Sx X.K RT1 Y old σ1 σV' H''/\OE X.K RT1 Y old H'' (eB f (xs.1.drop (i+1)) σ1) D):=λ{σ' RT' σV' H''} k2 s2 S3 h3=>by
     have k3:Kp RT1 Hc H'':=kS.chain cL k2
     have s3:∀b,RT' b->RT1 b\/Hc b=none:=mW kS cL s2
     exact⟨rfl,hlt,RT',σ',kp.chain hsub k3,mW kp hsub s3,S3,OE.mono k3 s3 h3⟩
    cases q:exs P (call P n) σ2 b with
    | next σ'=>rw[q] at ho;exact λRT' σV' H'' k2 s2 S3=>again k2 s2 S3 ho
    | cnt σ'=>rw[q] at ho;exact λRT' σV' H'' k2 s2 S3=>again k2 s2 S3 ho
    | brk σ'=>rw[q] at ho;exact eV.mono kS cL (show eV X.K RT1 Y old Hc σ' D.nx from ho)
    | ret v=>rw[q] at ho;exact OE.mono (o:=.ret v) kS cL ho
    | exc e σ'=>rw[q] at ho;exact ho.elim
    | bad=>rw[q] at ho;exact ho.elim
 . have hie:i=xs.1.length:=by omega
   subst hie
   rw[List.drop_length] at ho
   exact .inl ⟨okc.2.1 (Nat.le_refl _),(show eV X.K RT1 Y old Hc σ1 D.nx from ho) RT1 σ1V Hc (Kp.refl _ _) cL Sc⟩
end
section
variable {X:Cx} {P:Pg} {Γ:Ct} {n:Nat} {RT Y old:Addr->Prop} {σ:Sg} {pos:Pos}
end
section
variable {P:Pg} {n:Nat} {Y old:Addr->Prop}
theorem aDr{Γ:Ct}{is:List Nat}{tg:Expr}(h:rB Γ (.t is) tg=true):∃es k p,tg=.Tuple es k p:=by
 cases tg with
 | Tuple es k p=>exact⟨es,k,p,rfl⟩
 | _=>cases h
theorem aBy{Γ:Ct}{i:Nat}{tg:Expr}(h:rB Γ (.n i) tg=true):∃x p,tg=.Name x p/\cT Γ i x=true:=by
 cases tg with
 | Name x p=>exact⟨x,p,rfl,h⟩
 | _=>cases h
theorem aBz{Γ:Ct}{c:E}{e:Expr}(h:aW Γ c e=true)(hc:pD e=true):∃k caps t it cond elt,c=.comp k caps t it cond elt:=by
 cases c with
 | comp k caps t it cond elt=>exact⟨k,caps,t,it,cond,elt,rfl⟩
 | c d=>
  rcases(Bool.or_eq_true _ _).mp (show(oS (asC e) (eqC d)||oS (asN e) λx=>dJ Γ x&&cZ x&&oB (Γ.cns.lookup x) (eqK d))=true from h) with h|h
  . obtain⟨_,⟨_,_,rfl⟩,_⟩:=aJ h;cases hc
  . obtain⟨_,⟨_,rfl⟩,_⟩:=aJ h;cases hc
 | v i=>obtain⟨_,⟨_,rfl⟩,_⟩:=aJ h;cases hc
 | op o a b=>obtain⟨_,⟨_,rfl⟩,_⟩:=aJ h;cases hc
 | neg a=>obtain⟨_,⟨_,rfl⟩,_⟩:=aJ h;cases hc
 | nt a=>obtain⟨_,⟨_,rfl⟩,_⟩:=aJ h;cases hc
 | an a b=>obtain⟨_,rfl,_⟩:=aJ h;cases hc
 | orr a b=>obtain⟨_,rfl,_⟩:=aJ h;cases hc
 | ife t a b=>obtain⟨_,⟨_,rfl⟩,_⟩:=aJ h;cases hc
 | cmp o a b=>obtain⟨_,⟨_,rfl⟩,_⟩:=aJ h;cases hc
 | cmp2 o1 o2 a b c=>obtain⟨_,⟨_,rfl⟩,_⟩:=aJ h;cases hc
 | idx a b=>obtain⟨_,⟨_,rfl⟩,_⟩:=aJ h;cases hc
 | sli a lo hi=>obtain⟨_,⟨_,rfl⟩,_⟩:=aJ h;cases hc
 | tup es=>obtain⟨_,⟨_,_,rfl⟩,_⟩:=aJ h;cases hc
 | lst es=>obtain⟨_,⟨_,rfl⟩,_⟩:=aJ h;cases hc
 | call f es=>obtain⟨_,⟨_,_,rfl⟩,_⟩:=aJ h;cases hc
 | bi b es=>obtain⟨_,⟨_,_,rfl⟩,_⟩:=aJ h;cases hc
 | mth _ _ _=>cases h
 | isi a cs=>obtain⟨_,⟨_,_,rfl⟩,_⟩:=aJ h;cases hc
 | numset a=>obtain⟨_,⟨_,_,rfl⟩,_⟩:=aJ h;cases hc
 | tget i a=>obtain⟨_,⟨_,_,rfl,_⟩,_⟩:=aJ h;cases hc
 | lzip _ _=>cases h
 | dic ks vs=>cases h
 | sset a=>obtain⟨_,⟨_,_,rfl⟩,_⟩:=aJ h;cases hc
 | attr _ _=>cases h
theorem m1{Γ:Ct}{i:Nat}{m:Str}{c:Expr}{f:Expr->Bool}(h:(match vJ Γ i m c with|some [a]=>f a|_=>false)=true):∃a,vJ Γ i m c=some [a]/\f a=true:=by
 split at h
 . rename_i a q;exact⟨a,q,h⟩
 . cases h
abbrev QS(P:Pg)(n:Nat)(Y old:Addr->Prop)(c:S):Prop:=∀{X:Cx} {Γ:Ct},Mc X P Γ n->∀{st:Stmt},iV Γ c st=true->∀(RT:Addr->Prop) (σ:Sg),PS X st (wS X RT Y old σ (ex P (call P n) σ c))
abbrev QSs(P:Pg)(n:Nat)(Y old:Addr->Prop)(c:Ss):Prop:=∀{X:Cx} {Γ:Ct},Mc X P Γ n->∀{st:List Stmt},chkSs Γ c st=true->∀(RT:Addr->Prop) (σ:Sg),PSs X st (wS X RT Y old σ (exs P (call P n) σ c))
theorem aKE{t:T}{e:E}:QS P n Y old (.set t e):=λ{X Γ} M {st} h RT σ=>by
 unfold iV at h
 obtain⟨⟨tg,v⟩,⟨p,rfl⟩,g⟩:=aJ h
 clear h
 obtain⟨h1,h2,h3⟩:=iJ g
 clear g
 cases t with
 | n i=>
  obtain⟨x,p,e1,hx⟩:=aBy h1
  have e1:tg=.Name x p:=e1
  subst e1
  cases hc:pD v with
  | false=>exact aHV M hx (sE e M h2 RT Y old σ) hc
  | true=>
   obtain⟨k,caps,t,it,cond,elt,rfl⟩:=aBz h2 hc
   obtain⟨el,tg,iter,ifs,scope,cpos,e2,O,g1,g2,g3,g4,g5⟩:=aAk h2
   have e2:v=.ListComp el [⟨tg,iter,ifs,0⟩] scope cpos:=e2
   subst e2
   refine aBx M hx (O.scope M) O.ndc O.tk (sI it M g3 RT Y old σ) (λC s₀ H₀ ex=>?_) (mQ (kQ g3))
   have M':=O.mc M C s₀ H₀ ex
   exact⟨aFj M' g2,λRT Y old σ1=>sTs cond M' g1 g4 RT Y old σ1,λRT Y old σ1=>sE elt M' g5 RT Y old σ1⟩
 | t is=>
  obtain⟨es,k,p,e1⟩:=aDr h1
  have e1:tg=.Tuple es k p:=e1
  subst e1
  refine aHW M h1 (sE e M h2 RT Y old σ) ?_
  have:(false||!yK v)=true:=h3
  simpa using this
theorem aKF{i j:Nat}:QS P n Y old (.mov i j):=λ{X Γ} M {st} h RT σ=>by
 unfold iV at h
 obtain⟨⟨tg,v⟩,⟨p,rfl⟩,g⟩:=aJ h
 clear h
 obtain⟨x,⟨p1,e1⟩,g⟩:=aJ g
 obtain⟨y,⟨p2,e2⟩,g⟩:=aJ g
 have e1:tg=.Name x p1:=e1
 have e2:v=.Name y p2:=e2
 subst e1 e2
 obtain⟨h1,h2⟩:=fL g
 exact aKC M h1 h2
theorem aFo{i:Nat}{k e:E}:QS P n Y old (.setIx i k e):=λ{X Γ} M {st} h RT σ=>by
 unfold iV at h
 obtain⟨⟨tg,v⟩,⟨p,rfl⟩,g⟩:=aJ h
 clear h
 obtain⟨⟨o,ix⟩,⟨p1,e1⟩,g⟩:=aJ g
 obtain⟨x,⟨p2,e2⟩,g⟩:=aJ g
 have e1:tg=.Subscript o ix p1:=e1
 have e2:o=.Name x p2:=e2
 subst e1 e2
 obtain⟨h1,h2,h3⟩:=iJ g
 exact aFn M h1 (sE k M h2 RT Y old σ) (sE e M h3 RT Y old σ) (aQ h2)
theorem aKG{i:Nat}{e:E}:QS P n Y old (.app i e):=λ{X Γ} M {st} h RT σ=>by
 unfold iV at h
 obtain⟨c,⟨p,rfl⟩,g⟩:=aJ h
 obtain⟨a,h1,h2⟩:=m1 (f:=λa=>aW Γ e a) g
 exact aKA M h1 (sE e M h2 RT Y old σ) (aQ h2)
theorem aKH{i:Nat}{e:E}:QS P n Y old (.ext i e):=λ{X Γ} M {st} h RT σ=>by
 unfold iV at h
 obtain⟨c,⟨p,rfl⟩,g⟩:=aJ h
 obtain⟨a,h1,h2⟩:=m1 (f:=λa=>aW Γ e a) g
 exact aKB M h1 (sE e M h2 RT Y old σ) (aQ h2)
theorem aKI{e:E}:QS P n Y old (.ret e):=λ{X Γ} M {st} h RT σ=>by
 unfold iV at h
 obtain⟨r,⟨p,rfl⟩,g⟩:=aJ h
 clear h
 obtain⟨v,e1,g⟩:=aCK g
 subst e1
 exact aKz (sE e M g RT Y old σ)
theorem aHX{i:Nat}:QS P n Y old (.retv i):=λ{X Γ} M {st} h RT σ=>by
 unfold iV at h
 obtain⟨r,⟨p,rfl⟩,g⟩:=aJ h
 clear h
 obtain⟨v,e1,g⟩:=aCK g
 subst e1
 obtain⟨x,⟨p1,e2⟩,g⟩:=aJ g
 have e2:v=.Name x p1:=e2
 subst e2
 exact aHU M g
theorem aHY:QS P n Y old .retN:=λ{X Γ} M {st} h RT σ=>by
 unfold iV at h
 obtain⟨r,⟨p,rfl⟩,g⟩:=aJ h
 cases r with
 | none=>exact aHT
 | some _=>cases g
theorem aKJ{c:E}{a b:Ss}(ha:QSs P n Y old a)(hb:QSs P n Y old b):QS P n Y old (.iff c a b):=λ{X Γ} M {st} h RT σ=>by
 unfold iV at h
 obtain⟨⟨t,x,y⟩,⟨p,rfl⟩,g⟩:=aJ h
 obtain⟨h1,h2,h3⟩:=iJ g
 exact aMt (sT c M h1 RT Y old σ) (ha M h2) (hb M h3)
theorem aKK{t:T}{it:Hp.It}{b:Ss}(hb:QSs P n Y old b):QS P n Y old (.for t it b):=λ{X Γ} M {st} h RT σ=>by
 unfold iV at h
 obtain⟨⟨tg,iter,body⟩,⟨p,rfl⟩,g⟩:=aJ h
 obtain⟨h1,h2,h3⟩:=iJ g
 exact aKD M h1 (sI it M h2 RT Y old σ) (hb M h3) (mQ (kQ h2))
theorem aKL:QS P n Y old .brk:=λ{X Γ} M {st} h RT σ=>by
 unfold iV at h
 obtain⟨_,⟨p,rfl⟩,_⟩:=aJ h
 exact aKw
theorem aKM:QS P n Y old .cnt:=λ{X Γ} M {st} h RT σ=>by
 unfold iV at h
 obtain⟨_,⟨p,rfl⟩,_⟩:=aJ h
 exact aKx
theorem aHZ:QS P n Y old .pass:=λ{X Γ} M {st} h RT σ=>by
 unfold iV at h
 obtain⟨_,⟨p,rfl⟩,_⟩:=aJ h
 exact aHS
theorem aMu{e:E}:QS P n Y old (.ex e):=λ{X Γ} M {st} h RT σ=>by
 unfold iV at h
 obtain⟨v,⟨p,rfl⟩,g⟩:=aJ h
 obtain⟨h1,h2⟩:=fL g
 exact aMs (sE e M h1 RT Y old σ) (by simpa using h2)
theorem aKN{c:Nat}{k:Bool}{es:Es}:QS P n Y old (.rse c k es):=by
 intro X Γ M st h RT σ
 exact aKy
theorem pW{c:S}(z:∀Γ st,iV Γ c st=false):QS P n Y old c:=by
 intro X Γ M st h RT σ
 rw[z] at h
 cases h
theorem aIa{X:Cx}{Γ:Ct}{RT:Addr->Prop}{σ:Sg}{pos:Pos}{b:Ss}{body:List Stmt}{h0:ExceptHandler}{hs:List ExceptHandler}(M:Mc X P Γ n)(hb:PSs X body (wS X RT Y old σ (exs P (call P n) σ b))) :
 PS X (.Try body (h0::hs) [] [] pos) (wS X RT Y old σ (ex P (call P n) σ (.tryN b))):=by
 intro pins s σV H D I h
 refine wpAny_Try_except (wpAny_mono (hb pins s σV H D I h) (λf s1 q=>?_) λe s1 q=>?_)
 . cases f with
   | next=>exact wpAny_execs_nil q
   | _=>exact q
 . rw[M.xe] at q
   exact q.elim
theorem aIb{b:Ss}(hb:QSs P n Y old b):QS P n Y old (.tryN b):=λ{X Γ} M {st} h RT σ=>by
 unfold iV at h
 obtain⟨r,⟨hd,hs,p,rfl⟩,g⟩:=aJ h
 exact aIa M (hb M g RT σ)
theorem aKO:QSs P n Y old .nil:=λ{X Γ} M {st} h RT σ=>by
 cases st with
 | nil=>exact aKv
 | cons _ _=>exact nf h
theorem aIc{c:S}{cs:Ss}(hc:QS P n Y old c)(hs:QSs P n Y old cs):QSs P n Y old (.cons c cs):=λ{X Γ} M {st} h RT σ=>by
 cases st with
 | nil=>exact nf h
 | cons x xs=>
  obtain⟨h1,h2⟩:=fL h
  exact aHR (hc M h1) (hs M h2)
mutual
theorem sS:(c:S)->QS P n Y old c
 | .set _ _=>aKE
 | .mov _ _=>aKF
 | .setIx _ _ _=>aFo
 | .app _ _=>aKG
 | .ext _ _=>aKH
 | .pop _ _ _=>pW λ_ _=>rfl
 | .clr _=>pW λ_ _=>rfl
 | .ins _ _ _=>pW λ_ _=>rfl
 | .rev _=>pW λ_ _=>rfl
 | .appCall _ _ _=>pW λ_ _=>rfl
 | .ret _=>aKI
 | .retv _=>aHX
 | .retN=>aHY
 | .iff _ a b=>aKJ (sSs a) (sSs b)
 | .for _ _ b=>aKK (sSs b)
 | .whl _ _=>pW λ_ _=>rfl
 | .brk=>aKL
 | .cnt=>aKM
 | .pass=>aHZ
 | .ex _=>aMu
 | .rse _ _ _=>aKN
 | .try _ _=>pW λ_ _=>rfl
 | .tryN b=>aIb (sSs b)
theorem sSs:(c:Ss)->QSs P n Y old c
 | .nil=>aKO
 | .cons c cs=>aIc (sS c) (sSs cs)
end
end
structure Tx where
 x:Str
 qual:Str
 st:Stmt
 N:List Str
def sC(Γ:Ct)(F:Fn)(t:Tx):Bool:=
 t.N.length==F.ns&&decide (F.np<=F.ns)&&decide t.N.Nodup&&(cD t.st).kind==.function&&!(cD t.st).isCoroutine&&!(cD t.st).isGenerator &&
 ((t.N.take F.np).all λx=>(cD t.st).names.lookup x==some .local||(cD t.st).names.lookup x==some .cell)&&((cD t.st).names.all λp=>p.2 != .free) &&
 chkSs { Γ with N:=t.N,sc:=(cD t.st).names,fn:=true } F.body (jP t.st)
def jE(Γ:Ct):List Fn->List Tx->Bool
 | [],[]=>true
 | F::Fs,t::ts=>sC Γ F t&&jE Γ Fs ts
 | _,_=>false
theorem iK{Γ:Ct}:∀{Fs:List Fn} {ts:List Tx},jE Γ Fs ts=true->∀{f:Nat} {t:Tx},ts[f]? = some t->∃F,Fs[f]? = some F/\sC Γ F t=true
 | [],[],_,_,_,e=>by simp at e
 | [],_::_,h,_,_,_=>by cases h
 | _::_,[],h,_,_,_=>by cases h
 | F::Fs,t::ts,h,0,t',e=>by
  obtain⟨h1,h2⟩:=fL (show(sC Γ F t&&jE Γ Fs ts)=true from h)
  have e':t=t':=by simpa using e
  subst e'
  exact⟨F,rfl,h1⟩
 | F::Fs,t::ts,h,f+1,t',e=>by
  obtain⟨h1,h2⟩:=fL (show(sC Γ F t&&jE Γ Fs ts)=true from h)
  obtain⟨F',q1,q2⟩:=iK h2 (f:=f) (t:=t') (by simpa using e)
  exact⟨F',by simpa using q1,q2⟩
section
variable {prog:Program} {w:World} {K:Fg} {mg:Str->Option Value} {base:Heap} {P:Pg} {Γ:Ct} {txs:List Tx}
structure Top (prog:Program) (w:World) (K:Fg) (mg:Str->Option Value) (P:Pg) (Γ:Ct) (txs:List Tx):Prop where
 fn:∀(f:Nat) (t:Tx),txs[f]? = some t->∃fa fd,mg t.x=some (.ref fa)/\Fun K t.x t.qual t.st fa fd/\∀F,P.fns[f]? = some F->kB K fd (t.N.take F.np) []
 fns:∀(f:Nat) (x:Str),Γ.fns[f]? = some x->∃t,txs[f]? = some t/\t.x=x
 blt:∀x∈bltNames,mg x=none
 cns:∀(x:Str) (d:D),Γ.cns.lookup x=some d->∃u v,mg x=some u/\bQ v u/\∀H ex,Rep K H ex d v
 tab:∀(i:Nat) (x:Str),Γ.tbs[i]? = some x->∃a t,mg x=some (.ref a)/\P.tabs[i]? = some t/\rO prog w K a t
 chk:jE Γ P.fns txs=true
theorem aAq{k f:Nat}{F:Fn}(hF:P.fns[f]? = some F){vs:List V}{H:Hp}{Q:VK}{E:XK}(h:spF K P (k+1) f vs H Q E):vs.length=F.np:=by
 obtain⟨ds,Y,_,r,hr⟩:=h
 obtain⟨x,e,_⟩:=hr.eq
 have e:tG P (call P k) f ds=.ok x:=e
 unfold tG at e
 rw[hF] at e
 have e:(if ds.length=F.np then _ else R.bad)=R.ok x:=e
 split at e
 . rename_i hl;rw[<-r.length];exact hl
 . cases e
theorem aDs{ds:List D}{vs:List V}{H:Hp}{Y:Addr->Prop}{m:Nat}(hY:∀a,Y a->H a≠none)(t:Tk K H)(r:Reps K H Y ds vs):Sx K (λ_=>False) Y (λb=>H b≠none) ((ds.map λd=>Sl.sh true d)++List.replicate m Sl.dead) (vs.map some++List.replicate m none) H:=by
 have len:=r.length
 have get:∀{i:Nat} {s:Sl},((ds.map λd=>Sl.sh true d)++List.replicate m Sl.dead)[i]? = some s->s=.dead\/∃d,s=.sh true d/\ds[i]? = some d:=λ{i s} e=>by
  by_cases hi:i<ds.length
  . rw[List.getElem?_append_left (by simpa using hi),List.getElem?_map,List.getElem?_eq_getElem hi] at e
    cases e
    exact .inr ⟨ds[i],rfl,List.getElem?_eq_getElem hi⟩
  . rw[List.getElem?_append_right (by simpa using hi),List.getElem?_replicate] at e
    split at e
    . cases e;exact .inl rfl
    . cases e
 exact {
  sh:=λi pa d e=>by
   rcases get e with z|⟨d',z,q⟩
   . cases z
   . cases z
     obtain⟨v,hv,rv⟩:=r.get q
     have hi:i<vs.length:=(List.getElem?_eq_some_iff.mp hv).1
     refine⟨v,?_,rv.weak λa z=>?_⟩
     . rw[List.getElem?_append_left (by simpa using hi),List.getElem?_map,hv];rfl
     . rcases z with z|z|⟨z,_⟩
       . exact z.elim
       . exact z
       . cases z
  own:=λi pa ds' e=>by
   rcases get e with z|⟨d',z,q⟩
   . cases z
   . cases z
  trk:=λa z=>by
   rcases z with z|z|z
   . exact z.elim
   . exact hY a z
   . exact z
  yo:=hY
  tk:=t
  rt:=λ_ z=>z.elim
  inj:=λi j pa pa' ds1 ds2 a e=>by
   rcases get e with z|⟨d',z,q⟩
   . cases z
   . cases z
  len:=by rw[lA,lA,lM,lM,List.length_replicate,List.length_replicate,len] }
theorem aAr{k f:Nat}{t:Tx}{F:Fn}{fa:Addr}{fd:FuncData}(hmd:∀(f:Nat) (x:Str),Γ.fns[f]? = some x->∃fa fd ps,mg x=some (.ref fa)/\PySem.W.keepIn K (.ref fa)=true/\kB K fd ps []/\nQ prog w K mg base CX0 k fa fd ps (spF K P k f))
 (hblt:∀x∈bltNames,mg x=none) (hcns:∀(x:Str) (d:D),Γ.cns.lookup x=some d->∃u v,mg x=some u/\bQ v u/\∀H ex,Rep K H ex d v) (htab:∀(i:Nat) (x:Str),Γ.tbs[i]? = some x->∃a t,mg x=some (.ref a)/\P.tabs[i]? = some t/\rO prog w K a t) (h2:Fun K t.x t.qual t.st fa fd) (hF:P.fns[f]? = some F) (hc:sC Γ F t=true) :
 nQ prog w K mg base CX0 (k+1) fa fd (t.N.take F.np) (spF K P (k+1) f):=by
 unfold sC at hc
 simp only[bA,beq_iff_eq,decide_eq_true_eq,Bool.not_eq_true',List.all_eq_true,Bool.or_eq_true,bne_iff_ne,ne_eq] at hc
 obtain⟨⟨⟨⟨⟨⟨⟨⟨c1,c2⟩,c3⟩,c4⟩,c5⟩,c6⟩,c7⟩,c8⟩,c9⟩:=hc
 have lt:(t.N.take F.np).length=F.np:=by rw[List.length_take];omega
 have sc:nZ t.N (t.N.take F.np) (cD t.st):=⟨c4,c5,c6,c3,by rw[lt],c7,c8⟩
 refine h2.ok sc (λvs H Q E h=>by rw[lt];exact aAq hF h) λcdv A outer s H vs Q E hr h=>?_
 have hlen:=aAq hF h
 obtain⟨ds,Y,hY,r,hq⟩:=h
 have M:Mc (yA CX0 prog w K mg base t.N t.qual (cD t.st) fa cdv A outer s H E).nox P { Γ with N:=t.N,sc:=(cD t.st).names,fn:=true } k:={
  md:=⟨hmd,hblt,hcns,htab⟩
  N:=rfl
  nd:=c3
  sc:=rfl
  calm:=rfl
  room:=hr
  xe:=rfl
  st:=λ_ _=>.inl rfl
  fk:=c4 }
 obtain⟨res,er,hq⟩:=hq.eq
 have er:tG P (call P k) f ds=.ok res:=er
 unfold tG at er
 rw[hF] at er
 have er:(if ds.length=F.np then (match exs P (call P k) ((ds.map λd=>Sl.sh true d)++List.replicate (F.ns-F.np) Sl.dead) F.body with
  | .ret v=>R.ok (v.d,v.fr,v.pa)
  | .next _=>R.ok (.non,false,false)
  | .exc x _=>R.exc x
  | _=>R.bad) else R.bad)=R.ok res:=er
 have hdl:ds.length=F.np:=by rw[r.length];exact hlen
 rw[if_pos hdl] at er
 refine⟨_,tR (t':=λD σV H'=>Tk K H'->wS _ (λ_=>False) Y (λb=>H b≠none) ((ds.map λd=>Sl.sh true d)++List.replicate (F.ns-F.np) Sl.dead) (exs P (call P k) ((ds.map λd=>Sl.sh true d)++List.replicate (F.ns-F.np) Sl.dead) F.body) D σV H') (sSs (Y:=Y) (old:=λb=>H b≠none) F.body M c9 (λ_=>False) ((ds.map λd=>Sl.sh true d)++List.replicate (F.ns-F.np) Sl.dead)) (λD σV H' tk hw=>⟨(hw tk).1,OE.tkE (hw tk).2⟩),λtk=>⟨?_,?_⟩⟩
 . have e:L2.start t.N vs=vs.map some++List.replicate (F.ns-F.np) none:=by unfold L2.start;rw[hlen,c1]
   rw[e]
   exact aDs hY tk r
 . have same:∀{H':Hp},Kp (λ_=>False) H H'->aU H H':=λk b o e=>k b o e id
   show OE K (λ_=>False) Y (λb=>H b≠none) H (exs P (call P k) ((ds.map λd=>Sl.sh true d)++List.replicate (F.ns-F.np) Sl.dead) F.body) _
   cases q:exs P (call P k) ((ds.map λd=>Sl.sh true d)++List.replicate (F.ns-F.np) Sl.dead) F.body with
   | next σ'=>
    rw[q] at er
    cases(show R.ok (D.non,false,false)=R.ok res from er)
    exact λRT' σV' H' kp sub S'=>hq .non H' S'.tk (same kp) (show(if false=true then _ else _) from aJv rfl)
   | ret v=>
    rw[q] at er
    cases(show R.ok (v.d,v.fr,v.pa)=R.ok res from er)
    refine λu H' kp tk' rt=>hq u H' tk' (same kp) ?_
    unfold Rr
    unfold Rtv at rt
    cases hfr:v.fr with
    | true=>
     rw[hfr,if_pos rfl] at rt
     obtain⟨a,xs,ds',e1,e2,e3,e4,rr⟩:=rt
     exact aLZ ⟨a,xs,ds',e1,e2,Classical.not_not.mp e3,e4,rr⟩
    | false=>
     rw[hfr,if_neg bN] at rt
     exact aJv rt
   | brk σ'=>rw[q] at er;cases er
   | cnt σ'=>rw[q] at er;cases er
   | exc e σ'=>rw[q] at er;cases er
   | bad=>rw[q] at er;cases er
theorem aDt(T:Top prog w K mg P Γ txs):∀(k f:Nat) (x:Str),Γ.fns[f]? = some x->∃fa fd ps,mg x=some (.ref fa)/\PySem.W.keepIn K (.ref fa)=true/\kB K fd ps []/\nQ prog w K mg base CX0 k fa fd ps (spF K P k f)
 | 0,f,x,hf=>by
  obtain⟨t,ht,rfl⟩:=T.fns f x hf
  obtain⟨fa,fd,h1,h2,h3⟩:=T.fn f t ht
  obtain⟨F,hF,_⟩:=iK T.chk ht
  have no:∀vs H Q E,¬ spF K P 0 f vs H Q E:=λvs H Q E h=>by
   obtain⟨ds,Y,_,r,hr⟩:=h
   exact hr
  exact⟨fa,fd,_,h1,h2.kp,h3 F hF,λvs H Q E h=>absurd h (no vs H Q E),λA outer s H args us vs Q E _ _ _ _ h=>absurd h (no vs H Q E)⟩
 | k+1,f,x,hf=>by
  obtain⟨t,ht,rfl⟩:=T.fns f x hf
  obtain⟨fa,fd,h1,h2,h3⟩:=T.fn f t ht
  obtain⟨F,hF,hc⟩:=iK T.chk ht
  exact⟨fa,fd,_,h1,h2.kp,h3 F hF,aAr (λf x hf=>aDt T k f x hf) T.blt T.cns T.tab h2 hF hc⟩
theorem aId(T:Top prog w K mg P Γ txs){f:Nat}{t:Tx}{F:Fn}{fa:Addr}{fd:FuncData}(ht:txs[f]? = some t)(hF:P.fns[f]? = some F)(h2:Fun K t.x t.qual t.st fa fd)(k:Nat):nQ prog w K mg base CX0 (k+1) fa fd (t.N.take F.np) (spF K P (k+1) f):=by
 obtain⟨F',hF',hc⟩:=iK T.chk ht
 rw[hF] at hF'
 cases hF'
 exact aAr (aDt T k) T.blt T.cns T.tab h2 hF hc
theorem aIe{k f:Nat}{K:Fg}{H:Hp}{a:Addr}{ns:List Int}(hO:aEQ H)(hS:SqL K H a (ns.map V.int))(h:∃fr pa,call P k f [.lst (ns.map D.int)]=.ok (.bl true,fr,pa)) :
 spF K P k f [.ref a] H (λv _=>v=.bl true) λ_ _ _=>False:=by
 obtain⟨fr,pa,e⟩:=h
 have ri:∀(ns:List Int),Reps K H (λ_=>False) (ns.map D.int) (ns.map V.int):=by
  intro ns
  induction ns with
  | nil=>exact .nil
  | cons i ns ih=>exact .cons rfl ih
 refine⟨[.lst (ns.map D.int)],λ_=>False,λ_ z=>z.elim,.cons ⟨a,_,rfl,hS,id,ri ns⟩ .nil,?_⟩
 rw[e]
 intro u H' _ _ rr
 unfold Rr at rr
 cases fr with
 | true=>
  rw[if_pos rfl] at rr
  obtain⟨_,_,_,_,e2,_⟩:=rr
  cases e2
 | false=>
  rw[if_neg bN] at rr
  exact rr
end
end Hp
end
noncomputable section
namespace Hp
open PySem PySem.Spec PyProof.Rows L2
def ER(w:World)(K:Fg)(e:DictEntry)(p:Str×D):Prop:=e.hash=hashStr w p.1/\(∃tk,e.key=.str p.1 tk)/\∃v,bQ v e.val/\∀(H:Hp) (ex:Addr->Prop),Rep K H ex p.2 v
theorem sD{K:Fg}{H:Hp}{ex:Addr->Prop}:∀xs:List Str,Reps K H ex (xs.map D.str) (xs.map V.str)
 | []=>rfl
 | x::xs=>⟨.str x,xs.map V.str,rfl,rfl,sD xs⟩
theorem aDu{K:Fg}{b:Addr}{od:Option Addr}{its:Array Value}{n:Nat}{sl:Array (Option Value)}(h:K.lookup b=some ⟨.type "tuple",od,.seq its n,sl⟩)(xs:List Str)(hz:its.size<=1000)(hv:bC (xs.map V.str) its.toList) :
 ∀(H:Hp) (ex:Addr->Prop),Rep K H ex (.tup (xs.map D.str)) (.ref b):=λH ex=>
 ⟨b,xs.map V.str,rfl,.inr ⟨_,its,n,h,rfl,rfl,Nat.le_trans hz (by rw[sizeLine_eq];decide),hv⟩,sD xs⟩
theorem aDv{prog:Program}{w:World}{K:Fg}:∀{es:List DictEntry} {t:List (Str×D)},Paired (ER w K) es t->∃vs:List (Key×Value),(∀e∈es,∃k:Key,(bS prog w).is k e.key=true/\e.hash=(bS prog w).hash k) /\
 Pairs (bS prog w) es vs/\vs.map (·.1)=t.map (λp=>(Sum.inr p.1:Key)) /\
 ∀k:Str,(t.lookup k=none/\valueAt vs (Sum.inr k:Key)=none)\/∃d u v,t.lookup k=some d/\valueAt vs (Sum.inr k:Key)=some u/\bQ v u/\∀(H:Hp) (ex:Addr->Prop),Rep K H ex d v
 | _,_,.nil=>⟨[],λe he=>absurd he (by simp),.nil,rfl,λk=>.inl ⟨rfl,rfl⟩⟩
 | e::es,p::t,.cons ⟨h1,⟨tk,h2⟩,v,h3,h4⟩ r=>by
  obtain⟨vs,g1,g2,g3,g4⟩:=aDv (prog:=prog) r
  have hk:oQ (Sum.inr p.1:Key) e.key=true:=by rw[h2];exact mK p.1 tk
  refine⟨(Sum.inr p.1,e.val)::vs,λe' he=>?_,.cons hk rfl g2,by rw[mC,mC,g3],λk=>?_⟩
  . rcases List.mem_cons.mp he with rfl|he
    . exact⟨Sum.inr p.1,hk,h1⟩
    . exact g1 e' he
  . by_cases hkp:k=p.1
    . subst hkp
      refine .inr ⟨p.2,e.val,v,?_,?_,h3,h4⟩
      . obtain⟨a,b⟩:=p
        simp[List.lookup]
      . simp[valueAt]
    . have n1:(p::t).lookup k=t.lookup k:=by
       obtain⟨a,b⟩:=p
       have:(k==a)=false:=beq_eq_false_iff_ne.mpr hkp
       simp[List.lookup,this]
      have n2:valueAt ((Sum.inr p.1,e.val)::vs) (Sum.inr k:Key)=valueAt vs (Sum.inr k:Key):=by
       unfold valueAt
       have:decide ((Sum.inr p.1:Key)=Sum.inr k)=false:=decide_eq_false λz=>hkp (Sum.inr.inj z).symm
       rw[List.find?_cons]
       simp only[this]
      rw[n1,n2]
      exact g4 k
theorem aIf{prog:Program}{w:World}{K:Fg}{a:Addr}{es:Array DictEntry}{ep:Nat}{t:List (Str×D)}(hs:(a==sysModules)=false)(h:K.lookup a=some ⟨.type "dict",none,.dict es ep,#[]⟩)(hp:Paired (ER w K) es.toList t)(hn:(t.map (·.1)).Nodup):rO prog w K a t:=by
 obtain⟨vs,g1,g2,g3,g4⟩:=aDv (prog:=prog) hp
 refine⟨hs,vs,λhh X=>⟨_,es,ep,X a _ h,⟨rfl,rfl,rfl⟩,rfl,λe he=>g1 e (by simpa using he),g2,?_⟩,g4⟩
 rw[g3]
 have e:t.map (λp=>(Sum.inr p.1:Key))=(t.map (·.1)).map Sum.inr:=by rw[List.map_map];rfl
 rw[e]
 unfold List.Nodup at hn ⊢
 rw[List.pairwise_map]
 exact hn.imp λhne z=>hne (Sum.inr.inj z)
end Hp
end
noncomputable section
namespace Hh
open PySem PySem.W PySem.Calls PyProof.Rows
def go(st:SharedT->Thread->Option (SharedT×Thread))(ok:Thread->Bool)(n:Nat):SharedT->Thread->Option SharedT:=
 @Nat.rec (λ_=>SharedT->Thread->Option SharedT) (λ_ _=>none) (λ_ ih s t=>match through t with
  | true=>some s
  | false=>match ok t with
   | false=>none
   | true=>match st s t with
    | some (s',t')=>ih s' t'
    | none=>none) n
theorem oR{tb:String->Option Builtin}{p:Program}{w:World}{n₀:Nat}{ann:Option Value}:∀(n:Nat) (s s':SharedT) (t:Thread),go (stepT (denote tb) p w) (stepOk n₀ ann) n s t=some s'->topRun tb p w n₀ ann n s.abs t=some s'.abs
 | 0,_,_,_,h=>by cases h
 | n+1,s,s',t,h=>by
  have h:(match through t with
   | true=>some s
   | false=>match stepOk n₀ ann t with
    | false=>none
    | true=>match stepT (denote tb) p w s t with
     | some (s',t')=>go (stepT (denote tb) p w) (stepOk n₀ ann) n s' t'
     | none=>none)=some s':=h
  unfold topRun
  cases ht:through t with
  | true=>rw[ht] at h;cases h;rfl
  | false=>
   rw[ht] at h
   cases hk:stepOk n₀ ann t with
   | false=>rw[hk] at h;cases h
   | true=>
    rw[hk] at h
    cases hs:stepT (denote tb) p w s t with
    | none=>rw[hs] at h;cases h
    | some r=>obtain⟨s₂,t₂⟩:=r;rw[hs] at h;rw[stepT_spec hs];exact oR n _ _ _ h
def bt(l:List Obj)(n:Nat):Nat->Nat->BT:=
 @Nat.rec (λ_=>Nat->Nat->BT) (λ_ _=>.nil) (λ_ ih a b=>match l[b]? with
  | some o=>.node o (ih (2*a) (a+b)) (ih (2*a) (2*a+b))
  | none=>.nil) n
end Hh
namespace Hh
open PySem PySem.W PySem.Calls PyProof.Rows
def aDw{α:Type}(p q:Program)(loose:List Str)(Xt:Shared->Bool)(Yf:Shared->α)(h0:Heap)(s:Shared):=
 ((staticsOk (importedModules p.main.body) h0 s.heap&&namesBound p s.heap&&gensDone s&&laidKept h0 s.heap),openSeen q loose (importedModules p.main.body) Xt true s,Yf s)
theorem aFp{p q:Program}{loose:List Str}{Xt:Shared->Bool}{α:Type}{Yf:Shared->α}{Ya:World->α}{N m₀:Nat}{ann:Option Value}{T₀:Params->BT}{l₀:Life}(e:opening p=plainProg p.main.scope.names)(hN:Nat.ble 600 N=true)(f:∀s,fenceModules? p s=some s)
 (hb:∀P,absHeap (T₀ P) m₀ l₀=boot_heap P) (hz:∀P:Params,((boot_heap P).isNs mainGlobals,(boot_heap P).objs.size,(boot_heap P).nsMap mainGlobals "__annotations__")=(true,m₀,ann))
 (h:∀(w:World) (os:OsState),(go (stepT (denote treeTable) p w) (stepOk m₀ ann) N ⟨T₀ w.params,m₀,l₀,Array.mk [],boot_drawn,boot_toks,os⟩ (topStub p)).map (λs=>aDw p q loose Xt Yf (boot_heap w.params) s.abs)=some (true,openGood q loose,Ya w)):LeftO p q loose Xt Yf Ya N:=λw=>by
 obtain⟨⟨hh,gs,d,k,os⟩,e1,e2⟩:=Option.map_eq_some_iff.mp (boot_open e hN f w)
 simp only[Prod.mk.injEq] at e2
 obtain⟨rfl,rfl,rfl,rfl⟩:=e2
 obtain⟨s,g1,g2⟩:=Option.map_eq_some_iff.mp (h w os)
 have r:=oR N _ _ _ g1
 have r:topRun treeTable p w m₀ ann N ⟨boot_heap w.params,Array.mk [],boot_drawn,boot_toks,os⟩ (topStub p)=some s.abs:=by
  rw[<-hb];exact r
 have z:=hz w.params
 simp only[Prod.mk.injEq] at z
 obtain⟨z1,z2,z3⟩:=z
 unfold aDw at g2
 simp only[Prod.mk.injEq] at g2
 obtain⟨l1,l2,l3⟩:=g2
 have t:topFrom treeTable p w N ⟨boot_heap w.params,Array.mk [],boot_drawn,boot_toks,os⟩=some s.abs:=by
  unfold topFrom
  dsimp only
  rw[z1,z2,z3,r]
  show(match staticsOk (importedModules p.main.body) (boot_heap w.params) s.abs.heap&&namesBound p s.abs.heap&&gensDone s.abs&&laidKept (boot_heap w.params) s.abs.heap with|true=>_|false=>_)=_
  rw[l1]
 unfold openEnds
 rw[e1]
 show(topFrom treeTable p w N _).map _=_
 rw[t]
 exact congrArg some (Prod.ext l2 l3)
def T0(P:Params):BT:=bt (boot_heap P).objs.toList 5 1 0
theorem aIg:∀P,absHeap (T0 P) 11 {}=boot_heap P:=λP=>by kernel_rfl
theorem aFq:∀P:Params,((boot_heap P).isNs mainGlobals,(boot_heap P).objs.size,(boot_heap P).nsMap mainGlobals "__annotations__")=(true,11,some (.ref 6)):=λP=>by kernel_rfl
abbrev aKP:=@PySem.W.Fast.tw10156331382660048174
abbrev qOk:=@PySem.W.Fast.tw6613529449190102663
abbrev aMv:=@PySem.W.Fast.tw11892475500146522536
abbrev aMw:=@PySem.W.Fast.tw14364793385576792824
abbrev aKQ:=@PySem.W.Fast.tw4187177175401517315
abbrev aKR:=@PySem.W.Fast.tw5923862056798008813
def aKS{α:Type}(p q:Program)(loose:List Str)(Yf:Shared->α)(N:Nat)(w:World)(os:OsState):=
 (go (aKP (aMv aMw) p w) (qOk 11 (some (.ref 6))) N ⟨T0 w.params,11,{},Array.mk [],boot_drawn,boot_toks,os⟩ (topStub p)).map λs=>
  ((staticsOk (aKR p.main.body) (boot_heap w.params) s.abs.heap&&namesBound p s.abs.heap&&gensDone s.abs&&laidKept (boot_heap w.params) s.abs.heap),aKQ q loose (aKR p.main.body) (λ_=>true) true s.abs,Yf s.abs)
theorem aIh{p q:Program}{loose:List Str}{α:Type}{Yf:Shared->α}{Ya:World->α}{N:Nat}(e:opening p=plainProg p.main.scope.names)(hN:Nat.ble 600 N=true)(f:∀s,fenceModules? p s=some s)
 (h:∀w os,aKS p q loose Yf N w os=some (true,openGood q loose,Ya w)):LeftO p q loose (λ_=>true) Yf Ya N:=by
 refine aFp e hN f aIg aFq λw os=>?_
 unfold aDw
 rw[PySem.W.Fast.te10156331382660048174,PySem.W.Fast.te6613529449190102663,PySem.W.Fast.te11892475500146522536,PySem.W.Fast.te14364793385576792824,PySem.W.Fast.te4187177175401517315,PySem.W.Fast.te5923862056798008813]
 exact h w os
end Hh
end
noncomputable section
namespace Hh
open PySem PySem.W PySem.Calls PyProof.Rows L2 Hp
def kR(h:Heap):PySem.W.Frag:=(List.range h.objs.size).filterMap λa=>(h.get? a).map λo=>(a,o)
theorem pX{α:Type}(f:Nat->Option α)(a:Nat):∀n,((List.range n).filterMap λi=>(f i).map λo=>(i,o)).lookup a=if a<n then f a else none
 | 0=>rfl
 | n+1=>by
  rw[List.range_succ,List.filterMap_append,List.lookup_append,pX f a n]
  by_cases h:a<n
  . rw[if_pos h,if_pos (Nat.lt_succ_of_lt h)]
    cases q:f a with
    | some o=>rfl
    | none=>
     have hne:(a==n)=false:=beq_eq_false_iff_ne.mpr (Nat.ne_of_lt h)
     cases q2:f n with
     | none=>simp[q2]
     | some o=>simp[q2,List.lookup,hne]
  . rw[if_neg h]
    by_cases e:a=n
    . subst e
      rw[if_pos (Nat.lt_succ_self _)]
      cases q:f a with
      | none=>simp[q]
      | some o=>simp[q,List.lookup]
    . rw[if_neg (by omega)]
      have hne:(a==n)=false:=beq_eq_false_iff_ne.mpr e
      cases q2:f n with
      | none=>simp[q2]
      | some o=>simp[q2,List.lookup,hne]
theorem dM(h:Heap)(a:Addr):(kR h).lookup a=h.get? a:=by
 unfold kR
 rw[pX]
 by_cases q:a<h.objs.size
 . rw[if_pos q]
 . rw[if_neg q]
   cases e:h.get? a with
   | none=>rfl
   | some o=>exact absurd (Heap.lt_size e) q
theorem aAs{h h':Heap}(k:∀b o,h.get? b=some o->h'.get? b=some o):(kR h).In h':=λa o e=>k a o (by rw[<-dM];exact e)
def mX(h:Heap)(x:Str):Option (Option Value):=match h.get? mainGlobals with
 | some ⟨_,_,.dict es _,_⟩=>(match es.toList.find? (λe=>match e.key with|.str y _=>Fast.sEq y x|_=>false) with
  | some e=>some (some e.val)
  | none=>if es.toList.any (·.refKey) then none else some none)
 | _=>none
theorem aDx(v:Value)(x:Str):v.isStr x=(match v with|.str y _=>Fast.sEq y x|_=>false):=by
 cases v with
 | str y t=>
  show(y==x)=Fast.sEq y x
  rw[Bool.eq_iff_iff,beq_iff_eq,Fast.sEq_iff]
 | _=>rfl
theorem iL(h:Heap)(x:Str):nsIn (kR h) mainGlobals x=mX h x:=by
 unfold nsIn mX
 rw[dM]
 simp only[aDx]
 rfl
def pY(h:Heap)(cd:Value):Option Str:=match cd with
 | .ref c=>(match h.get? c with
  | some ⟨_,_,.fields vs,_⟩=>(match vs.toList with|_::.str n _::_=>some n|_=>none)
  | _=>none)
 | _=>none
theorem aBA{h:Heap}{cd:Value}{q:Str}(e:pY h cd=some q):codeIn (kR h) cd q=true:=by
 unfold pY at e
 unfold codeIn
 split at e
 . rename_i c
   simp only[dM]
   split at e
   . rename_i vs _ ho
     rw[ho]
     split at e
     . rename_i a n t r hv
       cases e
       simp only[hv,beq_self_eq_true]
     . cases e
   . cases e
 . cases e
abbrev Pin:=Str×Str×Arguments×FuncBody×Scope×Addr×List (Str×Addr)×Value×Addr×Option Str
def zA(h:Heap)(x:Str):Option Pin:=match mX h x with
 | some (some (.ref a))=>(match h.get? a with
  | some ⟨_,_,.func fd,_⟩=>some (fd.name,fd.qualname,fd.params,fd.body,fd.scope,fd.globals,fd.closure,fd.defaults,fd.builtins,pY h fd.code)
  | _=>none)
 | _=>none
def dH(s:Stmt):Str:=match s with
 | .FunctionDef x _ _ _ _ _ _ _ _ _=>x
 | _=>⟨#[]⟩
def aDy(st:Stmt):Pin:=(dH st,dH st,jO st,.stmts (jP st),cD st,mainGlobals,[],.none,builtinsNs,some (dH st))
theorem aFr{h:Heap}{st:Stmt}(e:zA h (dH st)=some (aDy st)):∃fa fd,nsIn (kR h) mainGlobals (dH st)=some (some (.ref fa))/\Fun (kR h) (dH st) (dH st) st fa fd:=by
 unfold zA at e
 split at e
 . rename_i a hn
   split at e
   . rename_i c d fd sl ho
     obtain⟨n,qn,ps,b,sc,g,cl,df,kd,doc,pm,an,cd,ct,bn⟩:=fd
     unfold aDy at e
     simp only[Option.some.injEq,Prod.mk.injEq] at e
     obtain⟨rfl,rfl,rfl,rfl,rfl,rfl,rfl,rfl,rfl,hc⟩:=e
     refine⟨a,_,by rw[iL];exact hn,⟨⟨c,d,kd,doc,pm,an,cd,ct,sl,rfl,by rw[dM];exact ho,aBA hc⟩,?_⟩⟩
     unfold keepIn
     simp only[dM,ho]
   . cases e
 . cases e
theorem wJ{α:Type}{x:Str}{u:α}:∀{ps:List Str} {us:List α},ps.Nodup->ps.length=us.length->(x,u)∈ps.zip us->(ps.zip us).lookup x=some u
 | [],_,_,_,h=>by simp at h
 | p::ps,[],_,h,_=>by simp at h
 | p::ps,v::us,hn,hl,h=>by
  rw[List.zip_cons_cons] at h ⊢
  obtain⟨h1,h2⟩:=List.nodup_cons.mp hn
  rcases List.mem_cons.mp h with h|h
  . cases h;simp[List.lookup]
  . have hx:x∈ps:=(List.of_mem_zip h).1
    have:(x==p)=false:=beq_eq_false_iff_ne.mpr λz=>h1 (z▸hx)
    simp only[List.lookup,this]
    exact wJ h2 (by simpa using hl) h
theorem aDz{α:Type}(L:List (Str×α)):∀{ps:List Str} {us:List α},ps.length=us.length->(∀p∈ps.zip us,L.lookup p.1=some p.2)->(ps.filterMap λn=>(L.lookup n).map (n,·))=ps.zip us
 | [],_,_,_=>by simp
 | p::ps,[],h,_=>by simp at h
 | p::ps,v::us,hl,h=>by
  rw[List.zip_cons_cons,List.filterMap_cons,h (p,v) (by simp),aDz L (ps:=ps) (us:=us) (by simpa using hl) λq hq=>h q (by rw[List.zip_cons_cons];exact List.mem_cons_of_mem _ hq)]
  rfl
theorem aDA{α:Type}(L:List (Str×α)):∀{ps:List Str} {us:List α},ps.length=us.length->(∀p∈ps.zip us,L.lookup p.1=some p.2)->(ps.filter λn=>(L.lookup n).isNone)=[]
 | [],_,_,_=>by simp
 | p::ps,[],h,_=>by simp at h
 | p::ps,v::us,hl,h=>by
  rw[List.filter_cons,h (p,v) (by simp),aDA L (ps:=ps) (us:=us) (by simpa using hl) λq hq=>h q (by rw[List.zip_cons_cons];exact List.mem_cons_of_mem _ hq)]
  rfl
def jV(a:Arguments)(ps:List Str):Bool:=match a with
 | ⟨[],as,none,[],[],none,[]⟩=>decide (as.map (·.arg)=ps)&&decide ps.Nodup
 | _=>false
theorem pZ{x q:Str}{a:Arguments}{b:List Stmt}{sc:Scope}{kV doc pm:Value}{an:Option Addr}{cdv ct:Value}{ps:List Str}{us:List Value}(h:jV a ps=true)(hl:us.length=ps.length) :
 bindArgs (fnOf x q a b sc .none kV doc pm an cdv ct) ⟨us,[]⟩=pure (ps.zip us):=by
 unfold jV at h
 split at h
 . rename_i as
   obtain⟨h1,h2⟩:=Bool.and_eq_true_iff.mp h
   have h1:=of_decide_eq_true h1
   have h2:=of_decide_eq_true h2
   have z:∀p∈ps.zip us,(ps.zip us).lookup p.1=some p.2:=λp hp=>wJ h2 hl.symm hp
   have e1:=aDA (ps.zip us) hl.symm z
   have e2:=aDz (ps.zip us) hl.symm z
   unfold bindArgs
   have e3:∀s:Value,s=.none->(seqItems? s)=pure none:=λs e=>by subst e;rfl
   simp only[mN,List.nil_append,h1,e3,List.forIn_nil,pure_bind,hl,gt_iff_lt,Nat.lt_irrefl,decide_false,Bool.false_and,Option.getD_none,lN,Nat.zero_sub,List.drop_nil,Nat.sub_zero,List.take_length,e1,List.isEmpty_nil,Bool.not_true,List.drop_length,List.zip_nil_right,List.append_nil,e2,if_false,bF]
 . cases h
def wK(s:Stmt):Bool:=match s with
 | .FunctionDef _ _ _ _ _ _ _ _ _ _=>true
 | _=>false
def aDB:D->Value->Bool
 | .int i,.int j _=>decide (i=j)
 | .str a,.str b _=>Fast.sEq a b
 | .non,.none=>true
 | .bl a,.bool b=>a==b
 | _,_=>false
def zB(h:Heap)(c:Str×D):Bool:=match mX h c.1 with
 | some (some u)=>aDB c.2 u
 | _=>false
def lL:Value->Option Str
 | .str x _=>some x
 | _=>none
abbrev aDC:=Int×Option Str×Option (Value×List (Option Str))
def oC(h:Heap)(e:DictEntry):aDC:=(e.hash,lL e.key,match e.val with
 | .ref b=>(match h.get? b with
  | some ⟨c,_,.seq its _,_⟩=>some (c,its.toList.map lL)
  | _=>none)
 | _=>none)
def tV(h:Heap)(x:Str):Option (Bool×Value×Option Addr×Array (Option Value)×List aDC):=match mX h x with
 | some (some (.ref a))=>(match h.get? a with
  | some ⟨c,d,.dict es _,sl⟩=>some (a==sysModules,c,d,sl,es.toList.map (oC h))
  | _=>none)
 | _=>none
def tW(w:World)(p:Str×List Str):aDC:=(hashStr w p.1,some p.1,some (.type "tuple",p.2.map some))
def zC(w:World)(t:List (Str×List Str)):Option (Bool×Value×Option Addr×Array (Option Value)×List aDC):=some (false,.type "dict",none,#[],t.map (tW w))
def aBB(t:List (Str×List Str)):List (Str×D):=t.map λp=>(p.1,.tup (p.2.map D.str))
theorem aAt:∀{us:List Value} {xs:List Str},us.map lL=xs.map some->bC (xs.map V.str) us
 | [],[],_=>.nil
 | [],_::_,h=>by cases h
 | _::_,[],h=>by cases h
 | u::us,x::xs,h=>by
  rw[mC,mC] at h
  obtain⟨h1,h2⟩:=List.cons.inj h
  refine .cons ?_ (aAt h2)
  unfold lL at h1
  split at h1
  . cases h1;exact⟨_,rfl⟩
  . cases h1
theorem aIi{h:Heap}{w:World}{e:DictEntry}{p:Str×List Str}(q:oC h e=tW w p)(hl:p.2.length<=1000):ER w (kR h) e (p.1,.tup (p.2.map D.str)):=by
 unfold oC tW at q
 simp only[Prod.mk.injEq] at q
 obtain⟨q1,q2,q3⟩:=q
 refine⟨q1,?_,?_⟩
 . unfold lL at q2
   split at q2
   . rename_i y tk he
     exact⟨tk,by rw[he];exact congrArg (λz=>Value.str z tk) (Option.some.inj q2)⟩
   . cases q2
 . split at q3
   . rename_i b he
     split at q3
     . rename_i c d its n sl ho
       have q3:=Option.some.inj q3
       simp only[Prod.mk.injEq] at q3
       obtain⟨e1,e2⟩:=q3
       subst e1
       have hz:=congrArg List.length e2
       rw[lM,lM] at hz
       exact⟨.ref b,by rw[he];rfl,aDu (by rw[dM];exact ho) p.2 (by rw[<-Array.length_toList,hz];exact hl) (aAt e2)⟩
     . cases q3
   . cases q3
theorem sF{h:Heap}{w:World}:∀{es:List DictEntry} {t:List (Str×List Str)},es.map (oC h)=t.map (tW w)->(∀p∈t,p.2.length<=1000)->Paired (ER w (kR h)) es (aBB t)
 | [],[],_,_=>.nil
 | [],_::_,q,_=>by cases q
 | _::_,[],q,_=>by cases q
 | e::es,p::t,q,hl=>by
  rw[mC,mC] at q
  obtain⟨h1,h2⟩:=List.cons.inj q
  exact .cons (aIi h1 (hl p (List.mem_cons_self ..))) (sF h2 λp' hp=>hl p' (List.mem_cons_of_mem _ hp))
def aAu(t:List (Str×List Str)):Bool:=(t.all λp=>decide (p.2.length<=1000))&&decide (t.map (·.1)).Nodup
theorem aDD{prog:Program}{h:Heap}{w:World}{x:Str}{t:List (Str×List Str)}(e:tV h x=zC w t)(ok:aAu t=true):∃a,nsIn (kR h) mainGlobals x=some (some (.ref a))/\rO prog w (kR h) a (aBB t):=by
 unfold aAu at ok
 rw[bA,List.all_eq_true] at ok
 unfold tV zC at e
 split at e
 . rename_i a hn
   split at e
   . rename_i c d es ep sl ho
     have e:=Option.some.inj e
     simp only[Prod.mk.injEq] at e
     obtain⟨e1,rfl,rfl,rfl,e5⟩:=e
     refine⟨a,(iL h x).trans hn,aIf e1 (by rw[dM];exact ho) (sF e5 λp hp=>of_decide_eq_true (ok.1 p hp)) ?_⟩
     unfold aBB
     rw[List.map_map]
     exact of_decide_eq_true ok.2
   . cases e
 . cases e
structure Sn where
 cns:List (Str×D)
 tbs:List (Str×List (Str×List Str))
abbrev aGi:=List (Option Pin)×List (Option (Option Value))×Bool×List (Option (Bool×Value×Option Addr×Array (Option Value)×List aDC))
def jW(p:Program)(n:Sn)(h:Heap):aGi:=
 ((p.main.body.filter wK).map (λst=>zA h (dH st)),bltNames.map (mX h),n.cns.all (zB h),n.tbs.map (λq=>tV h q.1))
def mY(p:Program)(n:Sn)(w:World):aGi:=
 ((p.main.body.filter wK).map (λst=>some (aDy st)),bltNames.map (λ_=>some none),true,n.tbs.map (λq=>zC w q.2))
def wL(p:Program)(i:Nat):Stmt:=p.main.body.getD i (.Pass ⟨0,0,0,0⟩)
def nW(p:Program)(c:Nat×List Str):Tx:=⟨dH (wL p c.1),dH (wL p c.1),wL p c.1,c.2⟩
theorem aIj{p:Program}{i:Nat}(h:wK (wL p i)=true):wL p i∈p.main.body:=by
 unfold wL at h ⊢
 rw[List.getD_eq_getElem?_getD] at h ⊢
 cases e:p.main.body[i]? with
 | none=>rw[e] at h;cases h
 | some s=>exact mG e
theorem aFs{h:Heap}{c:Str×D}(e:zB h c=true):∃u v,nsIn (kR h) mainGlobals c.1=some (some u)/\bQ v u/\∀H ex,Rep (kR h) H ex c.2 v:=by
 unfold zB at e
 split at e
 . rename_i u hn
   obtain⟨x,d⟩:=c
   have e:aDB d u=true:=e
   unfold aDB at e
   split at e
   . cases of_decide_eq_true e;exact⟨_,.int _,(iL _ _).trans hn,⟨_,rfl⟩,λ_ _=>rfl⟩
   . cases Fast.sEq_iff.mp e;exact⟨_,.str _,(iL _ _).trans hn,⟨_,rfl⟩,λ_ _=>rfl⟩
   . exact⟨_,.non,(iL _ _).trans hn,rfl,λ_ _=>rfl⟩
   . cases eq_of_beq e;exact⟨_,.bl _,(iL _ _).trans hn,rfl,λ_ _=>rfl⟩
   . cases e
 . cases e
theorem aIk{prog p:Program}{w:World}{h0 h:Heap}{mg:Str->Option Value}{P:Pg}{Γ:Ct}{ix:List (Nat×List Str)}{n:Sn}(S:jW p n h0=mY p n w)(k:∀b o,h0.get? b=some o->h.get? b=some o)(G:h.Ns mainGlobals mg)
 (hi:(ix.all λc=>wK (wL p c.1))=true) (h1:Γ.fns=(ix.map (nW p)).map (·.x)) (h2:Γ.cns=n.cns) (h3:Γ.tbs=n.tbs.map (·.1)) (h4:P.tabs=n.tbs.map λq=>aBB q.2) (h5:(n.tbs.all λq=>aAu q.2)=true)
 (hb:((P.fns.zip (ix.map (nW p))).all λq=>jV (jO q.2.st) (q.2.N.take q.1.np))=true) (chk:jE Γ P.fns (ix.map (nW p))=true) :
 Top prog w (kR h0) mg P Γ (ix.map (nW p)):=by
 unfold jW mY at S
 simp only[Prod.mk.injEq] at S
 obtain⟨s1,s2,s3,s4⟩:=S
 have X:=aAs k
 exact {
  fn:=λf t ht=>by
   rw[List.getElem?_map] at ht
   obtain⟨c,hc,rfl⟩:=Option.map_eq_some_iff.mp ht
   have hd:=List.all_eq_true.mp hi c (mG hc)
   obtain⟨fa,fd,g1,g2⟩:=aFr (List.map_inj_left.mp s1 _ (List.mem_filter.mpr ⟨aIj hd,hd⟩))
   refine⟨fa,fd,mg_of X G g1,g2,λF hF=>g2.binds λkV doc pm an cdv ct us hl=>pZ (List.all_eq_true.mp hb (F,nW p c) (mG (i:=f) ?_)) hl⟩
   rw[List.getElem?_zip_eq_some]
   exact⟨hF,by rw[List.getElem?_map,hc];rfl⟩
  fns:=λf x hx=>by
   rw[h1,List.getElem?_map] at hx
   obtain⟨t,ht,rfl⟩:=Option.map_eq_some_iff.mp hx
   exact⟨t,ht,rfl⟩
  blt:=λx hx=>mg_none_of X G ((iL h0 x).trans (List.map_inj_left.mp s2 x hx))
  cns:=λx d hx=>by
   rw[h2] at hx
   obtain⟨u,v,g1,g2⟩:=aFs (List.all_eq_true.mp s3 _ (PySem.mem_of_lookup hx))
   exact⟨u,v,mg_of X G g1,g2⟩
  tab:=λi x hx=>by
   rw[h3,List.getElem?_map] at hx
   obtain⟨q,hq,rfl⟩:=Option.map_eq_some_iff.mp hx
   have hm:=mG hq
   obtain⟨a,g1,g2⟩:=aDD (prog:=prog) (List.map_inj_left.mp s4 q hm) (List.all_eq_true.mp h5 q hm)
   exact⟨a,aBB q.2,mg_of X G g1,by rw[h4,List.getElem?_map,hq];rfl,g2⟩
  chk:=chk }
theorem aDE{l:PySem.W.OpenLaw}{n k:Nat}{q:Program}{loose:List Str}{XP:(Str->Option Value)->Heap->Prop}{YP:World->Heap->Prop}{d:DefRec}{sp:PySem.W.Frag->Sp}{x:Str}(hn:l.most=some n)(hn2:n<=sizeLine)(hdf:d.params.defaults=[])(hr:kK k callerA)
 (F:∀(w:World) (mg:Str->Option Value) (fa:Addr) (h:Heap),YP w h->h.Ns mainGlobals mg->mg d.name=some (.ref fa)->∃K:PySem.W.Frag,K.In h/\∃fd:FuncData,(∀(s:Shared) (u:Value),BindsTo s fd ⟨[u],[]⟩ [(x,u)])/\∀base:Heap,K.In base->base.Ns mainGlobals mg->nQ l.prog w K mg base CX0 k fa fd [x] (sp K))
 (hsp:∀(K:PySem.W.Frag) (H:Hp) (a:Addr) (ns:List Int),ns.length<=n->aEQ H->SqL K H a (ns.map V.int)->sp K [.ref a] H (λv _=>v=.bl true) λ_ _ _=>False):PySem.W.WalkO q loose XP YP l.row.toRowW d [] (λf vs=>PySem.call f vs):=by
 refine Att.attach_call hn hdf λw s₀ s₁ mg mb fa o pm cd doc a vs ns G Y ho hd hcd hmg hobj hints hlen hg=>?_
 obtain⟨K,KX,fd,hb,hF⟩:=F w mg fa _ Y G.T.g hmg
 exact aCv KX G.T.g G.T.b G.T.builtins G.T.nolimit hg hobj hints (Nat.le_trans hlen hn2) hr hF hb (λH hO hS=>hsp K H a ns hlen hO hS) λ_ _ _ z=>z
def lst(p:Program):Stmt:=p.main.body.getLastD (.Pass ⟨0,0,0,0⟩)
def sG(p:Program):Program:={ p with main:={ p.main with body:=[lst p] } }
def tX(p:Program):List Str:=(p.main.scope.names.map (·.1)).filter λx=>!(Fast.sEq x (dH (lst p)))
def aIl(s:Stmt):Pos:=match s with
 | .FunctionDef _ _ _ _ _ _ _ _ _ p=>p
 | _=>⟨0,0,0,0⟩
def kT(p:Program):DefRec:=⟨dH (lst p),jO (lst p),jP (lst p),cD (lst p),aIl (lst p)⟩
theorem aIm{l:PySem.W.OpenLaw}{P:Pg}{n:Sn}{ix:List (Nat×List Str)}{k f N:Nat}{x:Str}{sl:List Str}(said:l.row.wellSaid=true)(left:LeftO l.prog (sG l.prog) (tX l.prog) (λ_=>true) (λs=>jW l.prog n s.heap) (λw=>mY l.prog n w) N)
 (hdef:defOf (sG l.prog) l.name=some (kT l.prog,[])) (hp:l.prog.theDef l.name=some ((kT l.prog).params,(kT l.prog).body,(kT l.prog).scope)) (hk:kwWritten? (kT l.prog).params.kwonlyargs (kT l.prog).params.kw_defaults=some []) (hwr:(!l.writes||([]:WRecords).isEmpty)=true)
 (ok:(chainsOk (sG l.prog)&&opensWell l.prog&&(frees l.row.toRowW&&l.row.within.isEmpty))=true) (hb:l.prog.bare) (hw:l.row.toRowW.promised) (hn:l.most=some 63) (hdf:(kT l.prog).params.defaults=[])
 (hi:(ix.all λc=>wK (wL l.prog c.1))=true) (hbd:((P.fns.zip (ix.map (nW l.prog))).all λq=>jV (jO q.2.st) (q.2.N.take q.1.np))=true) (chk:jE ⟨[],[],(ix.map (nW l.prog)).map (·.x),n.cns,[],true,n.tbs.map (·.1)⟩ P.fns (ix.map (nW l.prog))=true)
 (h4:P.tabs=n.tbs.map λq=>aBB q.2) (h5:(n.tbs.all λq=>aAu q.2)=true) (hr:kK (k+1) callerA) (hx:(ix.map (nW l.prog))[f]? = some ⟨dH (lst l.prog),dH (lst l.prog),lst l.prog,x::sl⟩) (hnp:(P.fns[f]?).map (·.np)=some 1)
 (pure:∀ns:List Int,ns.length<=63->∃fr pa,Hp.call P (k+1) f [.lst (ns.map D.int)]=.ok (.bl true,fr,pa)):l.row.Holds:=by
 refine holds_open (XP:=λ_ _=>True) (YP:=λw h=>∃h0,jW l.prog n h0=mY l.prog n w/\∀b o,h0.get? b=some o->h.get? b=some o) left (λw s e=>⟨s.heap,e,λ_ _ z=>z⟩) (λw h h' ⟨h0,e,k⟩ k'=>⟨h0,e,λb o z=>k' b o (k b o z)⟩) (λ_ _=>trivial) (λ_ _ _ _ _=>trivial) hdef hp hk (λ_ _=>recFacts_nil rfl) hwr said ok hb hw ?_
 obtain⟨F,hF,hFn⟩:=Option.map_eq_some_iff.mp hnp
 refine aDE (sp:=λK=>spF K P (k+1) f) (x:=x) hn (by decide) hdf hr (λw mg fa h ⟨h0,e,kk⟩ G hmg=>?_) λK H a ns hl hO hS=>aIe hO hS (pure ns hl)
 have T:=aIk (prog:=l.prog) (w:=w) (P:=P) (Γ:=⟨[],[],(ix.map (nW l.prog)).map (·.x),n.cns,[],true,n.tbs.map (·.1)⟩) e kk G hi rfl rfl rfl h4 h5 hbd chk
 obtain⟨fa',fd,g1,g2,g3⟩:=T.fn f _ hx
 have e:=hmg.symm.trans g1
 cases e
 have b:=g3 F hF
 refine⟨kR h0,aAs kk,fd,λs u=>?_,λbase _ _=>?_⟩
 . obtain⟨oc,od,kV,doc,pm,an,cdv,ct,osl,rfl,lk,hcd⟩:=g2.ex
   refine .of_eq ((pZ (ps:=[x]) ?_ rfl).trans rfl)
   have:=List.all_eq_true.mp hbd (F,_) (mG (i:=f) (List.getElem?_zip_eq_some.mpr ⟨hF,hx⟩))
   rw[hFn] at this
   exact this
 . have:=aId (base:=base) T hx hF g2 k
   rw[hFn] at this
   exact this
end Hh
end
noncomputable section
namespace Hp
open PySem (Str Operator CmpOp)
section
variable {P:Pg} {cl:Caller} {σ:Sg}
@[simp] theorem aA {α β:Type} (a:α) (f:α->R β):((R.ok a:R α) >>= f)=f a:=id rfl
@[simp] theorem wM {α:Type} (x:R α):R.iff true x=x:=id rfl
@[simp] theorem aNg {α:Type} (x:α):R.of (some x)=.ok x:=id rfl
@[simp] theorem bH {α:Type} (a:α) (f:α->O):O.from σ (.ok a) f=f a:=id rfl
@[simp] theorem rD (f:Sg->O):(O.next σ).on f=f σ:=id rfl
@[simp] theorem qB (v:Vl) (f:Sg->O):(O.ret v).on f=.ret v:=id rfl
@[simp] theorem aC (d:D):ev P cl σ (.c d)=.ok (.cl d):=id rfl
@[simp] theorem fW (i:Nat):ev P cl σ (.v i)=bZ σ i:=id rfl
@[simp] theorem wN (o:Operator) (a b:E):ev P cl σ (.op o a b)=(ev P cl σ a >>= λx=>ev P cl σ b >>= λy=>opD o x y):=id rfl
@[simp] theorem aIn (a:E):ev P cl σ (.neg a)=(ev P cl σ a >>= λx=>match x.d with|.int i=>.ok (.cl (.int (-i)))|_=>.bad):=id rfl
@[simp] theorem aKT (a:E):ev P cl σ (.nt a)=(ev P cl σ a >>= λx=>fS x >>= λk=>.ok (.cl (.bl (!k)))):=id rfl
@[simp] theorem aKU (a b:E):ev P cl σ (.an a b)=(ev P cl σ a >>= λx=>match x.d with|.bl true=>ev P cl σ b|.bl false=>.ok (.cl (.bl false))|_=>.bad):=id rfl
@[simp] theorem aIo (a b:E):ev P cl σ (.orr a b)=(ev P cl σ a >>= λx=>match x.d with|.bl true=>.ok (.cl (.bl true))|.bl false=>ev P cl σ b|_=>.bad):=id rfl
@[simp] theorem zD (t a b:E):ev P cl σ (.ife t a b)=(tst P cl σ t >>= λx=>if x then ev P cl σ a else ev P cl σ b):=id rfl
@[simp] theorem aIp (o:CmpOp) (a b:E):ev P cl σ (.cmp o a b)=(ev P cl σ a >>= λx=>ev P cl σ b >>= λy=>match cG o x.d y.d with|some k=>.ok (.cl (.bl k))|none=>.bad):=id rfl
@[simp] theorem aLA (o o':CmpOp) (a b c:E):ev P cl σ (.cmp2 o o' a b c)=(ev P cl σ a >>= λx=>ev P cl σ b >>= λy=>match cG o x.d y.d with
 | some true=>ev P cl σ c >>= λz=>(match cG o' y.d z.d with|some k=>.ok (.cl (.bl k))|none=>.bad)
 | some false=>.ok (.cl (.bl false))
 | none=>.bad):=id rfl
@[simp] theorem iM (a b:E):ev P cl σ (.idx a b)=(ev P cl σ a >>= λx=>ev P cl σ b >>= λy=>eA x y):=id rfl
@[simp] theorem qC (es:Es):ev P cl σ (.tup es)=(evs P cl σ es >>= λvs=>.ok (rN vs)):=id rfl
@[simp] theorem aIq (es:Es):ev P cl σ (.lst es)=(evs P cl σ es >>= λvs=>.ok (oY vs)):=id rfl
@[simp] theorem dB (f:Nat) (es:Es):ev P cl σ (.call f es)=(evs P cl σ es >>= λvs=>cl f (vs.map (·.d)) >>= λr=>.ok (gQ vs r)):=id rfl
@[simp] theorem qD (b:Bi) (es:Es):ev P cl σ (.bi b es)=(evs P cl σ es >>= λvs=>biD b vs):=id rfl
@[simp] theorem aMx (m:Mt) (o:E) (es:Es):ev P cl σ (.mth m o es)=(ev P cl σ o >>= λx=>evs P cl σ es >>= λys=>mtD m x ys):=id rfl
@[simp] theorem aMy (a:E) (cs:List Cl):ev P cl σ (.isi a cs)=(ev P cl σ a >>= λx=>match isI cs P x.d with|some k=>.ok (.cl (.bl k))|none=>.bad):=id rfl
@[simp] theorem aFt (a:E) (h:E):ev P cl σ (.sli a .nil (.cons h .nil))=(ev P cl σ a >>= λx=>ev P cl σ h >>= λh=>match h.d with|.int h=>.iff (aL h) (eG x none (some h))|_=>.bad):=by
 show(ev P cl σ a >>= λx=>evs P cl σ .nil >>= λl=>evs P cl σ (.cons h .nil) >>= λh=>_)=_
 cases ev P cl σ a with
 | ok x=>
  show(evs P cl σ (.cons h .nil) >>= λh=>_)=(ev P cl σ h >>= λh=>_)
  show((ev P cl σ h >>= λx=>evs P cl σ .nil >>= λxs=>R.ok (x::xs)) >>= λh=>_)=_
  cases ev P cl σ h <;> rfl
 | exc e=>rfl
 | bad=>rfl
theorem oD(k:Nat)(caps:List Nat)(t:T)(it:It)(cond:Es)(elt:E):ev P cl σ (.comp k caps t it cond elt)=(walk P cl σ it >>= λxs=>
 eO (λx=>cH (List.replicate k .dead++caps.map λi=>((freeze σ xs.2)[i]?).getD .dead) x t >>= λσ1=>tsts P cl σ1 cond >>= λk=>if k then (ev P cl σ1 elt >>= λy=>.ok (some y)) else .ok none) xs.1 >>= λvs=>
 .iff (decide (vs.length<=lim)) (.ok (fK k caps xs.2 vs))):=rfl
@[simp] theorem aIO (a:E):ev P cl σ (.numset a)=(ev P cl σ a >>= λx=>match x.d with
 | .lst ds=>(match fT ds with|some ks=>.iff (decide (ds.length<=1000)) (.ok (.cl (.int (oX ks).length)))|none=>.bad)
 | _=>.bad):=id rfl
@[simp] theorem bG:evs P cl σ .nil=.ok []:=id rfl
@[simp] theorem aG (e:E) (es:Es):evs P cl σ (.cons e es)=(ev P cl σ e >>= λx=>evs P cl σ es >>= λxs=>.ok (x::xs)):=id rfl
@[simp] theorem kU (a:E):tst P cl σ (.nt a)=(tst P cl σ a >>= λx=>.ok (!x)):=id rfl
@[simp] theorem zF (a b:E):tst P cl σ (.an a b)=(tst P cl σ a >>= λx=>if x then tst P cl σ b else .ok false):=id rfl
@[simp] theorem fM (a b:E):tst P cl σ (.orr a b)=(tst P cl σ a >>= λx=>if x then .ok true else tst P cl σ b):=id rfl
@[simp] theorem aNe (d:D):tst P cl σ (.c d)=fS (.cl d):=id rfl
@[simp] theorem aGj (i:Nat):tst P cl σ (.v i)=(bZ σ i >>= λx=>fS x):=id rfl
@[simp] theorem dC (o:CmpOp) (a b:E):tst P cl σ (.cmp o a b)=(ev P cl σ a >>= λx=>ev P cl σ b >>= λy=>match cG o x.d y.d with|some k=>.ok k|none=>.bad):=id rfl
@[simp] theorem qF (o o':CmpOp) (a b c:E):tst P cl σ (.cmp2 o o' a b c)=(ev P cl σ a >>= λx=>ev P cl σ b >>= λy=>match cG o x.d y.d with
 | some true=>ev P cl σ c >>= λz=>(match cG o' y.d z.d with|some k=>.ok k|none=>.bad)
 | some false=>.ok false
 | none=>.bad):=id rfl
@[simp] theorem gR (f:Nat) (es:Es):tst P cl σ (.call f es)=(evs P cl σ es >>= λvs=>cl f (vs.map (·.d)) >>= λr=>fS (gQ vs r)):=id rfl
@[simp] theorem aAv (a:E) (cs:List Cl):tst P cl σ (.isi a cs)=(ev P cl σ a >>= λx=>match isI cs P x.d with|some k=>.ok k|none=>.bad):=id rfl
@[simp] theorem aLB (a b:E):tst P cl σ (.idx a b)=(ev P cl σ a >>= λx=>ev P cl σ b >>= λy=>eA x y >>= λz=>fS z):=id rfl
@[simp] theorem aDF:tsts P cl σ .nil=.ok true:=id rfl
@[simp] theorem sH (e:E) (es:Es):tsts P cl σ (.cons e es)=(tst P cl σ e >>= λx=>if x then tsts P cl σ es else .ok false):=id rfl
@[simp] theorem aDG (a b:E):walk P cl σ (.rng a b)=(ev P cl σ a >>= λx=>ev P cl σ b >>= λy=>match x.d,y.d with|.int i,.int j=>.iff (aL i&&aL j) (.ok ((iE i j).map .cl,[]))|_,_=>.bad):=id rfl
@[simp] theorem bM (e:E):walk P cl σ (.seq e)=(ev P cl σ e >>= λx=>match x.d with
 | .lst ds=>.ok (items x ds,x.al)
 | .tup ds=>.ok (items x ds,x.al)
 | .str a=>.iff (decide (a.length<=lim)) (.ok (a.cps.toList.map λn=>.cl (.str ⟨#[n]⟩),[]))
 | _=>.bad):=id rfl
@[simp] theorem jF (a b:E):walk P cl σ (.zip a b)=(ev P cl σ a >>= λx=>ev P cl σ b >>= λy=>match iU x.d,iU y.d with
 | some as,some bs=>.ok (items ⟨.non,false,x.pa||y.pa,x.al++y.al⟩ (eX as bs),x.al++y.al)
 | _,_=>.bad):=id rfl
@[simp] theorem fA (t:T) (e:E):ex P cl σ (.set t e)=O.from σ (ev P cl σ e) λv=>O.from σ (cH (freeze σ v.al) v t) .next:=id rfl
@[simp] theorem aIr (i:Nat) (e:E):ex P cl σ (.app i e)=O.from σ (ev P cl σ e) λv=>put σ i v λds=>some (ds++[v.d]):=id rfl
@[simp] theorem aDH (i:Nat) (e:E):ex P cl σ (.ext i e)=O.from σ (ev P cl σ e) λv=>match pA v with|some (v',ds')=>put σ i v' λds=>some (ds++ds')|none=>.bad:=id rfl
@[simp] theorem aMz (i:Nat):ex P cl σ (.clr i)=put σ i (.cl .non) λ_=>some []:=id rfl
@[simp] theorem aDI (i:Nat) (k e:E):ex P cl σ (.setIx i k e)=O.from σ (ev P cl σ e) λv=>O.from σ (ev P cl σ k) λkv=>match kv.d with
 | .int k=>put σ i v λds=>(match ixN ds.length k with|some j=>some (ds.set j v.d)|none=>none)
 | _=>.bad:=id rfl
@[simp] theorem tY (e:E):ex P cl σ (.ret e)=O.from σ (ev P cl σ e) .ret:=id rfl
@[simp] theorem eQ (c:E) (a b:Ss):ex P cl σ (.iff c a b)=O.from σ (tst P cl σ c) λk=>if k then exs P cl σ a else exs P cl σ b:=id rfl
theorem jG(t:T)(it:It)(b:Ss):ex P cl σ (.for t it b)=O.from σ (walk P cl σ it) λxs=>eB (λσ x=>O.from σ (cH σ x t) λσ'=>exs P cl σ' b) xs.1 (freeze σ xs.2):=rfl
@[simp] theorem aMA (i j:Nat):ex P cl σ (.mov i j)=(match σ[j]? with
 | some (.own pa ds)=>if i=j then .bad else .next ((σ.set j .dead).set i (.own pa ds))
 | some (.sh pa d)=>.next (σ.set i (.sh (pa&&!noL d) d))
 | _=>.bad):=id rfl
@[simp] theorem oE (i:Nat):ex P cl σ (.retv i)=(match σ[i]? with|some (.own pa ds)=>.ret ⟨.lst ds,true,pa,[]⟩|_=>O.from σ (bZ σ i) .ret):=id rfl
@[simp] theorem aKV (i:Nat) (k:E):ex P cl σ (.pop none i (some k))=O.from σ (ev P cl σ k >>= λv=>match v.d with|.int k=>.iff (aL k) (.ok (some k))|_=>.bad) λk=>O.from σ (aCz σ i k) λr=>.next r.2:=id rfl
@[simp] theorem eR:exs P cl σ .nil=.next σ:=id rfl
@[simp] theorem cB (s:S) (ss:Ss):exs P cl σ (.cons s ss)=(ex P cl σ s).on λσ'=>exs P cl σ' ss:=id rfl
end
theorem aH{P:Pg}{cl:Caller}{f:Nat}{F:Fn}{ds:List D}(hF:P.fns[f]? = some F)(hl:ds.length=F.np){v:Vl}
 (h:exs P cl ((ds.map λd=>Sl.sh true d)++List.replicate (F.ns-F.np) Sl.dead) F.body=.ret v):tG P cl f ds=.ok (v.d,v.fr,v.pa):=by
 unfold tG
 rw[hF]
 simp only[hl,if_true,h]
theorem wP{f:Sg->Vl->O}:∀(xs:List Vl) (I:Nat->Sg->Prop) (σ:Sg),I 0 σ->(∀(i:Nat) (h:i<xs.length) (σ:Sg),I i σ->∃σ',f σ xs[i]=.next σ'/\I (i+1) σ')->∃σ',eB f xs σ=.next σ'/\I xs.length σ'
 | [],I,σ,h0,_=>⟨σ,rfl,h0⟩
 | x::xs,I,σ,h0,hs=>by
  obtain⟨σ1,e1,h1⟩:=hs 0 (by simp) σ h0
  obtain⟨σ2,e2,h2⟩:=wP xs (λi=>I (i+1)) σ1 h1 λi h σ hI=>by
   have:=hs (i+1) (by simpa using h) σ hI
   simpa using this
  refine⟨σ2,?_,by simpa using h2⟩
  have e1:f σ x=.next σ1:=by simpa using e1
  unfold eB
  rw[e1]
  exact e2
theorem qG{f:Vl->R (Option Vl)}{g:Vl->Vl}:∀{xs:List Vl},(∀x∈xs,f x=.ok (some (g x)))->eO f xs=.ok (xs.map g)
 | [],_=>rfl
 | x::xs,h=>by
  have h1:=h x List.mem_cons_self
  have h2:=qG (f:=f) (g:=g) (xs:=xs) λy hy=>h y (List.mem_cons_of_mem _ hy)
  show(f x >>= λy=>eO f xs >>= λys=>(match y with|some y=>R.ok (y::ys)|none=>R.ok ys))=_
  rw[h1,h2]
  rfl
theorem aIs(n:Nat):(iE 0 (n:Int)).map Vl.cl=(List.range n).map λ(k:Nat)=>Vl.cl (.int (k:Int)):=by
 unfold iE
 rw[List.map_map]
 simp
theorem lO{P:Pg}{cl:Caller}{σ:Sg}{k:Nat}{caps:List Nat}{t:T}{it:It}{elt:E}{xs:List Vl}{al:List Nat}(g:Vl->Vl)(hw:walk P cl σ it=.ok (xs,al))(hl:xs.length<=lim)
 (hb:∀x∈xs,∃σ1,cH (List.replicate k .dead++caps.map λi=>((freeze σ al)[i]?).getD .dead) x t=.ok σ1/\ev P cl σ1 elt=.ok (g x)):ev P cl σ (.comp k caps t it .nil elt)=.ok (fK k caps al (xs.map g)):=by
 rw[oD,hw,aA,qG (g:=g) λx hx=>by
  obtain⟨σ1,e1,e2⟩:=hb x hx
  show(cH _ x t >>= λσ1=>_)=_
  rw[e1]
  show(ev P cl σ1 elt >>= λy=>R.ok (some y))=_
  rw[e2]
  rfl]
 have hl2:decide ((xs.map g).length<=lim)=true:=decide_eq_true (by rw[lM];exact hl)
 rw[aA,hl2,wM]
theorem cI{P:Pg}{cl:Caller}{σ:Sg}{t:T}{it:It}{b:Ss}{xs:List Vl}{al:List Nat}(I:Nat->Sg->Prop)(hw:walk P cl σ it=.ok (xs,al))(h0:I 0 (freeze σ al))
 (hs:∀(i:Nat) (h:i<xs.length) (σ:Sg),I i σ->∃σ1 σ',cH σ xs[i] t=.ok σ1/\exs P cl σ1 b=.next σ'/\I (i+1) σ'):∃σ',ex P cl σ (.for t it b)=.next σ'/\I xs.length σ':=by
 rw[jG,hw]
 refine wP xs I _ h0 λi h σ hI=>?_
 obtain⟨σ1,σ',e1,e2,h'⟩:=hs i h σ hI
 refine⟨σ',?_,h'⟩
 show O.from σ (cH σ xs[i] t) _=_
 rw[e1]
 exact e2
theorem aFu:aL 0=true:=by decide
theorem lP{n:Nat}(hn:n<=1000000):aL (n:Int)=true:=by
 unfold aL
 rw[bA,decide_eq_true_eq,decide_eq_true_eq]
 exact⟨Int.le_trans (b:=0) (by decide) (Int.natCast_nonneg n),Int.lt_of_le_of_lt (b:=1000000) (by omega) (by decide)⟩
theorem bX{P:Pg}{cl:Caller}{σ:Sg}{a:E}{v:Vl}{n:Nat}(h:ev P cl σ a=.ok v)(hd:v.d=.int n)(hn:n<=1000000):walk P cl σ (.rng (.c (.int 0)) a)=.ok ((List.range n).map λ(k:Nat)=>Vl.cl (.int (k:Int)),[]):=by
 rw[aDG,h,aC,aA,aA,hd,<-aIs]
 show R.iff (aL 0&&aL (n:Int)) _=_
 rw[aFu,lP hn]
 rfl
theorem sJ{k:Nat}{caps al:List Nat}{vs:List Vl}(h:noLs (vs.map (·.d))=true):fK k caps al vs=⟨.lst (vs.map (·.d)),true,false,[]⟩:=by
 unfold fK
 rw[if_pos h]
end Hp
end
noncomputable section
namespace HpS
open Hp PySem
def box(b:Str×Int):D:=.tup [.str b.1,.int b.2]
def aB(bs:List (Str×Int)):List D:=bs.map box
def aM(is:List Int):D:=.tup (is.map D.int)
structure aFv (bs:List (Str×Int)):Prop where
 few:bs.length<=5
 one:∀b∈bs,1<=b.2/\b.2<=7
 room:(bs.map λb=>b.2+1).foldl (·*·) 1<=24
def iN(bs:List (Str×Int)):Int:=(bs.map λb=>b.2+1).foldl (·*·) 1
theorem jH:∀is:List Int,noLs (is.map D.int)=true
 | []=>rfl
 | i::is=>by simp[noLs,noL,jH is]
@[simp] theorem aS (is:List Int):noL (aM is)=true:=by simp[aM,noL,jH]
@[simp] theorem lQ (b:Str×Int):noL (box b)=true:=by simp[box,noL,noLs]
theorem jI:∀ss:List (List Int),noLs (ss.map aM)=true
 | []=>rfl
 | s::ss=>by simp[noLs,jI ss]
theorem wQ{v:Vl}(bs:List (Str×Int)):items v (aB bs)=bs.map λb=>Vl.cl (box b):=by
 simp[items,aB,Vl.sub,Function.comp_def]
theorem tZ:∀(xs:List Int) (a:Int),1<=a->(∀x∈xs,1<=x)->a<=xs.foldl (·*·) a
 | [],a,_,_=>Int.le_refl _
 | x::xs,a,ha,h=>by
  have hx:=h x List.mem_cons_self
  have h1:a<=a*x:=by
   have:=Int.mul_le_mul_of_nonneg_left hx (show 0<=a by omega)
   omega
  exact Int.le_trans h1 (tZ xs (a*x) (by omega) λy hy=>h y (List.mem_cons_of_mem _ hy))
theorem uA(bs:List (Str×Int))(h:∀b∈bs,1<=b.2)(i:Nat):1<=iN (bs.take i)/\iN (bs.take i)<=iN bs:=by
 have pos:∀(l:List (Str×Int)),(∀b∈l,1<=b.2)->∀x∈l.map (λb=>b.2+1),1<=x:=λl hl x hx=>by
  obtain⟨b,hb,rfl⟩:=List.mem_map.mp hx
  have:=hl b hb
  omega
 have e:bs=bs.take i++bs.drop i:=(List.take_append_drop i bs).symm
 have h1:1<=iN (bs.take i):=tZ _ 1 (by omega) (pos _ λb hb=>h b (List.mem_of_mem_take hb))
 refine⟨h1,?_⟩
 have:iN bs=((bs.drop i).map λb=>b.2+1).foldl (·*·) (iN (bs.take i)):=by
  unfold iN
  conv=>lhs;rw[e,List.map_append,List.foldl_append]
 rw[this]
 exact tZ _ _ h1 (pos _ λb hb=>h b (List.mem_of_mem_drop hb))
theorem aBC{bs:List (Str×Int)}{i:Nat}(h:i<bs.length):iN (bs.take (i+1))=iN (bs.take i)*(bs[i].2+1):=by
 rw[List.take_succ_eq_append_getElem h]
 unfold iN
 rw[List.map_append,List.foldl_append]
 rfl
def uB:Fn:=⟨1,6,
 (.cons (.set (.n 1) (.lst (.cons (.tup .nil) .nil)))
 (.cons (.for (.t [2,3]) (.seq (.v 0))
  (.cons (.set (.n 4) (.lst .nil))
  (.cons (.for (.n 5) (.seq (.v 1))
   (.cons (.ext 4 (.comp 1 [5] (.n 0) (.rng (.c (.int 0)) (.op .Add (.v 3) (.c (.int 1)))) .nil (.op .Add (.v 1) (.tup (.cons (.v 0) .nil)))))
   .nil))
  (.cons (.mov 1 4)
  .nil))))
 (.cons (.retv 1)
 .nil)))⟩
def dY(b:List Int)(top:Int):List (List Int):=(List.range (top+1).toNat).map λ(h:Nat)=>b++[(h:Int)]
def jJ(found:List (List Int))(top:Int):List (List Int):=found.flatMap λb=>dY b top
def standsL(bs:List (Str×Int)):List (List Int):=bs.foldl (λfound b=>jJ found b.2) [[]]
theorem fN{bs:List (Str×Int)}{i:Nat}(h:i<bs.length):standsL (bs.take (i+1))=jJ (standsL (bs.take i)) bs[i].2:=by
 rw[List.take_succ_eq_append_getElem h]
 unfold standsL
 rw[List.foldl_append]
 rfl
theorem zG(found:List (List Int))(top:Int):(jJ found top).length=found.length*(top+1).toNat:=by
 induction found with
 | nil=>simp[jJ]
 | cons b r ih=>
  unfold jJ at ih ⊢
  rw[List.flatMap_cons,lA,ih,lC,Nat.succ_mul]
  simp[dY]
  omega
theorem zH{bs:List (Str×Int)}(h:aFv bs):∀i,i<=bs.length->((standsL (bs.take i)).length:Int)=iN (bs.take i)/\∀s∈standsL (bs.take i),s.length=i
 | 0,_=>by simp[standsL,iN]
 | i+1,hi=>by
  have hi':i<bs.length:=by omega
  obtain⟨h1,h2⟩:=zH h i (by omega)
  obtain⟨g2,g3⟩:=h.one bs[i] (List.getElem_mem hi')
  rw[fN hi',aBC hi',zG]
  refine⟨?_,λs hs=>?_⟩
  . rw[Int.natCast_mul,h1,Int.toNat_of_nonneg (by omega)]
  . obtain⟨b,hb,hs⟩:=List.mem_flatMap.mp hs
    obtain⟨k,_,rfl⟩:=List.mem_map.mp hs
    rw[lA,h2 b hb];rfl
theorem aGk{bs:List (Str×Int)}(h:aFv bs)(i:Nat)(hi:i<=bs.length):(standsL (bs.take i)).length<=24:=by
 have h1:=(zH h i hi).1
 have h2:=(uA bs (λb hb=>(h.one b hb).1) i).2
 have h3:iN bs<=24:=h.room
 omega
theorem nO{found:List (List Int)}{top:Int}{j:Nat}(h:j<found.length):(found.take (j+1)).flatMap (λb=>dY b top)=(found.take j).flatMap (λb=>dY b top)++dY found[j] top:=by
 rw[List.take_succ_eq_append_getElem h,List.flatMap_append]
 simp
theorem oF{found:List (List Int)}{top:Int}(j:Nat):((found.take j).flatMap λb=>dY b top).length<=(jJ found top).length:=by
 have e:found=found.take j++found.drop j:=(List.take_append_drop j found).symm
 unfold jJ
 conv=>rhs;rw[e,List.flatMap_append,lA]
 omega
theorem uC{v:Vl}(ss:List (List Int)):items v (ss.map aM)=ss.map λs=>Vl.cl (aM s):=by
 simp[items,Vl.sub,Function.comp_def]
theorem aDJ{P:Pg}(n:Nat){s0 s1 s2 s4:Sl}{b:List Int}{top:Int}(ht:1<=top)(ht7:top<=7)(hb:b.length<=10) :
 ev P (call P n) [s0,s1,s2,.sh false (.int top),s4,.sh false (aM b)] (.comp 1 [5] (.n 0) (.rng (.c (.int 0)) (.op .Add (.v 3) (.c (.int 1)))) .nil (.op .Add (.v 1) (.tup (.cons (.v 0) .nil))))=.ok ⟨.lst ((dY b top).map aM),true,false,[]⟩:=by
 have hw:walk P (call P n) [s0,s1,s2,.sh false (.int top),s4,.sh false (aM b)] (.rng (.c (.int 0)) (.op .Add (.v 3) (.c (.int 1))))=.ok ((List.range (top+1).toNat).map λ(k:Nat)=>Vl.cl (.int (k:Int)),[]):=by
  refine bX (v:=.cl (.int (top+1))) ?_ ?_ (by omega)
  . simp[bZ,Sl.val,opD,Vl.cl,noL]
  . show D.int (top+1)=D.int ((top+1).toNat:Int)
    rw[Int.toNat_of_nonneg (by omega)]
 rw[lO (λv=>match v.d with|.int k=>.cl (aM (b++[k]))|_=>.cl .non) hw]
 . have e:(((List.range (top+1).toNat).map λ(k:Nat)=>Vl.cl (.int (k:Int))).map λv=>(match v.d with|.int k=>Vl.cl (aM (b++[k]))|_=>Vl.cl .non)).map (·.d)=(dY b top).map aM:=by
    simp[dY,Vl.cl,Function.comp_def]
   rw[sJ (by rw[e];exact jI _),e]
 . simp only[lM,List.length_range];unfold lim;omega
 . intro y hy
   obtain⟨k,hk,rfl⟩:=List.mem_map.mp hy
   have hl:b.length+1<=lim:=by unfold lim;omega
   refine⟨[.sh false (.int k),.sh false (aM b)],?_,?_⟩
   . simp[cH,Vl.cl,Vl.slot,freeze]
   . simp[bZ,Sl.val,Vl.cl,opD,rN,dS,bT,aM,noL,hl,jH]
theorem aBD{P:Pg}{f:Nat}(hF:P.fns[f]? = some uB)(n:Nat){bs:List (Str×Int)}(h:aFv bs):call P (n+1) f [.lst (aB bs)]=.ok (.lst ((standsL bs).map aM),true,false):=by
 obtain⟨σ',e,hI⟩:=cI (P:=P) (cl:=call P n) (σ:=[.sh true (.lst (aB bs)),.own false [.tup []],.dead,.dead,.dead,.dead]) (t:=.t [2,3]) (it:=.seq (.v 0))
  (b:=.cons (.set (.n 4) (.lst .nil)) (.cons (.for (.n 5) (.seq (.v 1)) (.cons (.ext 4 (.comp 1 [5] (.n 0) (.rng (.c (.int 0)) (.op .Add (.v 3) (.c (.int 1)))) .nil (.op .Add (.v 1) (.tup (.cons (.v 0) .nil))))) .nil)) (.cons (.mov 1 4) .nil)))
  (xs:=bs.map λb=>Vl.cl (box b)) (al:=[])
  (λi σ=>∃s2 s3 s4 s5,σ=[.sh true (.lst (aB bs)),.own false ((standsL (bs.take i)).map aM),s2,s3,s4,s5])
  (by simp[bZ,Sl.val,wQ]) ⟨_,_,_,_,rfl⟩ (λi hi σ hσ=>by
   obtain⟨s2,s3,s4,s5,rfl⟩:=hσ
   have hi':i<bs.length:=by simpa using hi
   obtain⟨g2,g3⟩:=h.one bs[i] (List.getElem_mem hi')
   have hl24:=aGk h (i+1) hi'
   rw[fN hi'] at hl24
   obtain⟨_,hlen⟩:=zH h i (by omega)
   have hfew:=h.few
   obtain⟨σ2,e2,hJ⟩:=cI (P:=P) (cl:=call P n) (σ:=[.sh true (.lst (aB bs)),.own false ((standsL (bs.take i)).map aM),.sh false (.str bs[i].1),.sh false (.int bs[i].2),.own false [],s5]) (t:=.n 5) (it:=.seq (.v 1))
    (b:=.cons (.ext 4 (.comp 1 [5] (.n 0) (.rng (.c (.int 0)) (.op .Add (.v 3) (.c (.int 1)))) .nil (.op .Add (.v 1) (.tup (.cons (.v 0) .nil))))) .nil)
    (xs:=(standsL (bs.take i)).map λs=>Vl.cl (aM s)) (al:=[1])
    (λj σ=>∃s5,σ=[.sh true (.lst (aB bs)),.sh false (.lst ((standsL (bs.take i)).map aM)),.sh false (.str bs[i].1),.sh false (.int bs[i].2),.own false ((((standsL (bs.take i)).take j).flatMap λb=>dY b bs[i].2).map aM),s5])
    (by simp[bZ,Sl.val,uC]) ⟨_,by simp[freeze,Sl.freeze];rfl⟩ (λj hj σ hσ=>by
     obtain⟨s5,rfl⟩:=hσ
     have hj':j<(standsL (bs.take i)).length:=by simpa using hj
     have hb:(standsL (bs.take i))[j].length<=10:=by rw[hlen _ (List.getElem_mem hj')];omega
     have hc:=aDJ (P:=P) n (s0:=.sh true (.lst (aB bs))) (s1:=.sh false (.lst ((standsL (bs.take i)).map aM))) (s2:=.sh false (.str bs[i].1)) (s4:=.own false ((((standsL (bs.take i)).take j).flatMap λb=>dY b bs[i].2).map aM)) (b:=(standsL (bs.take i))[j]) g2 g3 hb
     have hle:=oF (found:=standsL (bs.take i)) (top:=bs[i].2) (j+1)
     rw[nO hj',lA] at hle
     have hlim:((((standsL (bs.take i)).take j).flatMap λb=>dY b bs[i].2).map aM++(dY (standsL (bs.take i))[j] bs[i].2).map aM).length<=lim:=by
      rw[lA,lM,lM];unfold lim;omega
     refine⟨[.sh true (.lst (aB bs)),.sh false (.lst ((standsL (bs.take i)).map aM)),.sh false (.str bs[i].1),.sh false (.int bs[i].2),.own false ((((standsL (bs.take i)).take j).flatMap λb=>dY b bs[i].2).map aM),.sh false (aM (standsL (bs.take i))[j])],
      [.sh true (.lst (aB bs)),.sh false (.lst ((standsL (bs.take i)).map aM)),.sh false (.str bs[i].1),.sh false (.int bs[i].2),.own false ((((standsL (bs.take i)).take (j+1)).flatMap λb=>dY b bs[i].2).map aM),.sh false (aM (standsL (bs.take i))[j])],?_,?_,⟨_,rfl⟩⟩
     . simp[cH,Vl.cl,Vl.slot]
     . rw[cB,aDH,hc,bH]
       show(match pA ⟨.lst ((dY (standsL (bs.take i))[j] bs[i].2).map aM),true,false,[]⟩ with|some (v',ds')=>put _ 4 v' λds=>some (ds++ds')|none=>.bad).on _=_
       simp only[pA,jI,if_true]
       unfold put
       simp only[freeze,lE,gS,gZ]
       rw[if_pos hlim]
       simp[nO hj'])
   obtain⟨s5',rfl⟩:=hJ
   refine⟨[.sh true (.lst (aB bs)),.own false ((standsL (bs.take i)).map aM),.sh false (.str bs[i].1),.sh false (.int bs[i].2),s4,s5],[.sh true (.lst (aB bs)),.own false ((standsL (bs.take (i+1))).map aM),.sh false (.str bs[i].1),.sh false (.int bs[i].2),.dead,s5'],?_,?_,⟨_,_,_,_,rfl⟩⟩
   . simp[cH,box,Vl.cl,Vl.sub,noL,Vl.slot]
   . have et:(standsL (bs.take i)).take ((standsL (bs.take i)).map λs=>Vl.cl (aM s)).length=standsL (bs.take i):=by simp
     rw[et] at e2
     simp[oY,dS,bT,cH,freeze,Vl.slot,e2,fN hi',jJ])
 obtain⟨s2,s3,s4,s5,rfl⟩:=hI
 have et:bs.take (bs.map λb=>Vl.cl (box b)).length=bs:=by simp
 rw[et] at e
 refine aH (F:=uB) hF rfl (v:=⟨.lst ((standsL bs).map aM),true,false,[]⟩) ?_
 simp[uB,oY,rN,dS,bT,cH,freeze,Vl.slot,e]
end HpS
end
noncomputable section
namespace Hp
open PySem (Str)
@[simp] theorem aLC (d:D):(⟨d,false,false,[]⟩:Vl)=.cl d:=id rfl
@[simp] theorem dE (d:D):(Vl.cl d).d=d:=id rfl
@[simp] theorem aNf (d:D):(Vl.cl d).fr=false:=id rfl
@[simp] theorem wR (d:D):(Vl.cl d).pa=false:=id rfl
@[simp] theorem gG (d:D):(Vl.cl d).al=[]:=id rfl
@[simp] theorem eF (d:D):(Vl.cl d).slot=.sh false d:=by cases d <;> rfl
@[simp] theorem aFw (ds:List D) (pa:Bool) (al:List Nat):(⟨.lst ds,true,pa,al⟩:Vl).slot=.own pa ds:=id rfl
@[simp] theorem bU (i:Nat) (d:D):Sl.val i (.sh false d)=.ok (.cl d):=id rfl
@[simp] theorem oG (i:Nat) (pa:Bool) (k:Int):Sl.val i (.sh pa (.int k))=.ok (.cl (.int k)):=by cases pa <;> rfl
@[simp] theorem oH (i:Nat) (pa:Bool) (k:Str):Sl.val i (.sh pa (.str k))=.ok (.cl (.str k)):=by cases pa <;> rfl
@[simp] theorem mZ (i:Nat) (pa:Bool) (k:Bool):Sl.val i (.sh pa (.bl k))=.ok (.cl (.bl k)):=by cases pa <;> rfl
@[simp] theorem aLD (i:Nat) (pa:Bool):Sl.val i (.sh pa .non)=.ok (.cl .non):=by cases pa <;> rfl
@[simp] theorem oI (i:Nat) (ds:List D):Sl.val i (.sh true (.lst ds))=.ok ⟨.lst ds,false,true,[]⟩:=id rfl
theorem dI(i:Nat)(pa:Bool){d:D}(h:noL d=true):Sl.val i (.sh pa d)=.ok (.cl d):=by unfold Sl.val;simp[h]
@[simp] theorem aAw (i:Nat) (pa:Bool) (ds:List D):Sl.val i (.own pa ds)=.ok ⟨.lst ds,false,pa,[i]⟩:=id rfl
@[simp] theorem kC (σ:Sg) (v:Vl) (i:Nat):cH σ v (.n i)=.ok (σ.set i v.slot):=id rfl
@[simp] theorem cO (σ:Sg):freeze σ []=σ:=id rfl
@[simp] theorem uD (b:Bool):fS (.cl (.bl b))=.ok b:=id rfl
@[simp] theorem kW (args:List Vl) (d:D):gQ args (d,false,false)=.cl d:=id rfl
@[simp] theorem aMB (args:List Vl) (d:D):gQ args (d,true,false)=⟨d,true,false,[]⟩:=id rfl
@[simp] theorem fH (a b:D):cG .Eq a b=eqD a b:=id rfl
@[simp] theorem qH (a b:D):cG .NotEq a b=(eqD a b).map (!·):=id rfl
@[simp] theorem aMC (a b:Int):cG .Lt (.int a) (.int b)=some (decide (a<b)):=id rfl
@[simp] theorem aMD (a b:Int):cG .Gt (.int a) (.int b)=some (decide (b<a)):=id rfl
@[simp] theorem aDK (a b:Int):cG .LtE (.int a) (.int b)=some (decide (a<=b)):=id rfl
@[simp] theorem aME (a b:Int):cG .GtE (.int a) (.int b)=some (decide (b<=a)):=id rfl
@[simp] theorem gH (a b:Int):eqD (.int a) (.int b)=some (a==b):=id rfl
@[simp] theorem gI (a b:Str):eqD (.str a) (.str b)=some (a==b):=id rfl
@[simp] theorem aIt (a b:Bool):eqD (.bl a) (.bl b)=some (a==b):=id rfl
@[simp] theorem aLE (P:Pg) (k:Int):isI [.tInt] P (.int k)=some true:=id rfl
@[simp] theorem aKW (P:Pg) (k:Int):isI [.tBool] P (.int k)=some false:=id rfl
@[simp] theorem aAx (P:Pg) (k:Str):isI [.tStr] P (.str k)=some true:=id rfl
@[simp] theorem aAy (P:Pg) (k:List D):isI [.tTuple] P (.tup k)=some true:=id rfl
@[simp] theorem aLF (P:Pg) (k:List D):isI [.tList] P (.lst k)=some true:=id rfl
@[simp] theorem aMF (P:Pg) (k:Bool):isI [.tBool] P (.bl k)=some true:=id rfl
@[simp] theorem add_int (i j:Int):opD .Add (.cl (.int i)) (.cl (.int j))=.ok (.cl (.int (i+j))):=id rfl
@[simp] theorem sub_int (i j:Int):opD .Sub (.cl (.int i)) (.cl (.int j))=.ok (.cl (.int (i-j))):=id rfl
theorem mul_int{i j:Int}(h:gP i j=true):opD .Mult (.cl (.int i)) (.cl (.int j))=.ok (.cl (.int (i*j))):=by
 show R.iff (gP i j) _=_
 rw[h];rfl
theorem oJ{i j:Int}(h:vG j=true):opD .FloorDiv (.cl (.int i)) (.cl (.int j))=.ok (.cl (.int (i / j))):=by
 show R.iff (vG j) _=_
 rw[h];rfl
theorem aAz{i j:Int}(h:0<j):opD .Mod (.cl (.int i)) (.cl (.int j))=.ok (.cl (.int (i % j))):=by
 show R.iff (decide (0<j)) _=_
 rw[decide_eq_true h];rfl
@[simp] theorem lR (ds:List D) (fr pa:Bool) (al:List Nat):biD .len [⟨.lst ds,fr,pa,al⟩]=.ok (.cl (.int ds.length)):=id rfl
@[simp] theorem gJ (ds:List D):biD .len [.cl (.tup ds)]=.ok (.cl (.int ds.length)):=id rfl
@[simp] theorem aKX (ds:List D):biD .len [.cl (.lst ds)]=.ok (.cl (.int ds.length)):=id rfl
end Hp
end
noncomputable section
namespace HpS
open Hp PySem
section
variable {P:Pg} {cl:Caller} {σ σ':Sg}
theorem cs{s:S}{ss:Ss}{o:O}(h:ex P cl σ s=.next σ')(r:exs P cl σ' ss=o):exs P cl σ (.cons s ss)=o:=by rw[cB,h,rD,r]
theorem aZ{i:Nat}{e:E}{d:D}(h:ev P cl σ e=.ok (.cl d)):ex P cl σ (.set (.n i) e)=.next (σ.set i (.sh false d)):=by rw[fA,h,bH,gG,cO,kC,bH,eF]
theorem bD{e:E}{ss:Ss}{v:Vl}(h:ev P cl σ e=.ok v):exs P cl σ (.cons (.ret e) ss)=.ret v:=by rw[cB,tY,h];rfl
theorem cA{c:E}{a:Ss}(h:tst P cl σ c=.ok false):ex P cl σ (.iff c a .nil)=.next σ:=by rw[eQ,h];rfl
theorem fX{c:E}{a b ss:Ss}{v:Vl}(h:tst P cl σ c=.ok true)(r:exs P cl σ a=.ret v):exs P cl σ (.cons (.iff c a b) ss)=.ret v:=by
 rw[cB,eQ,h,bH,if_pos rfl,r];rfl
theorem bE{a b:E}{x y z:Vl}(h:ev P cl σ a=.ok x)(k:ev P cl σ b=.ok y)(e:eA x y=.ok z):ev P cl σ (.idx a b)=.ok z:=by rw[iM,h,aA,k,aA,e]
theorem dF{a:E}{w x:Str}{b:Bool}(h:ev P cl σ a=.ok (.cl (.str w)))(q:(w==x)=b):tst P cl σ (.cmp .Eq a (.c (.str x)))=.ok b:=by
 rw[dC,h,aA,aC,aA,dE,dE,fH,gI,q]
theorem bO{f:Nat}{a b c:E}{x y z:Vl}{d:D}(h1:ev P cl σ a=.ok x)(h2:ev P cl σ b=.ok y)(h3:ev P cl σ c=.ok z)(hc:cl f [x.d,y.d,z.d]=.ok (d,false,false)):ev P cl σ (.call f (.cons a (.cons b (.cons c .nil))))=.ok (.cl d):=by
 have e:evs P cl σ (.cons a (.cons b (.cons c .nil)))=.ok [x,y,z]:=by rw[aG,h1,aA,aG,h2,aA,aG,h3,aA,bG];rfl
 rw[dB,e,aA,show [x,y,z].map (·.d)=[x.d,y.d,z.d] from rfl,hc];rfl
theorem v0_{d:D}{r:Sg}(h:noL d=true):ev P cl (.sh true d::r) (.v 0)=.ok (.cl d):=dI 0 true h
theorem v1_{s:Sl}{d:D}{r:Sg}(h:noL d=true):ev P cl (s::.sh true d::r) (.v 1)=.ok (.cl d):=dI 1 true h
theorem v2_{s t:Sl}{d:D}{r:Sg}(h:noL d=true):ev P cl (s::t::.sh true d::r) (.v 2)=.ok (.cl d):=dI 2 true h
theorem aAA{t a b:E}{k:Bool}{v:Vl}(h:tst P cl σ t=.ok k)(r:(if k then ev P cl σ a else ev P cl σ b)=.ok v):ev P cl σ (.ife t a b)=.ok v:=by rw[zD,h,aA,r]
theorem aIu{a:E}{k:Bool}(h:ev P cl σ a=.ok (.cl (.bl k))):ev P cl σ (.nt a)=.ok (.cl (.bl !k)):=by rw[aKT,h];rfl
theorem aFx{a b:E}{x y:Bool}(h1:ev P cl σ a=.ok (.cl (.bl x)))(h2:ev P cl σ b=.ok (.cl (.bl y))):ev P cl σ (.an a b)=.ok (.cl (.bl (x&&y))):=by
 rw[aKU,h1,aA];cases x
 . rfl
 . exact h2
theorem aKY{a b:E}{x y:Bool}(h1:ev P cl σ a=.ok (.cl (.bl x)))(h2:ev P cl σ b=.ok (.cl (.bl y))):ev P cl σ (.orr a b)=.ok (.cl (.bl (x||y))):=by
 rw[aIo,h1,aA];cases x
 . exact h2
 . rfl
theorem fI{o:Operator}{a b:E}{x y z:Vl}(h:ev P cl σ a=.ok x)(k:ev P cl σ b=.ok y)(e:opD o x y=.ok z):ev P cl σ (.op o a b)=.ok z:=by rw[wN,h,aA,k,aA,e]
theorem qJ{o:CmpOp}{a b:E}{x y:Vl}{k:Bool}(h:ev P cl σ a=.ok x)(g:ev P cl σ b=.ok y)(e:cG o x.d y.d=some k):ev P cl σ (.cmp o a b)=.ok (.cl (.bl k)):=by rw[aIp,h,aA,g,aA,e]
theorem eS{b:Bi}{a:E}{x z:Vl}(h:ev P cl σ a=.ok x)(e:biD b [x]=.ok z):ev P cl σ (.bi b (.cons a .nil))=.ok z:=by
 have h2:evs P cl σ (.cons a .nil)=.ok [x]:=by rw[aG,h];rfl
 rw[qD,h2,aA,e]
end
end HpS
end
noncomputable section
namespace Hp
open PySem (Str)
theorem bR{α:Type}{g:α->D}(ng:∀t,noL (g t)=true):∀ts:List α,noLs (ts.map g)=true
 | []=>rfl
 | t::ts=>by rw[mC,noLs,ng t,bR ng ts];rfl
theorem lT{α:Type}{F:Vl->R (Option Vl)}{f:α->Vl}{g:α->D}{p:α->Bool}:∀{ts:List α},(∀t∈ts,F (f t)=.ok (if p t then some (.cl (g t)) else none))->eO F (ts.map f)=.ok ((ts.filter p).map λt=>.cl (g t))
 | [],_=>rfl
 | t::ts,h=>by
  have h1:=h t List.mem_cons_self
  have h2:=lT (F:=F) (f:=f) (g:=g) (p:=p) (ts:=ts) λy hy=>h y (List.mem_cons_of_mem _ hy)
  show(F (f t) >>= λy=>eO F (ts.map f) >>= λys=>(match y with|some y=>R.ok (y::ys)|none=>R.ok ys))=_
  rw[h1,h2]
  cases hp:p t with
  | true=>rw[List.filter_cons_of_pos hp];rfl
  | false=>rw[List.filter_cons_of_neg (by rw[hp];exact bN)];rfl
theorem uE{α:Type}{g:α->D}(ng:∀t,noL (g t)=true){k:Nat}{caps al:List Nat}(ts:List α):fK k caps al (ts.map λt=>Vl.cl (g t))=⟨.lst (ts.map g),true,false,[]⟩:=by
 have e:(ts.map λt=>Vl.cl (g t)).map (·.d)=ts.map g:=by rw[List.map_map];rfl
 rw[sJ (by rw[e];exact bR ng ts),e]
theorem fY{P:Pg}{cl:Caller}{σ:Sg}{k:Nat}{caps al:List Nat}{T:T}{it:It}{elt:E}{α:Type}{ts:List α}(f:α->Vl)(g:α->D)(ng:∀t,noL (g t)=true)(hw:walk P cl σ it=.ok (ts.map f,al))(hl:ts.length<=lim)
 (hb:∀t∈ts,∃σ1,cH (List.replicate k .dead++caps.map λi=>((freeze σ al)[i]?).getD .dead) (f t) T=.ok σ1/\ev P cl σ1 elt=.ok (.cl (g t))):ev P cl σ (.comp k caps T it .nil elt)=.ok ⟨.lst (ts.map g),true,false,[]⟩:=by
 rw[oD,hw,aA,lT (f:=f) (g:=g) (p:=λ_=>true) λt ht=>by
  obtain⟨σ1,e1,e2⟩:=hb t ht
  show(cH _ (f t) T >>= λσ1=>_)=_
  rw[e1]
  show(ev P cl σ1 elt >>= λy=>R.ok (some y))=_
  rw[e2]
  rfl]
 have hf:ts.filter (λ_=>true)=ts:=List.filter_eq_self.mpr λ_ _=>rfl
 have hl2:decide ((ts.map λt=>Vl.cl (g t)).length<=lim)=true:=decide_eq_true (by rw[lM];exact hl)
 rw[aA,hf,hl2,wM,uE ng]
theorem aIv{P:Pg}{cl:Caller}{σ:Sg}{k:Nat}{caps al:List Nat}{T:T}{it:It}{c elt:E}{α:Type}{ts:List α}(f:α->Vl)(g:α->D)(p:α->Bool)(ng:∀t,noL (g t)=true)(hw:walk P cl σ it=.ok (ts.map f,al))(hl:ts.length<=lim)
 (hb:∀t∈ts,∃σ1,cH (List.replicate k .dead++caps.map λi=>((freeze σ al)[i]?).getD .dead) (f t) T=.ok σ1/\tst P cl σ1 c=.ok (p t)/\ev P cl σ1 elt=.ok (.cl (g t))):ev P cl σ (.comp k caps T it (.cons c .nil) elt)=.ok ⟨.lst ((ts.filter p).map g),true,false,[]⟩:=by
 rw[oD,hw,aA,lT (f:=f) (g:=g) (p:=p) λt ht=>by
  obtain⟨σ1,e1,e2,e3⟩:=hb t ht
  show(cH _ (f t) T >>= λσ1=>_)=_
  rw[e1]
  show(tsts P cl σ1 (.cons c .nil) >>= λk=>if k then (ev P cl σ1 elt >>= λy=>R.ok (some y)) else R.ok none)=_
  rw[sH,e2,aA]
  cases hp:p t with
  | true=>rw[if_pos rfl,aDF,aA,if_pos rfl,e3];rfl
  | false=>rfl]
 have hl2:decide (((ts.filter p).map λt=>Vl.cl (g t)).length<=lim)=true:=decide_eq_true (by rw[lM];exact Nat.le_trans (List.length_filter_le _ _) hl)
 rw[aA,hl2,wM,uE ng]
theorem cF{α:Type}{v:Vl}{g:α->D}(ng:∀t,noL (g t)=true)(ts:List α):items v (ts.map g)=ts.map λt=>Vl.cl (g t):=by
 unfold items
 rw[List.map_map]
 refine List.map_congr_left λt _=>?_
 show Vl.sub v (g t)=_
 unfold Vl.sub
 rw[if_pos (ng t)]
theorem uF{a b:D}(ha:noL a=true)(hb:noL b=true):noL (.tup [a,b])=true:=by simp[noL,noLs,ha,hb]
@[simp] theorem aLG {P:Pg} {cl:Caller} {σ:Sg} (a b:E):ev P cl σ (.lzip a b)=(ev P cl σ a >>= λx=>ev P cl σ b >>= λy=>match iU x.d,iU y.d with
 | some as,some bs=>.iff (decide (as.length<=lim)) (.ok (aFX x y (eX as bs)))
 | _,_=>.bad):=id rfl
end Hp
end
noncomputable section
namespace Hp
open PySem (Str Operator CmpOp)
section
variable {P:Pg} {cl:Caller} {σ:Sg}
@[simp] theorem aAB (a l:E):ev P cl σ (.sli a (.cons l .nil) .nil)=(ev P cl σ a >>= λx=>ev P cl σ l >>= λl=>match l.d with|.int l=>.iff (aL l) (eG x (some l) none)|_=>.bad):=by
 show(ev P cl σ a >>= λx=>evs P cl σ (.cons l .nil) >>= λl=>evs P cl σ .nil >>= λh=>_)=_
 cases ev P cl σ a with
 | ok x=>
  show((ev P cl σ l >>= λx=>evs P cl σ .nil >>= λxs=>R.ok (x::xs)) >>= λl=>_)=(ev P cl σ l >>= λl=>_)
  cases ev P cl σ l <;> rfl
 | exc e=>rfl
 | bad=>rfl
@[simp] theorem aLH (a l h:E):ev P cl σ (.sli a (.cons l .nil) (.cons h .nil))=(ev P cl σ a >>= λx=>ev P cl σ l >>= λl=>ev P cl σ h >>= λh=>match l.d,h.d with|.int l,.int h=>.iff (aL l&&aL h) (eG x (some l) (some h))|_,_=>.bad):=by
 show(ev P cl σ a >>= λx=>evs P cl σ (.cons l .nil) >>= λl=>evs P cl σ (.cons h .nil) >>= λh=>_)=_
 cases ev P cl σ a with
 | ok x=>
  show((ev P cl σ l >>= λx=>evs P cl σ .nil >>= λxs=>R.ok (x::xs)) >>= λl=>_)=(ev P cl σ l >>= λl=>_)
  cases ev P cl σ l with
  | ok l=>
   show((ev P cl σ h >>= λx=>evs P cl σ .nil >>= λxs=>R.ok (x::xs)) >>= λh=>_)=(ev P cl σ h >>= λh=>_)
   cases ev P cl σ h <;> rfl
  | exc e=>rfl
  | bad=>rfl
 | exc e=>rfl
 | bad=>rfl
end
theorem eJ:∀is:List Int,noLs (is.map D.int)=true
 | []=>rfl
 | i::is=>by simp[noLs,noL,eJ is]
theorem gK{n k:Nat}(h:k<n):ixN n (k:Int)=some k:=by
 unfold ixN
 rw[if_pos (Int.natCast_nonneg k),if_pos (by omega)]
 simp
theorem aFy{v:Vl}{is:List Int}{k:Nat}(hv:v.d=.lst (is.map D.int))(h:k<is.length):eA v (.cl (.int (k:Int)))=.ok (.cl (.int (is.getD k 0))):=by
 unfold eA
 rw[hv]
 have hl:(is.map D.int).length=is.length:=by simp
 have e:(is.map D.int)[k]? = some (.int (is.getD k 0)):=by simp[h]
 simp only[dE,hl,gK h,e,Vl.sub,noL,if_true]
def uG:Fn:=⟨2,5,
 (.cons (.set (.n 2) (.lst .nil))
 (.cons (.set (.n 3) (.op .Add (.op .Mod (.v 0) (.c (.int 2147483647))) (.c (.int 48271))))
 (.cons (.for (.n 4) (.rng (.c (.int 0)) (.op .Add (.v 1) (.c (.int 1))))
  (.cons (.set (.n 3) (.op .Mod (.op .Add (.op .Add (.op .Mult (.v 3) (.v 3)) (.op .Mult (.c (.int 48271)) (.v 3))) (.v 4)) (.c (.int 2147483647))))
  (.cons (.app 2 (.v 3))
  .nil)))
 (.cons (.ret (.sli (.v 2) (.cons (.c (.int 1)) .nil) .nil))
 .nil))))⟩
def num(c:Int):Nat->Int
 | 0=>c % 2147483647+48271
 | k+1=>(num c k*num c k+48271*num c k+(k:Int)) % 2147483647
theorem aFz(c:Int):∀k,0<=num c k/\num c k<2147531918
 | 0=>by
  have h0:0<=c % 2147483647:=Int.emod_nonneg _ (by decide)
  have h1:c % 2147483647<2147483647:=Int.emod_lt_of_pos _ (by decide)
  unfold num
  omega
 | k+1=>by
  unfold num
  have h0:=Int.emod_nonneg (num c k*num c k+48271*num c k+(k:Int)) (show(2147483647:Int)≠0 by decide)
  have h1:=Int.emod_lt_of_pos (num c k*num c k+48271*num c k+(k:Int)) (show(0:Int)<2147483647 by decide)
  omega
def nA(c:Int)(m:Nat):List Int:=(List.range m).map λi=>num c (i+2)
theorem gU(c:Int)(m:Nat):(nA c m).length=m:=by simp[nA]
theorem fP{P:Pg}{f:Nat}(hF:P.fns[f]? = some uG)(n:Nat)(c:Int){m:Nat}(hm:m<=1000):call P (n+1) f [.int c,.int m]=.ok (.lst ((nA c m).map D.int),true,false):=by
 have mm:∀i:Int,opD .Mod (.cl (.int i)) (.cl (.int 2147483647))=.ok (.cl (.int (i % 2147483647))):=λi=>aAz (by decide)
 have hw:walk P (call P n) [.sh true (.int c),.sh true (.int m),.own false [],.sh false (.int (num c 0)),.dead] (.rng (.c (.int 0)) (.op .Add (.v 1) (.c (.int 1))))=.ok ((List.range (m+1)).map λ(k:Nat)=>Vl.cl (.int (k:Int)),[]):=by
  refine bX (v:=.cl (.int ((m+1:Nat):Int))) ?_ rfl (by omega)
  simp[bZ]
 obtain⟨σ',e,hI⟩:=cI (t:=.n 4) (b:=(.cons (.set (.n 3) (.op .Mod (.op .Add (.op .Add (.op .Mult (.v 3) (.v 3)) (.op .Mult (.c (.int 48271)) (.v 3))) (.v 4)) (.c (.int 2147483647))))
  (.cons (.app 2 (.v 3))
  .nil)))
   (λk σ=>∃s4,σ=[.sh true (.int c),.sh true (.int m),.own false ((List.range k).map λi=>.int (num c (i+1))),.sh false (.int (num c k)),s4]) hw ⟨_,rfl⟩ (λk hk σ hσ=>by
    obtain⟨s4,rfl⟩:=hσ
    have hk':k<m+1:=by simpa using hk
    obtain⟨r0,r1⟩:=aFz c k
    have m1:opD .Mult (.cl (.int (num c k))) (.cl (.int (num c k)))=.ok (.cl (.int (num c k*num c k))):=mul_int (by
     simp only[gP,Bool.or_eq_true,bA,decide_eq_true_eq];right;omega)
    have m2:opD .Mult (.cl (.int 48271)) (.cl (.int (num c k)))=.ok (.cl (.int (48271*num c k))):=mul_int (by
     simp only[gP,Bool.or_eq_true,bA,decide_eq_true_eq];right;omega)
    have hll:k+1<=lim:=by unfold lim;omega
    have hsn:(List.range (k+1)).map (λi=>D.int (num c (i+1)))=(List.range k).map (λi=>D.int (num c (i+1)))++[.int (num c (k+1))]:=by rw[List.range_succ];simp
    refine⟨[.sh true (.int c),.sh true (.int m),.own false ((List.range k).map λi=>.int (num c (i+1))),.sh false (.int (num c k)),.sh false (.int k)],
     [.sh true (.int c),.sh true (.int m),.own false ((List.range (k+1)).map λi=>.int (num c (i+1))),.sh false (.int (num c (k+1))),.sh false (.int k)],?_,?_,⟨_,rfl⟩⟩
    . simp
    . rw[hsn]
      simp[bZ,m1,m2,mm,put,lE,hll,num])
 obtain⟨s4,rfl⟩:=hI
 have et:((List.range (m+1)).map λ(k:Nat)=>Vl.cl (.int (k:Int))).length=m+1:=by simp
 rw[et] at e
 have hno:noLs ((List.range (m+1)).map λi=>D.int (num c (i+1)))=true:=by
  have:(List.range (m+1)).map (λi=>D.int (num c (i+1)))=((List.range (m+1)).map λi=>num c (i+1)).map D.int:=by simp
  rw[this]
  exact eJ _
 have hcut:cut ((List.range (m+1)).map λi=>D.int (num c (i+1))) (some 1) none=(nA c m).map D.int:=by
  unfold cut sIx
  simp only[lM,List.length_range]
  have e1:min (1:Int).toNat (m+1)=1:=by simp
  rw[if_neg (by decide),e1,List.take_of_length_le (by simp),List.range_succ_eq_map]
  simp[nA,Function.comp_def]
 have s1:aL 1=true:=by decide
 refine aH (F:=uG) hF rfl (v:=⟨.lst ((nA c m).map D.int),true,false,[]⟩) ?_
 have e:ex P (call P n) [.sh true (.int c),.sh true (.int m),.own false [],.sh false (.int (c % 2147483647+48271)),.dead] _=_:=e
 simp[uG,bZ,mm,oY,dS,bT,e,s1,eG,hno,hcut]
def aKZ(b:Str×Int):D:=.tup [.str b.1,.int b.2]
@[simp] theorem aLa (b:Str×Int):noL (aKZ b)=true:=by simp[aKZ,noL,noLs]
end Hp
end
noncomputable section
namespace HpS
open Hp PySem
inductive Sm where
 | num (n:Int)|box (k:Nat)|aft (k:Nat)|two (p:Bool) (a b:Sm)
def zI(p:Bool):Str:=if p then "plus" else "minus"
def Sm.d:Sm->D
 | .num n=>.tup [.str "number",.int n]
 | .box k=>.tup [.str "box",.int k]
 | .aft k=>.tup [.str "after",.int k]
 | .two p a b=>.tup [.str (zI p),a.d,b.d]
def Sm.sz:Sm->Nat
 | .two _ a b=>1+a.sz+b.sz
 | _=>1
def Sm.val(ah be:List Int):Sm->Int
 | .num n=>n
 | .box k=>ah.getD k 0
 | .aft k=>be.getD k 0
 | .two p a b=>if p then a.val ah be+b.val ah be else a.val ah be-b.val ah be
def Sm.wf(c:Nat)(pl:Bool):Sm->Prop
 | .num n=>0<=n/\n<=99
 | .box k=>k<c
 | .aft k=>k<c/\pl=false
 | .two _ a b=>a.wf c pl/\b.wf c pl
theorem Sm.noL:∀s:Sm,Hp.noL s.d=true
 | .num _=>rfl
 | .box _=>rfl
 | .aft _=>rfl
 | .two _ a b=>by simp[Sm.d,Hp.noL,noLs,a.noL,b.noL]
theorem cJ{v:Vl}{d:D}(h:Hp.noL d=true):Vl.sub v d=.cl d:=by unfold Vl.sub;rw[if_pos h]
theorem fZ(x:D)(r:List D)(h:Hp.noL x=true):eA (.cl (.tup (x::r))) (.cl (.int 0))=.ok (.cl x):=by
 have:ixN (x::r).length 0=some 0:=gK (k:=0) (by simp)
 unfold eA
 simp only[dE,this,gZ,cJ h]
theorem gA(x y:D)(r:List D)(h:Hp.noL y=true):eA (.cl (.tup (x::y::r))) (.cl (.int 1))=.ok (.cl y):=by
 have:ixN (x::y::r).length 1=some 1:=gK (k:=1) (by simp)
 unfold eA
 simp only[dE,this,gZ,gS,cJ h]
theorem zJ(x y z:D)(r:List D)(h:Hp.noL z=true):eA (.cl (.tup (x::y::z::r))) (.cl (.int 2))=.ok (.cl z):=by
 have:ixN (x::y::z::r).length 2=some 2:=gK (k:=2) (by simp)
 unfold eA
 simp only[dE,this,gZ,gS,cJ h]
theorem lU{is:List Int}{k:Nat}(h:k<is.length):eA (.cl (aM is)) (.cl (.int (k:Int)))=.ok (.cl (.int (is.getD k 0))):=by
 unfold eA aM
 have hl:(is.map D.int).length=is.length:=by simp
 have e:(is.map D.int)[k]? = some (.int (is.getD k 0)):=by simp[h]
 simp only[dE,hl,gK h,e,Vl.sub,Hp.noL,if_true]
def nB(f:Nat):Fn:=⟨3,6,
 (.cons (.set (.n 3) (.idx (.v 0) (.c (.int 0))))
 (.cons (.iff (.cmp .Eq (.v 3) (.c (.str "number")))
  (.cons (.ret (.idx (.v 0) (.c (.int 1))))
  .nil)
  .nil)
 (.cons (.iff (.cmp .Eq (.v 3) (.c (.str "box")))
  (.cons (.ret (.idx (.v 1) (.idx (.v 0) (.c (.int 1)))))
  .nil)
  .nil)
 (.cons (.iff (.cmp .Eq (.v 3) (.c (.str "after")))
  (.cons (.ret (.idx (.v 2) (.idx (.v 0) (.c (.int 1)))))
  .nil)
  .nil)
 (.cons (.set (.n 4) (.call f (.cons (.idx (.v 0) (.c (.int 1))) (.cons (.v 1) (.cons (.v 2) .nil)))))
 (.cons (.set (.n 5) (.call f (.cons (.idx (.v 0) (.c (.int 2))) (.cons (.v 1) (.cons (.v 2) .nil)))))
 (.cons (.ret (.ife (.cmp .Eq (.v 3) (.c (.str "plus"))) (.op .Add (.v 4) (.v 5)) (.op .Sub (.v 4) (.v 5))))
 .nil)))))))⟩
theorem aLb:(("number" : Str) == "number")=true:=by decide +kernel
theorem aIw:(("box" : Str) == "number")=false:=by decide +kernel
theorem aMG:(("box" : Str) == "box")=true:=by decide +kernel
theorem aMH:(("after" : Str) == "number")=false:=by decide +kernel
theorem aMI:(("after" : Str) == "box")=false:=by decide +kernel
theorem aMJ:(("after" : Str) == "after")=true:=by decide +kernel
theorem aMK:∀p,(zI p == "number")=false:=by decide +kernel
theorem aLc:∀p,(zI p == "box")=false:=by decide +kernel
theorem aLd:∀p,(zI p == "after")=false:=by decide +kernel
theorem aML:∀p,(zI p == "plus")=p:=by decide +kernel
theorem jK{P:Pg}{f:Nat}(hF:P.fns[f]? = some (nB f)){ah be:List Int}{bd:D}{c:Nat}{pl:Bool}(ha:ah.length=c)(hb:be.length=c)(hn:Hp.noL bd=true)(hbd:pl=false->bd=aM be) :
 ∀(s:Sm) (n:Nat),s.wf c pl->call P (n+s.sz) f [s.d,aM ah,bd]=.ok (.int (s.val ah be),false,false)
 | .num k,n,w=>by
  refine aH (F:=nB f) hF rfl (v:=.cl (.int k)) ?_
  exact cs (aZ (bE (v0_ rfl) rfl (fZ _ _ rfl))) (fX (dF rfl aLb) (bD (bE (v0_ rfl) rfl (gA _ _ _ rfl))))
 | .box k,n,w=>by
  have w:k<c:=w
  refine aH (F:=nB f) hF rfl (v:=.cl (.int (ah.getD k 0))) ?_
  exact cs (aZ (bE (v0_ rfl) rfl (fZ _ _ rfl))) (cs (cA (dF rfl aIw)) (fX (dF rfl aMG) (bD (bE (v1_ (aS _)) (bE (v0_ rfl) rfl (gA _ _ _ rfl)) (lU (by omega))))))
 | .aft k,n,w=>by
  obtain⟨w1,w2⟩:k<c/\pl=false:=w
  have e:=hbd w2
  subst e
  refine aH (F:=nB f) hF rfl (v:=.cl (.int (be.getD k 0))) ?_
  exact cs (aZ (bE (v0_ rfl) rfl (fZ _ _ rfl))) (cs (cA (dF rfl aMH)) (cs (cA (dF rfl aMI)) (fX (dF rfl aMJ) (bD (bE (v2_ (aS _)) (bE (v0_ rfl) rfl (gA _ _ _ rfl)) (lU (by omega)))))))
 | .two p a b,n,w=>by
  obtain⟨w1,w2⟩:a.wf c pl/\b.wf c pl:=w
  have c1:=jK hF ha hb hn hbd a (n+b.sz) w1
  have c2:=jK hF ha hb hn hbd b (n+a.sz) w2
  rw[show n+b.sz+a.sz=n+a.sz+b.sz by omega] at c1
  have e:n+Sm.sz (.two p a b)=n+a.sz+b.sz+1:=by show n+(1+a.sz+b.sz)=_;omega
  rw[e]
  refine aH (F:=nB f) hF rfl (v:=.cl (.int (Sm.val ah be (.two p a b)))) ?_
  refine cs (aZ (bE (v0_ (Sm.noL _)) rfl (fZ _ _ rfl))) (cs (cA (dF rfl (aMK p))) (cs (cA (dF rfl (aLc p))) (cs (cA (dF rfl (aLd p))) (cs (aZ (bO (bE (v0_ (Sm.noL _)) rfl (gA _ _ _ a.noL)) (v1_ (aS _)) (v2_ hn) c1)) (cs (aZ (bO (bE (v0_ (Sm.noL _)) rfl (zJ _ _ _ _ b.noL)) (v1_ (aS _)) (v2_ hn) c2)) (bD (aAA (dF rfl (aML p)) ?_)))))))
  cases p <;> rfl
theorem gW{P:Pg}{cl:Caller}{f:Nat}{F:Fn}{ds:List D}(hF:P.fns[f]? = some F)(hl:ds.length=F.np){σ:Sg}
 (h:exs P cl ((ds.map λd=>Sl.sh true d)++List.replicate (F.ns-F.np) Sl.dead) F.body=.next σ):tG P cl f ds=.ok (.non,false,false):=by
 unfold tG
 rw[hF]
 simp only[hl,if_true,h]
@[simp] theorem wU {P:Pg} {cl:Caller} {σ:Sg} (i:Nat) (a:E):ev P cl σ (.tget i a)=(ev P cl σ a >>= λx=>match x.d,P.tabs[i]? with|.str k,some t=>.ok (.cl ((t.lookup k).getD .non))|_,_=>.bad):=id rfl
def fWhole:Fn:=⟨1,1,(.cons (.ret (.an (.isi (.v 0) [.tInt]) (.nt (.isi (.v 0) [.tBool])))) .nil)⟩
def fWithin(wh:Nat):Fn:=⟨3,3,(.cons (.ret (.an (.call wh (.cons (.v 0) .nil)) (.cmp2 .LtE .LtE (.v 1) (.v 0) (.v 2)))) .nil)⟩
def fCheck(wi:Nat):Fn:=⟨3,4,
 (.cons (.set (.n 3) (.ife (.cmp .Eq (.v 1) (.c (.str "number"))) (.c (.int 99)) (.op .Sub (.bi .len (.cons (.v 0) .nil)) (.c (.int 1)))))
 (.cons (.iff (.nt (.call wi (.cons (.v 2) (.cons (.c (.int 0)) (.cons (.v 3) .nil)))))
  (.cons (.rse 1 false (.cons (.c (.str "a number is a whole one from 0 to 99, a box the number of one")) .nil))
  .nil)
  .nil)
 .nil))⟩
theorem aDL{P:Pg}{wh:Nat}(hF:P.fns[wh]? = some fWhole)(n:Nat)(i:Int):call P (n+1) wh [.int i]=.ok (.bl true,false,false):=aH (F:=fWhole) hF rfl (v:=.cl (.bl true)) rfl
theorem gX{P:Pg}{wh wi:Nat}(hW:P.fns[wh]? = some fWhole)(hF:P.fns[wi]? = some (fWithin wh))(n:Nat)(i a b:Int)(h1:a<=i)(h2:i<=b):call P (n+2) wi [.int i,.int a,.int b]=.ok (.bl true,false,false):=by
 refine aH (F:=fWithin wh) hF rfl (v:=.cl (.bl true)) ?_
 simp[fWithin,bZ,aDL hW,h1,h2]
theorem aDM{P:Pg}{wh wi ch:Nat}(hW:P.fns[wh]? = some fWhole)(hI:P.fns[wi]? = some (fWithin wh))(hF:P.fns[ch]? = some (fCheck wi))(n:Nat){bs:List D}{due:Str}{i:Int}(h0:0<=i)(h1:i<=(if due == "number" then 99 else (bs.length:Int)-1)) :
 call P (n+3) ch [.lst bs,.str due,.int i]=.ok (.non,false,false):=by
 have c1:=gX hW hI n i 0 _ h0 h1
 cases q:due == "number" with
 | true=>
  rw[q,if_pos rfl] at c1
  refine gW (F:=fCheck wi) hF rfl (σ:=[.sh true (.lst bs),.sh true (.str due),.sh true (.int i),.sh false (.int 99)]) ?_
  simp[fCheck,bZ,q,c1]
 | false=>
  rw[q,if_neg bN] at c1
  refine gW (F:=fCheck wi) hF rfl (σ:=[.sh true (.lst bs),.sh true (.str due),.sh true (.int i),.sh false (.int ((bs.length:Int)-1))]) ?_
  simp[fCheck,bZ,q,c1]
def sumTab:List (Str×D):=[("number",.tup [.str "number"]),("box",.tup [.str "box"]),("after",.tup [.str "box"]),("plus",.tup [.str "sum",.str "sum"]),("minus",.tup [.str "sum",.str "sum"])]
def fForm:Fn:=⟨3,5,
 (.cons (.iff (.orr (.nt (.isi (.v 1) [.tTuple])) (.orr (.cmp .Eq (.bi .len (.cons (.v 1) .nil)) (.c (.int 0))) (.nt (.isi (.idx (.v 1) (.c (.int 0))) [.tStr]))))
  (.cons (.rse 1 false (.cons (.c (.str "a part is a tuple that begins with a word")) .nil))
  .nil)
  .nil)
 (.cons (.set (.n 3) (.idx (.v 1) (.c (.int 0))))
 (.cons (.set (.n 4) (.ife (.cmp .Eq (.v 0) (.c (.str "sum"))) (.tget 0 (.v 3)) (.tget 1 (.v 3))))
 (.cons (.iff (.orr (.cmp .Is (.v 4) (.c .non)) (.cmp .NotEq (.bi .len (.cons (.v 1) .nil)) (.op .Add (.bi .len (.cons (.v 4) .nil)) (.c (.int 1)))))
  (.cons (.rse 1 false (.cons (.c (.str "a part has a word that is due there, and as many things as go with it")) .nil))
  .nil)
  .nil)
 (.cons (.iff (.an (.v 2) (.cmp .Eq (.v 3) (.c (.str "after"))))
  (.cons (.rse 1 false (.cons (.c (.str "no after stands where a plain one is due")) .nil))
  .nil)
  .nil)
 (.cons (.retv 4)
 .nil))))))⟩
def Sm.word:Sm->Str
 | .num _ => "number" | .box _ => "box" | .aft _ => "after" | .two p _ _=>zI p
def Sm.rest:Sm->List D
 | .num n=>[.int n]|.box k=>[.int k]|.aft k=>[.int k]|.two _ a b=>[a.d,b.d]
def Sm.form:Sm->List Str
 | .num _=>["number"]|.box _=>["box"]|.aft _=>["box"]|.two _ _ _=>["sum", "sum"]
theorem Sm.d_eq:∀s:Sm,s.d=.tup (.str s.word::s.rest)
 | .num _=>rfl|.box _=>rfl|.aft _=>rfl|.two _ _ _=>rfl
theorem Sm.rest_noL:∀s:Sm,noLs s.rest=true
 | .num _=>rfl|.box _=>rfl|.aft _=>rfl
 | .two _ a b=>by simp[Sm.rest,noLs,a.noL,b.noL]
theorem Sm.len_eq:∀s:Sm,s.rest.length=s.form.length
 | .num _=>rfl|.box _=>rfl|.aft _=>rfl|.two _ _ _=>rfl
theorem Sm.look:∀s:Sm,sumTab.lookup s.word=some (.tup (s.form.map D.str))
 | .num _=>by rfl
 | .box _=>by rfl
 | .aft _=>by rfl
 | .two true _ _=>by rfl
 | .two false _ _=>by rfl
theorem aFA{P:Pg}{fo:Nat}(hF:P.fns[fo]? = some fForm)(hT:P.tabs[0]? = some sumTab)(n:Nat)(s:Sm){c:Nat}{pl:Bool}(w:s.wf c pl):call P (n+1) fo [.str "sum",s.d,.bl pl]=.ok (.tup (s.form.map D.str),false,false):=by
 have v1:=dI 1 true s.noL
 rw[s.d_eq] at v1 ⊢
 have i0:=fZ (.str s.word) s.rest rfl
 have qs:(("sum" : Str) == "sum")=true:=by decide +kernel
 have hln:((.str s.word::s.rest:List D).length:Int)=(s.form.length:Int)+1:=by rw[lC,s.len_eq];omega
 have h0:((((.str s.word::s.rest:List D).length:Int))==0)=false:=by rw[hln];exact beq_eq_false_iff_ne.mpr (by omega)
 have t1:tst P (call P n) [.sh true (.str "sum"),.sh true (.tup (.str s.word::s.rest)),.sh true (.bl pl),.dead,.dead] (.orr (.nt (.isi (.v 1) [.tTuple])) (.orr (.cmp .Eq (.bi .len (.cons (.v 1) .nil)) (.c (.int 0))) (.nt (.isi (.idx (.v 1) (.c (.int 0))) [.tStr]))))=.ok false:=by
  simp only[fM,kU,aAv,dC,fW,aC,qD,iM,aG,bG,bZ,gS,gZ,v1,aA,dE,aAy,Bool.not_true,bF,if_false,gJ,fH,gH,h0,i0,aAx]
 have t2:tst P (call P n) [.sh true (.str "sum"),.sh true (.tup (.str s.word::s.rest)),.sh true (.bl pl),.sh false (.str s.word),.sh false (.tup (s.form.map D.str))] (.orr (.cmp .Is (.v 4) (.c .non)) (.cmp .NotEq (.bi .len (.cons (.v 1) .nil)) (.op .Add (.bi .len (.cons (.v 4) .nil)) (.c (.int 1)))))=.ok false:=by
  have hi:cG .Is (.tup (s.form.map D.str)) .non=some false:=rfl
  have hq:(((s.form.length:Int)+1==(s.form.length:Int)+1))=true:=beq_self_eq_true _
  simp only[fM,dC,fW,aC,qD,wN,aG,bG,bZ,gS,gZ,v1,bU,aA,dE,hi,bF,if_false,gJ,hln,lM,add_int,qH,gH,hq,Option.map_some,Bool.not_true]
 have t3:tst P (call P n) [.sh true (.str "sum"),.sh true (.tup (.str s.word::s.rest)),.sh true (.bl pl),.sh false (.str s.word),.sh false (.tup (s.form.map D.str))] (.an (.v 2) (.cmp .Eq (.v 3) (.c (.str "after"))))=.ok false:=by
  simp only[zF,aGj,dC,fW,aC,bZ,gS,gZ,mZ,bU,aA,uD,dE,fH,gI]
  cases pl with
  | false=>rfl
  | true=>
   have:(s.word == "after")=false:=by
    cases s with
    | num _=>exact(show((("number" : Str)) == "after")=false by decide +kernel)
    | box _=>exact(show((("box" : Str)) == "after")=false by decide +kernel)
    | aft k=>obtain⟨_,z⟩:k<c/\true=false:=w;cases z
    | two p _ _=>exact aLd p
   rw[if_pos rfl,this]
 refine aH (F:=fForm) hF rfl (v:=.cl (.tup (s.form.map D.str))) ?_
 have hnl:Hp.noL (.tup (s.form.map D.str))=true:=by cases s <;> rfl
 have hl:=s.look
 show exs P (call P n) [.sh true (.str "sum"),.sh true (.tup (.str s.word::s.rest)),.sh true (.bl pl),.dead,.dead] fForm.body=_
 unfold fForm
 simp only[cB,eR,eQ,t1,bH,bF,if_false,rD,fA,iM,fW,aC,bZ,gS,gZ,v1,aA,i0,gG,cO,kC,eF,lS,lZ,zD,dC,oH,dE,fH,gI,qs,if_true,wU,bU,hT,hl,Option.getD_some,t2,t3,oE,qB]
def fLook(fo ch lo:Nat):Fn:=⟨5,8,
 (.cons (.iff (.cmp .Eq (.v 4) (.c (.int 40)))
  (.cons (.rse 2 false (.cons (.c (.str "a condition or sum has at most forty parts")) .nil))
  .nil)
  .nil)
 (.cons (.set (.n 4) (.op .Add (.v 4) (.c (.int 1))))
 (.cons (.set (.n 5) (.call fo (.cons (.v 1) (.cons (.v 2) (.cons (.v 3) .nil)))))
 (.cons (.for (.t [6,7]) (.zip (.v 5) (.sli (.v 2) (.cons (.c (.int 1)) .nil) .nil))
  (.cons (.iff (.orr (.cmp .Eq (.v 6) (.c (.str "sum"))) (.cmp .Eq (.v 6) (.c (.str "cond"))))
   (.cons (.set (.n 4) (.call lo (.cons (.v 0) (.cons (.v 6) (.cons (.v 7) (.cons (.v 3) (.cons (.v 4) .nil)))))))
   .nil)
   (.cons (.ex (.call ch (.cons (.v 0) (.cons (.v 6) (.cons (.v 7) .nil)))))
   .nil))
  .nil))
 (.cons (.retv 4)
 .nil)))))⟩
def dN(ch lo:Nat):Ss:=(.cons (.iff (.orr (.cmp .Eq (.v 6) (.c (.str "sum"))) (.cmp .Eq (.v 6) (.c (.str "cond"))))
 (.cons (.set (.n 4) (.call lo (.cons (.v 0) (.cons (.v 6) (.cons (.v 7) (.cons (.v 3) (.cons (.v 4) .nil)))))))
 .nil)
 (.cons (.ex (.call ch (.cons (.v 0) (.cons (.v 6) (.cons (.v 7) .nil)))))
 .nil))
 .nil)
def gY(w:Str)(d:D):Vl:=.cl (.tup [.str w,d])
theorem aGl{P:Pg}{cl:Caller}{σ:Sg}(e:E):ex P cl σ (.ex e)=O.from σ (ev P cl σ e) λ_=>.next σ:=rfl
theorem nP{s0 s1 s2 s3 s4 s5 s6 s7:Sl}{w:Str}{d:D}(h:Hp.noL d=true):cH [s0,s1,s2,s3,s4,s5,s6,s7] (gY w d) (.t [6,7])=.ok [s0,s1,s2,s3,s4,s5,.sh false (.str w),.sh false d]:=by
 unfold cH gY
 simp only[dE,lC,lN,if_true,List.zip_cons_cons,List.zip_nil_left,List.foldl_cons,List.foldl_nil,cJ (show Hp.noL (.str w)=true from rfl),cJ h,eF,lS,lZ]
theorem wV{P:Pg}{cl:Caller}{s0 s1 s3 s4 s6 s7:Sl}(s:Sm):walk P cl [s0,s1,.sh true s.d,s3,s4,.sh false (.tup (s.form.map D.str)),s6,s7] (.zip (.v 5) (.sli (.v 2) (.cons (.c (.int 1)) .nil) .nil)) =
 .ok ((s.form.zip s.rest).map λp=>gY p.1 p.2,[]):=by
 have v2:=dI 2 true s.noL
 have k1:aL 1=true:=by decide
 have hno:noLs (.str s.word::s.rest)=true:=by simp[noLs,Hp.noL,s.rest_noL]
 have hcut:cut (.str s.word::s.rest) (some 1) none=s.rest:=by cases s <;> rfl
 have hs:eG (.cl (.tup (.str s.word::s.rest))) (some 1) none=.ok (.cl (.tup s.rest)):=by
  unfold eG
  simp only[dE,hcut,wR,Bool.false_and,hno,if_true]
  rfl
 have hz:items ⟨.non,false,false,[]⟩ (eX (s.form.map D.str) s.rest)=(s.form.zip s.rest).map λp=>gY p.1 p.2:=by
  cases s with
  | num _=>rfl
  | box _=>rfl
  | aft _=>rfl
  | two p a b=>
   show [Vl.sub _ (.tup [.str "sum",a.d]),Vl.sub _ (.tup [.str "sum",b.d])]=[gY "sum" a.d,gY "sum" b.d]
   rw[cJ (by simp[Hp.noL,noLs,a.noL]),cJ (by simp[Hp.noL,noLs,b.noL])]
   rfl
 rw[s.d_eq] at v2 ⊢
 simp only[jF,fW,aAB,aC,bZ,gS,gZ,v2,bU,aA,dE,k1,wM,hs,iU,wR,Bool.or_self,gG,List.append_nil]
 rw[hz]
theorem aMM:(("sum" : Str) == "sum")=true:=by decide +kernel
theorem aMN:(("number" : Str) == "sum")=false:=by decide +kernel
theorem aMO:(("number" : Str) == "cond")=false:=by decide +kernel
theorem aLe:(("box" : Str) == "sum")=false:=by decide +kernel
theorem aLf:(("box" : Str) == "cond")=false:=by decide +kernel
section
variable {P:Pg} {wh wi ch fo lo:Nat} (hW:P.fns[wh]? = some fWhole) (hI:P.fns[wi]? = some (fWithin wh)) (hC:P.fns[ch]? = some (fCheck wi)) (hO:P.fns[fo]? = some fForm) (hT:P.tabs[0]? = some sumTab) (hL:P.fns[lo]? = some (fLook fo ch lo))
include hW hI hC hO hT hL
theorem aBE{n:Nat}{bs:List D}{s1 s2 s3 s5 s6 s7:Sl}{m:Int}{w:Str}{i:Int}(h0:0<=i)(h1:i<=(if w == "number" then 99 else (bs.length:Int)-1))(q1:(w == "sum")=false)(q2:(w == "cond")=false) :
 exs P (call P (n+3)) [.sh true (.lst bs),s1,s2,s3,.sh false (.int m),s5,.sh false (.str w),.sh false (.int i)] (dN ch lo)=.next [.sh true (.lst bs),s1,s2,s3,.sh false (.int m),s5,.sh false (.str w),.sh false (.int i)]:=by
 have c1:=aDM hW hI hC n (bs:=bs) (due:=w) h0 h1
 simp only[dN,cB,eR,eQ,fM,dC,fW,aC,bZ,gS,gZ,bU,aA,dE,fH,gI,q1,q2,bF,if_false,bH,aGl,dB,aG,bG,oI,mC,mN,c1,rD]
end
theorem lV{P:Pg}{ch lo M:Nat}{bs:List D}{s1 s2 s5:Sl}{pl:Bool}{m m':Int}{d:D}(c1:call P M lo [.lst bs,.str "sum",d,.bl pl,.int m]=.ok (.int m',false,false)) :
 exs P (call P M) [.sh true (.lst bs),s1,s2,.sh true (.bl pl),.sh false (.int m),s5,.sh false (.str "sum"),.sh false d] (dN ch lo)=.next [.sh true (.lst bs),s1,s2,.sh true (.bl pl),.sh false (.int m'),s5,.sh false (.str "sum"),.sh false d]:=by
 simp only[dN,cB,eR,eQ,fM,dC,fW,aC,bZ,gS,gZ,bU,aA,dE,fH,gI,aMM,if_true,bH,fA,dB,aG,bG,oI,mZ,mC,mN,c1,kW,gG,cO,kC,eF,lS,lZ,rD]
section
variable {P:Pg} {wh wi ch fo lo:Nat} (hW:P.fns[wh]? = some fWhole) (hI:P.fns[wi]? = some (fWithin wh)) (hC:P.fns[ch]? = some (fCheck wi)) (hO:P.fns[fo]? = some fForm) (hT:P.tabs[0]? = some sumTab) (hL:P.fns[lo]? = some (fLook fo ch lo))
include hW hI hC hO hT hL
theorem aAC{m:Nat}{bs:List D}{s:Sm}{c:Nat}{pl:Bool}{seen r:Int}{s6 s7:Sl}(w:s.wf c pl)(hs:seen<40)
 (hfor:ex P (call P (m+1)) [.sh true (.lst bs),.sh true (.str "sum"),.sh true s.d,.sh true (.bl pl),.sh false (.int (seen+1)),.sh false (.tup (s.form.map D.str)),.dead,.dead] (.for (.t [6,7]) (.zip (.v 5) (.sli (.v 2) (.cons (.c (.int 1)) .nil) .nil)) (dN ch lo)) =
  .next [.sh true (.lst bs),.sh true (.str "sum"),.sh true s.d,.sh true (.bl pl),.sh false (.int r),.sh false (.tup (s.form.map D.str)),s6,s7]) :
 call P (m+2) lo [.lst bs,.str "sum",s.d,.bl pl,.int seen]=.ok (.int r,false,false):=by
 have c1:=aFA hO hT m s w
 have v2:=dI 2 true s.noL
 have q40:(seen==40)=false:=beq_eq_false_iff_ne.mpr (by omega)
 refine aH (F:=fLook fo ch lo) hL rfl (v:=.cl (.int r)) ?_
 show exs P (call P (m+1)) [.sh true (.lst bs),.sh true (.str "sum"),.sh true s.d,.sh true (.bl pl),.sh true (.int seen),.dead,.dead,.dead] (.cons (.iff (.cmp .Eq (.v 4) (.c (.int 40)))
  (.cons (.rse 2 false (.cons (.c (.str "a condition or sum has at most forty parts")) .nil))
  .nil)
  .nil)
 (.cons (.set (.n 4) (.op .Add (.v 4) (.c (.int 1))))
 (.cons (.set (.n 5) (.call fo (.cons (.v 1) (.cons (.v 2) (.cons (.v 3) .nil)))))
 (.cons (.for (.t [6,7]) (.zip (.v 5) (.sli (.v 2) (.cons (.c (.int 1)) .nil) .nil)) (dN ch lo))
 (.cons (.retv 4)
 .nil)))))=_
 simp only[cB,eR,eQ,dC,fW,aC,bZ,gS,gZ,oG,aA,dE,fH,gH,q40,bF,if_false,bH,rD,fA,wN,add_int,gG,cO,kC,eF,lS,lZ,dB,aG,bG,oH,v2,mZ,mC,mN,c1,kW,hfor,oE,qB]
theorem uH{n:Nat}{bs:List D}{s:Sm}{c:Nat}{pl:Bool}{seen:Int}{w:Str}{i:Int}(hwf:s.wf c pl)(hs:seen<40)(hf:s.form=[w])(hr:s.rest=[.int i])(h0:0<=i)(h1:i<=(if w == "number" then 99 else (bs.length:Int)-1))(q1:(w == "sum")=false)(q2:(w == "cond")=false) :
 call P (n+4) lo [.lst bs,.str "sum",s.d,.bl pl,.int seen]=.ok (.int (seen+1),false,false):=by
 refine aAC hW hI hC hO hT hL (m:=n+2) (s6:=.sh false (.str w)) (s7:=.sh false (.int i)) hwf hs ?_
 have tl:∀{s1 s2 s3 s5:Sl} {m:Int},exs P (call P (n+2+1)) [.sh true (.lst bs),s1,s2,s3,.sh false (.int m),s5,.sh false (.str w),.sh false (.int i)] (dN ch lo)=.next [.sh true (.lst bs),s1,s2,s3,.sh false (.int m),s5,.sh false (.str w),.sh false (.int i)]:=aBE hW hI hC hO hT hL (n:=n) (s6:=.dead) (s7:=.dead) h0 h1 q1 q2
 rw[jG,wV,hf,hr,bH]
 simp only[List.zip_cons_cons,List.zip_nil_left,mC,mN,cO,eB,nP (show Hp.noL (.int i)=true from rfl),bH,tl]
theorem lW{bs:List D}{c:Nat}(hc:bs.length=c){pl:Bool}:∀(s:Sm) (n:Nat) (seen:Int),s.wf c pl->seen+s.sz<=40->call P (n+3+s.sz) lo [.lst bs,.str "sum",s.d,.bl pl,.int seen]=.ok (.int (seen+s.sz),false,false)
 | .num k,n,seen,w,h=>by
  have h:seen+1<=40:=h
  obtain⟨w1,w2⟩:0<=k/\k<=99:=w
  exact uH hW hI hC hO hT hL (n:=n) (s:=.num k) (c:=c) ⟨w1,w2⟩ (by omega) rfl rfl w1 (by rw[aLb,if_pos rfl];exact w2) aMN aMO
 | .box k,n,seen,w,h=>by
  have h:seen+1<=40:=h
  have w1:k<c:=w
  exact uH hW hI hC hO hT hL (n:=n) (s:=.box k) (c:=c) w1 (by omega) rfl rfl (by omega) (by rw[aIw,if_neg bN];omega) aLe aLf
 | .aft k,n,seen,w,h=>by
  have h:seen+1<=40:=h
  obtain⟨w1,w2⟩:k<c/\pl=false:=w
  exact uH hW hI hC hO hT hL (n:=n) (s:=.aft k) (c:=c) ⟨w1,w2⟩ (by omega) rfl rfl (by omega) (by rw[aIw,if_neg bN];omega) aLe aLf
 | .two p a b,n,seen,w,h=>by
  have h:seen+((1+a.sz+b.sz:Nat):Int)<=40:=h
  obtain⟨w1,w2⟩:a.wf c pl/\b.wf c pl:=w
  have pa:1<=a.sz:=by cases a <;> simp[Sm.sz];omega
  have c1:=lW hc a (n+b.sz) (seen+1) w1 (by omega)
  have c2:=lW hc b (n+a.sz) (seen+1+a.sz) w2 (by omega)
  have e1:n+b.sz+3+a.sz=n+2+a.sz+b.sz+1:=by omega
  have e2:n+a.sz+3+b.sz=n+2+a.sz+b.sz+1:=by omega
  rw[e1] at c1
  rw[e2] at c2
  have e3:n+3+Sm.sz (.two p a b)=n+2+a.sz+b.sz+2:=by show n+3+(1+a.sz+b.sz)=_;omega
  have e4:seen+((Sm.sz (.two p a b):Nat):Int)=seen+1+a.sz+b.sz:=by show seen+((1+a.sz+b.sz:Nat):Int)=_;omega
  rw[e3,e4]
  refine aAC hW hI hC hO hT hL (m:=n+2+a.sz+b.sz) (s6:=.sh false (.str "sum")) (s7:=.sh false b.d) (c:=c) ⟨w1,w2⟩ (by omega) ?_
  rw[jG,wV,bH]
  have ef:(Sm.two p a b).form=[("sum" : Str),("sum" : Str)]:=rfl
  have er:(Sm.two p a b).rest=[a.d,b.d]:=rfl
  simp only[ef,er,List.zip_cons_cons,List.zip_nil_left,mC,mN,cO,eB,nP a.noL,nP b.noL,bH,lV c1,lV c2]
end
inductive Cn where
 | yes|cmp (i:Bool) (a b:Sm)|nt (c:Cn)|two (p:Bool) (a b:Cn)
def nX(i:Bool):Str:=if i then "is" else "less"
def kE(p:Bool):Str:=if p then "both" else "either"
def Cn.d:Cn->D
 | .yes=>.tup [.str "yes"]
 | .cmp i a b=>.tup [.str (nX i),a.d,b.d]
 | .nt c=>.tup [.str "not",c.d]
 | .two p a b=>.tup [.str (kE p),a.d,b.d]
def Cn.sz:Cn->Nat
 | .yes=>1
 | .cmp _ a b=>1+a.sz+b.sz
 | .nt c=>1+c.sz
 | .two _ a b=>1+a.sz+b.sz
def Cn.hold(ah be:List Int):Cn->Bool
 | .yes=>true
 | .cmp i a b=>if i then a.val ah be==b.val ah be else decide (a.val ah be<b.val ah be)
 | .nt c=>!c.hold ah be
 | .two p a b=>if p then a.hold ah be&&b.hold ah be else a.hold ah be||b.hold ah be
def Cn.wf(c:Nat)(pl:Bool):Cn->Prop
 | .yes=>True
 | .cmp _ a b=>a.wf c pl/\b.wf c pl
 | .nt x=>x.wf c pl
 | .two _ a b=>a.wf c pl/\b.wf c pl
theorem Cn.noL:∀s:Cn,Hp.noL s.d=true
 | .yes=>rfl
 | .cmp _ a b=>by simp[Cn.d,Hp.noL,noLs,a.noL,b.noL]
 | .nt c=>by simp[Cn.d,Hp.noL,noLs,c.noL]
 | .two _ a b=>by simp[Cn.d,Hp.noL,noLs,a.noL,b.noL]
def qK(v f:Nat):Fn:=⟨3,6,
 (.cons (.set (.n 3) (.idx (.v 0) (.c (.int 0))))
 (.cons (.iff (.cmp .Eq (.v 3) (.c (.str "yes")))
  (.cons (.ret (.c (.bl true)))
  .nil)
  .nil)
 (.cons (.iff (.cmp .Eq (.v 3) (.c (.str "not")))
  (.cons (.ret (.nt (.call f (.cons (.idx (.v 0) (.c (.int 1))) (.cons (.v 1) (.cons (.v 2) .nil))))))
  .nil)
  .nil)
 (.cons (.iff (.cmp .Eq (.v 3) (.c (.str "both")))
  (.cons (.ret (.an (.call f (.cons (.idx (.v 0) (.c (.int 1))) (.cons (.v 1) (.cons (.v 2) .nil)))) (.call f (.cons (.idx (.v 0) (.c (.int 2))) (.cons (.v 1) (.cons (.v 2) .nil))))))
  .nil)
  .nil)
 (.cons (.iff (.cmp .Eq (.v 3) (.c (.str "either")))
  (.cons (.ret (.orr (.call f (.cons (.idx (.v 0) (.c (.int 1))) (.cons (.v 1) (.cons (.v 2) .nil)))) (.call f (.cons (.idx (.v 0) (.c (.int 2))) (.cons (.v 1) (.cons (.v 2) .nil))))))
  .nil)
  .nil)
 (.cons (.set (.n 4) (.call v (.cons (.idx (.v 0) (.c (.int 1))) (.cons (.v 1) (.cons (.v 2) .nil)))))
 (.cons (.set (.n 5) (.call v (.cons (.idx (.v 0) (.c (.int 2))) (.cons (.v 1) (.cons (.v 2) .nil)))))
 (.cons (.ret (.ife (.cmp .Eq (.v 3) (.c (.str "is"))) (.cmp .Eq (.v 4) (.v 5)) (.cmp .Lt (.v 4) (.v 5))))
 .nil))))))))⟩
theorem aMP:(("yes" : Str) == "yes")=true:=by decide +kernel
theorem aMQ:(("not" : Str) == "yes")=false:=by decide +kernel
theorem aMR:(("not" : Str) == "not")=true:=by decide +kernel
theorem aMS:∀p,(nX p == "yes")=false:=by decide +kernel
theorem aMT:∀p,(nX p == "not")=false:=by decide +kernel
theorem aMU:∀p,(nX p == "both")=false:=by decide +kernel
theorem aMV:∀p,(nX p == "either")=false:=by decide +kernel
theorem aMW:∀p,(nX p == "is")=p:=by decide +kernel
theorem aMX:∀p,(kE p == "yes")=false:=by decide +kernel
theorem aMY:∀p,(kE p == "not")=false:=by decide +kernel
theorem aLg:∀p,(kE p == "both")=p:=by decide +kernel
theorem aMZ:∀p,(kE p == "either")=!p:=by decide +kernel
theorem Sm.sz_pos:∀s:Sm,1<=s.sz
 | .num _=>Nat.le_refl _|.box _=>Nat.le_refl _|.aft _=>Nat.le_refl _
 | .two _ a b=>by show 1<=1+a.sz+b.sz;omega
theorem Cn.sz_pos:∀s:Cn,1<=s.sz
 | .yes=>Nat.le_refl _
 | .cmp _ a b=>by show 1<=1+a.sz+b.sz;omega
 | .nt c=>by show 1<=1+c.sz;omega
 | .two _ a b=>by show 1<=1+a.sz+b.sz;omega
theorem lX{P:Pg}{v f:Nat}(hV:P.fns[v]? = some (nB v))(hF:P.fns[f]? = some (qK v f)){ah be:List Int}{bd:D}{c:Nat}{pl:Bool}(ha:ah.length=c)(hb:be.length=c)(hn:Hp.noL bd=true)(hbd:pl=false->bd=aM be) :
 ∀(s:Cn) (n:Nat),s.wf c pl->call P (n+s.sz) f [s.d,aM ah,bd]=.ok (.bl (s.hold ah be),false,false)
 | .yes,n,w=>by
  refine aH (F:=qK v f) hF rfl (v:=.cl (.bl true)) ?_
  exact cs (aZ (bE (v0_ rfl) rfl (fZ _ _ rfl))) (fX (dF rfl aMP) (bD rfl))
 | .cmp i a b,n,w=>by
  obtain⟨w1,w2⟩:a.wf c pl/\b.wf c pl:=w
  have c1:=jK hV ha hb hn hbd a (n+b.sz) w1
  have c2:=jK hV ha hb hn hbd b (n+a.sz) w2
  rw[show n+b.sz+a.sz=n+a.sz+b.sz by omega] at c1
  have e:n+Cn.sz (.cmp i a b)=n+a.sz+b.sz+1:=by show n+(1+a.sz+b.sz)=_;omega
  rw[e]
  refine aH (F:=qK v f) hF rfl (v:=.cl (.bl (Cn.hold ah be (.cmp i a b)))) ?_
  refine cs (aZ (bE (v0_ (Cn.noL _)) rfl (fZ _ _ rfl))) (cs (cA (dF rfl (aMS i))) (cs (cA (dF rfl (aMT i))) (cs (cA (dF rfl (aMU i))) (cs (cA (dF rfl (aMV i))) (cs (aZ (bO (bE (v0_ (Cn.noL _)) rfl (gA _ _ _ a.noL)) (v1_ (aS _)) (v2_ hn) c1)) (cs (aZ (bO (bE (v0_ (Cn.noL _)) rfl (zJ _ _ _ _ b.noL)) (v1_ (aS _)) (v2_ hn) c2)) (bD (aAA (dF rfl (aMW i)) ?_))))))))
  cases i <;> rfl
 | .nt x,n,w=>by
  have c1:=lX hV hF ha hb hn hbd x n w
  have e:n+Cn.sz (.nt x)=n+x.sz+1:=by show n+(1+x.sz)=_;omega
  rw[e]
  refine aH (F:=qK v f) hF rfl (v:=.cl (.bl (Cn.hold ah be (.nt x)))) ?_
  exact cs (aZ (bE (v0_ (Cn.noL _)) rfl (fZ _ _ rfl))) (cs (cA (dF rfl aMQ)) (fX (dF rfl aMR) (bD (aIu (bO (bE (v0_ (Cn.noL _)) rfl (gA _ _ _ x.noL)) (v1_ (aS _)) (v2_ hn) c1)))))
 | .two p a b,n,w=>by
  obtain⟨w1,w2⟩:a.wf c pl/\b.wf c pl:=w
  have c1:=lX hV hF ha hb hn hbd a (n+b.sz) w1
  have c2:=lX hV hF ha hb hn hbd b (n+a.sz) w2
  rw[show n+b.sz+a.sz=n+a.sz+b.sz by omega] at c1
  have e:n+Cn.sz (.two p a b)=n+a.sz+b.sz+1:=by show n+(1+a.sz+b.sz)=_;omega
  rw[e]
  refine aH (F:=qK v f) hF rfl (v:=.cl (.bl (Cn.hold ah be (.two p a b)))) ?_
  refine cs (aZ (bE (v0_ (Cn.noL _)) rfl (fZ _ _ rfl))) (cs (cA (dF rfl (aMX p))) (cs (cA (dF rfl (aMY p))) ?_))
  cases p with
  | true=>exact fX (dF rfl (aLg true)) (bD (aFx (bO (bE (v0_ (Cn.noL _)) rfl (gA _ _ _ a.noL)) (v1_ (aS _)) (v2_ hn) c1) (bO (bE (v0_ (Cn.noL _)) rfl (zJ _ _ _ _ b.noL)) (v1_ (aS _)) (v2_ hn) c2)))
  | false=>exact cs (cA (dF rfl (aLg false))) (fX (dF rfl (aMZ false)) (bD (aKY (bO (bE (v0_ (Cn.noL _)) rfl (gA _ _ _ a.noL)) (v1_ (aS _)) (v2_ hn) c1) (bO (bE (v0_ (Cn.noL _)) rfl (zJ _ _ _ _ b.noL)) (v1_ (aS _)) (v2_ hn) c2))))
def condTab:List (Str×D):=[("yes",.tup []),("is",.tup [.str "sum",.str "sum"]),("less",.tup [.str "sum",.str "sum"]),("not",.tup [.str "cond"]),("both",.tup [.str "cond",.str "cond"]),("either",.tup [.str "cond",.str "cond"])]
def Cn.word:Cn->Str
 | .yes => "yes" | .cmp i _ _=>nX i|.nt _ => "not" | .two p _ _=>kE p
def Cn.rest:Cn->List D
 | .yes=>[]|.cmp _ a b=>[a.d,b.d]|.nt x=>[x.d]|.two _ a b=>[a.d,b.d]
def Cn.form:Cn->List Str
 | .yes=>[]|.cmp _ _ _=>["sum", "sum"]|.nt _=>["cond"]|.two _ _ _=>["cond", "cond"]
theorem Cn.d_eq:∀s:Cn,s.d=.tup (.str s.word::s.rest)
 | .yes=>rfl|.cmp _ _ _=>rfl|.nt _=>rfl|.two _ _ _=>rfl
theorem Cn.rest_noL:∀s:Cn,noLs s.rest=true
 | .yes=>rfl
 | .cmp _ a b=>by simp[Cn.rest,noLs,a.noL,b.noL]
 | .nt x=>by simp[Cn.rest,noLs,x.noL]
 | .two _ a b=>by simp[Cn.rest,noLs,a.noL,b.noL]
theorem Cn.len_eq:∀s:Cn,s.rest.length=s.form.length
 | .yes=>rfl|.cmp _ _ _=>rfl|.nt _=>rfl|.two _ _ _=>rfl
theorem Cn.look:∀s:Cn,condTab.lookup s.word=some (.tup (s.form.map D.str))
 | .yes=>by rfl
 | .cmp true _ _=>by rfl
 | .cmp false _ _=>by rfl
 | .nt _=>by rfl
 | .two true _ _=>by rfl
 | .two false _ _=>by rfl
theorem Cn.notAfter:∀s:Cn,(s.word == "after")=false
 | .yes=>by show(("yes" : Str) == "after")=false;decide +kernel
 | .cmp true _ _=>by show(nX true == "after")=false;decide +kernel
 | .cmp false _ _=>by show(nX false == "after")=false;decide +kernel
 | .nt _=>by show(("not" : Str) == "after")=false;decide +kernel
 | .two true _ _=>by show(kE true == "after")=false;decide +kernel
 | .two false _ _=>by show(kE false == "after")=false;decide +kernel
theorem aDN{P:Pg}{fo:Nat}(hF:P.fns[fo]? = some fForm)(hT:P.tabs[1]? = some condTab)(n:Nat)(s:Cn){pl:Bool}:call P (n+1) fo [.str "cond",s.d,.bl pl]=.ok (.tup (s.form.map D.str),false,false):=by
 have v1:=dI 1 true s.noL
 rw[s.d_eq] at v1 ⊢
 have i0:=fZ (.str s.word) s.rest rfl
 have qs:(("cond" : Str) == "sum")=false:=by decide +kernel
 have hln:((.str s.word::s.rest:List D).length:Int)=(s.form.length:Int)+1:=by rw[lC,s.len_eq];omega
 have h0:((((.str s.word::s.rest:List D).length:Int))==0)=false:=by rw[hln];exact beq_eq_false_iff_ne.mpr (by omega)
 have t1:tst P (call P n) [.sh true (.str "cond"),.sh true (.tup (.str s.word::s.rest)),.sh true (.bl pl),.dead,.dead] (.orr (.nt (.isi (.v 1) [.tTuple])) (.orr (.cmp .Eq (.bi .len (.cons (.v 1) .nil)) (.c (.int 0))) (.nt (.isi (.idx (.v 1) (.c (.int 0))) [.tStr]))))=.ok false:=by
  simp only[fM,kU,aAv,dC,fW,aC,qD,iM,aG,bG,bZ,gS,gZ,v1,aA,dE,aAy,Bool.not_true,bF,if_false,gJ,fH,gH,h0,i0,aAx]
 have t2:tst P (call P n) [.sh true (.str "cond"),.sh true (.tup (.str s.word::s.rest)),.sh true (.bl pl),.sh false (.str s.word),.sh false (.tup (s.form.map D.str))] (.orr (.cmp .Is (.v 4) (.c .non)) (.cmp .NotEq (.bi .len (.cons (.v 1) .nil)) (.op .Add (.bi .len (.cons (.v 4) .nil)) (.c (.int 1)))))=.ok false:=by
  have hi:cG .Is (.tup (s.form.map D.str)) .non=some false:=rfl
  have hq:(((s.form.length:Int)+1==(s.form.length:Int)+1))=true:=beq_self_eq_true _
  simp only[fM,dC,fW,aC,qD,wN,aG,bG,bZ,gS,gZ,v1,bU,aA,dE,hi,bF,if_false,gJ,hln,lM,add_int,qH,gH,hq,Option.map_some,Bool.not_true]
 have t3:tst P (call P n) [.sh true (.str "cond"),.sh true (.tup (.str s.word::s.rest)),.sh true (.bl pl),.sh false (.str s.word),.sh false (.tup (s.form.map D.str))] (.an (.v 2) (.cmp .Eq (.v 3) (.c (.str "after"))))=.ok false:=by
  simp only[zF,aGj,dC,fW,aC,bZ,gS,gZ,mZ,bU,aA,uD,dE,fH,gI,s.notAfter]
  cases pl <;> rfl
 refine aH (F:=fForm) hF rfl (v:=.cl (.tup (s.form.map D.str))) ?_
 have hl:=s.look
 show exs P (call P n) [.sh true (.str "cond"),.sh true (.tup (.str s.word::s.rest)),.sh true (.bl pl),.dead,.dead] fForm.body=_
 unfold fForm
 simp only[cB,eR,eQ,t1,bH,bF,if_false,rD,fA,iM,fW,aC,bZ,gS,gZ,v1,aA,i0,gG,cO,kC,eF,lS,lZ,zD,dC,oH,dE,fH,gI,qs,wU,bU,hT,hl,Option.getD_some,t2,t3,oE,qB]
theorem jX{P:Pg}{cl:Caller}{s0 s1 s3 s4 s6 s7:Sl}(s:Cn):walk P cl [s0,s1,.sh true s.d,s3,s4,.sh false (.tup (s.form.map D.str)),s6,s7] (.zip (.v 5) (.sli (.v 2) (.cons (.c (.int 1)) .nil) .nil)) =
 .ok ((s.form.zip s.rest).map λp=>gY p.1 p.2,[]):=by
 have v2:=dI 2 true s.noL
 have k1:aL 1=true:=by decide
 have hno:noLs (.str s.word::s.rest)=true:=by simp[noLs,Hp.noL,s.rest_noL]
 have hcut:cut (.str s.word::s.rest) (some 1) none=s.rest:=by cases s <;> rfl
 have hs:eG (.cl (.tup (.str s.word::s.rest))) (some 1) none=.ok (.cl (.tup s.rest)):=by
  unfold eG
  simp only[dE,hcut,wR,Bool.false_and,hno,if_true]
  rfl
 have two:∀(w:Str) {a b:D},Hp.noL a=true->Hp.noL b=true->items ⟨.non,false,false,[]⟩ (eX ([w,w].map D.str) [a,b])=[gY w a,gY w b]:=λw a b ha hb=>by
  show [Vl.sub _ (.tup [.str w,a]),Vl.sub _ (.tup [.str w,b])]=[gY w a,gY w b]
  rw[cJ (by simp[Hp.noL,noLs,ha]),cJ (by simp[Hp.noL,noLs,hb])]
  rfl
 have hz:items ⟨.non,false,false,[]⟩ (eX (s.form.map D.str) s.rest)=(s.form.zip s.rest).map λp=>gY p.1 p.2:=by
  cases s with
  | yes=>rfl
  | cmp _ a b=>exact two _ a.noL b.noL
  | nt x=>
   show [Vl.sub _ (.tup [.str "cond",x.d])]=[gY "cond" x.d]
   rw[cJ (by simp[Hp.noL,noLs,x.noL])]
   rfl
  | two p a b=>exact two _ a.noL b.noL
 rw[s.d_eq] at v2 ⊢
 simp only[jF,fW,aAB,aC,bZ,gS,gZ,v2,bU,aA,dE,k1,wM,hs,iU,wR,Bool.or_self,gG,List.append_nil]
 rw[hz]
theorem aNa:(("cond" : Str) == "sum")=false:=by decide +kernel
theorem aNb:(("cond" : Str) == "cond")=true:=by decide +kernel
theorem nC{P:Pg}{ch lo M:Nat}{bs:List D}{s1 s2 s5:Sl}{pl:Bool}{m m':Int}{d:D}(c1:call P M lo [.lst bs,.str "cond",d,.bl pl,.int m]=.ok (.int m',false,false)) :
 exs P (call P M) [.sh true (.lst bs),s1,s2,.sh true (.bl pl),.sh false (.int m),s5,.sh false (.str "cond"),.sh false d] (dN ch lo)=.next [.sh true (.lst bs),s1,s2,.sh true (.bl pl),.sh false (.int m'),s5,.sh false (.str "cond"),.sh false d]:=by
 simp only[dN,cB,eR,eQ,fM,dC,fW,aC,bZ,gS,gZ,bU,aA,dE,fH,gI,aNa,aNb,bF,if_false,if_true,bH,fA,dB,aG,bG,oI,mZ,mC,mN,c1,kW,gG,cO,kC,eF,lS,lZ,rD]
section
variable {P:Pg} {wh wi ch fo lo:Nat} (hW:P.fns[wh]? = some fWhole) (hI:P.fns[wi]? = some (fWithin wh)) (hC:P.fns[ch]? = some (fCheck wi)) (hO:P.fns[fo]? = some fForm) (hT:P.tabs[0]? = some sumTab) (hU:P.tabs[1]? = some condTab) (hL:P.fns[lo]? = some (fLook fo ch lo))
include hW hI hC hO hT hU hL
theorem lY{m:Nat}{bs:List D}{s:Cn}{pl:Bool}{seen r:Int}{s6 s7:Sl}(hs:seen<40)
 (hfor:ex P (call P (m+1)) [.sh true (.lst bs),.sh true (.str "cond"),.sh true s.d,.sh true (.bl pl),.sh false (.int (seen+1)),.sh false (.tup (s.form.map D.str)),.dead,.dead] (.for (.t [6,7]) (.zip (.v 5) (.sli (.v 2) (.cons (.c (.int 1)) .nil) .nil)) (dN ch lo)) =
  .next [.sh true (.lst bs),.sh true (.str "cond"),.sh true s.d,.sh true (.bl pl),.sh false (.int r),.sh false (.tup (s.form.map D.str)),s6,s7]) :
 call P (m+2) lo [.lst bs,.str "cond",s.d,.bl pl,.int seen]=.ok (.int r,false,false):=by
 have c1:=aDN hO hU m s (pl:=pl)
 have v2:=dI 2 true s.noL
 have q40:(seen==40)=false:=beq_eq_false_iff_ne.mpr (by omega)
 refine aH (F:=fLook fo ch lo) hL rfl (v:=.cl (.int r)) ?_
 show exs P (call P (m+1)) [.sh true (.lst bs),.sh true (.str "cond"),.sh true s.d,.sh true (.bl pl),.sh true (.int seen),.dead,.dead,.dead] (.cons (.iff (.cmp .Eq (.v 4) (.c (.int 40)))
  (.cons (.rse 2 false (.cons (.c (.str "a condition or sum has at most forty parts")) .nil))
  .nil)
  .nil)
 (.cons (.set (.n 4) (.op .Add (.v 4) (.c (.int 1))))
 (.cons (.set (.n 5) (.call fo (.cons (.v 1) (.cons (.v 2) (.cons (.v 3) .nil)))))
 (.cons (.for (.t [6,7]) (.zip (.v 5) (.sli (.v 2) (.cons (.c (.int 1)) .nil) .nil)) (dN ch lo))
 (.cons (.retv 4)
 .nil)))))=_
 simp only[cB,eR,eQ,dC,fW,aC,bZ,gS,gZ,oG,aA,dE,fH,gH,q40,bF,if_false,bH,rD,fA,wN,add_int,gG,cO,kC,eF,lS,lZ,dB,aG,bG,oH,v2,mZ,mC,mN,c1,kW,hfor,oE,qB]
theorem jL{bs:List D}{c:Nat}(hc:bs.length=c){pl:Bool}:∀(s:Cn) (n:Nat) (seen:Int),s.wf c pl->seen+s.sz<=40->call P (n+3+s.sz) lo [.lst bs,.str "cond",s.d,.bl pl,.int seen]=.ok (.int (seen+s.sz),false,false)
 | .yes,n,seen,w,h=>by
  have h:seen+1<=40:=h
  refine lY hW hI hC hO hT hU hL (m:=n+2) (s:=.yes) (s6:=.dead) (s7:=.dead) (by omega) ?_
  rw[jG,jX,bH]
  rfl
 | .cmp i a b,n,seen,w,h=>by
  have h:seen+((1+a.sz+b.sz:Nat):Int)<=40:=h
  obtain⟨w1,w2⟩:a.wf c pl/\b.wf c pl:=w
  have pa:=a.sz_pos
  have c1:=lW hW hI hC hO hT hL hc a (n+b.sz) (seen+1) w1 (by omega)
  have c2:=lW hW hI hC hO hT hL hc b (n+a.sz) (seen+1+a.sz) w2 (by omega)
  have e1:n+b.sz+3+a.sz=n+2+a.sz+b.sz+1:=by omega
  have e2:n+a.sz+3+b.sz=n+2+a.sz+b.sz+1:=by omega
  rw[e1] at c1
  rw[e2] at c2
  have e3:n+3+Cn.sz (.cmp i a b)=n+2+a.sz+b.sz+2:=by show n+3+(1+a.sz+b.sz)=_;omega
  have e4:seen+((Cn.sz (.cmp i a b):Nat):Int)=seen+1+a.sz+b.sz:=by show seen+((1+a.sz+b.sz:Nat):Int)=_;omega
  rw[e3,e4]
  refine lY hW hI hC hO hT hU hL (m:=n+2+a.sz+b.sz) (s6:=.sh false (.str "sum")) (s7:=.sh false b.d) (by omega) ?_
  rw[jG,jX,bH]
  have ef:(Cn.cmp i a b).form=[("sum" : Str),("sum" : Str)]:=rfl
  have er:(Cn.cmp i a b).rest=[a.d,b.d]:=rfl
  simp only[ef,er,List.zip_cons_cons,List.zip_nil_left,mC,mN,cO,eB,nP a.noL,nP b.noL,bH,lV c1,lV c2]
 | .nt x,n,seen,w,h=>by
  have h:seen+((1+x.sz:Nat):Int)<=40:=h
  have pa:=x.sz_pos
  have c1:=jL hc x n (seen+1) w (by omega)
  have e1:n+3+x.sz=n+2+x.sz+1:=by omega
  rw[e1] at c1
  have e3:n+3+Cn.sz (.nt x)=n+2+x.sz+2:=by show n+3+(1+x.sz)=_;omega
  have e4:seen+((Cn.sz (.nt x):Nat):Int)=seen+1+x.sz:=by show seen+((1+x.sz:Nat):Int)=_;omega
  rw[e3,e4]
  refine lY hW hI hC hO hT hU hL (m:=n+2+x.sz) (s6:=.sh false (.str "cond")) (s7:=.sh false x.d) (by omega) ?_
  rw[jG,jX,bH]
  have ef:(Cn.nt x).form=[("cond" : Str)]:=rfl
  have er:(Cn.nt x).rest=[x.d]:=rfl
  simp only[ef,er,List.zip_cons_cons,List.zip_nil_left,mC,mN,cO,eB,nP x.noL,bH,nC c1]
 | .two p a b,n,seen,w,h=>by
  have h:seen+((1+a.sz+b.sz:Nat):Int)<=40:=h
  obtain⟨w1,w2⟩:a.wf c pl/\b.wf c pl:=w
  have pa:=a.sz_pos
  have c1:=jL hc a (n+b.sz) (seen+1) w1 (by omega)
  have c2:=jL hc b (n+a.sz) (seen+1+a.sz) w2 (by omega)
  have e1:n+b.sz+3+a.sz=n+2+a.sz+b.sz+1:=by omega
  have e2:n+a.sz+3+b.sz=n+2+a.sz+b.sz+1:=by omega
  rw[e1] at c1
  rw[e2] at c2
  have e3:n+3+Cn.sz (.two p a b)=n+2+a.sz+b.sz+2:=by show n+3+(1+a.sz+b.sz)=_;omega
  have e4:seen+((Cn.sz (.two p a b):Nat):Int)=seen+1+a.sz+b.sz:=by show seen+((1+a.sz+b.sz:Nat):Int)=_;omega
  rw[e3,e4]
  refine lY hW hI hC hO hT hU hL (m:=n+2+a.sz+b.sz) (s6:=.sh false (.str "cond")) (s7:=.sh false b.d) (by omega) ?_
  rw[jG,jX,bH]
  have ef:(Cn.two p a b).form=[("cond" : Str),("cond" : Str)]:=rfl
  have er:(Cn.two p a b).rest=[a.d,b.d]:=rfl
  simp only[ef,er,List.zip_cons_cons,List.zip_nil_left,mC,mN,cO,eB,nP a.noL,nP b.noL,bH,nC c1,nC c2]
end
end HpS
end
noncomputable section
namespace K65
open Hp
def f0:Hp.Fn:=⟨3,6,
 (.cons (.set (.n 3) (.idx (.v 0) (.c (.int 0))))
 (.cons (.iff (.cmp .Eq (.v 3) (.c (.str "number")))
  (.cons (.ret (.idx (.v 0) (.c (.int 1))))
  .nil)
  .nil)
 (.cons (.iff (.cmp .Eq (.v 3) (.c (.str "box")))
  (.cons (.ret (.idx (.v 1) (.idx (.v 0) (.c (.int 1)))))
  .nil)
  .nil)
 (.cons (.iff (.cmp .Eq (.v 3) (.c (.str "after")))
  (.cons (.ret (.idx (.v 2) (.idx (.v 0) (.c (.int 1)))))
  .nil)
  .nil)
 (.cons (.set (.n 4) (.call 0 (.cons (.idx (.v 0) (.c (.int 1))) (.cons (.v 1) (.cons (.v 2) .nil)))))
 (.cons (.set (.n 5) (.call 0 (.cons (.idx (.v 0) (.c (.int 2))) (.cons (.v 1) (.cons (.v 2) .nil)))))
 (.cons (.ret (.ife (.cmp .Eq (.v 3) (.c (.str "plus"))) (.op .Add (.v 4) (.v 5)) (.op .Sub (.v 4) (.v 5))))
 .nil)))))))⟩
def f1:Hp.Fn:=⟨3,6,
 (.cons (.set (.n 3) (.idx (.v 0) (.c (.int 0))))
 (.cons (.iff (.cmp .Eq (.v 3) (.c (.str "yes")))
  (.cons (.ret (.c (.bl true)))
  .nil)
  .nil)
 (.cons (.iff (.cmp .Eq (.v 3) (.c (.str "not")))
  (.cons (.ret (.nt (.call 1 (.cons (.idx (.v 0) (.c (.int 1))) (.cons (.v 1) (.cons (.v 2) .nil))))))
  .nil)
  .nil)
 (.cons (.iff (.cmp .Eq (.v 3) (.c (.str "both")))
  (.cons (.ret (.an (.call 1 (.cons (.idx (.v 0) (.c (.int 1))) (.cons (.v 1) (.cons (.v 2) .nil)))) (.call 1 (.cons (.idx (.v 0) (.c (.int 2))) (.cons (.v 1) (.cons (.v 2) .nil))))))
  .nil)
  .nil)
 (.cons (.iff (.cmp .Eq (.v 3) (.c (.str "either")))
  (.cons (.ret (.orr (.call 1 (.cons (.idx (.v 0) (.c (.int 1))) (.cons (.v 1) (.cons (.v 2) .nil)))) (.call 1 (.cons (.idx (.v 0) (.c (.int 2))) (.cons (.v 1) (.cons (.v 2) .nil))))))
  .nil)
  .nil)
 (.cons (.set (.n 4) (.call 0 (.cons (.idx (.v 0) (.c (.int 1))) (.cons (.v 1) (.cons (.v 2) .nil)))))
 (.cons (.set (.n 5) (.call 0 (.cons (.idx (.v 0) (.c (.int 2))) (.cons (.v 1) (.cons (.v 2) .nil)))))
 (.cons (.ret (.ife (.cmp .Eq (.v 3) (.c (.str "is"))) (.cmp .Eq (.v 4) (.v 5)) (.cmp .Lt (.v 4) (.v 5))))
 .nil))))))))⟩
def f2:Hp.Fn:=⟨3,7,
 (.cons (.iff (.nt (.call 1 (.cons (.idx (.v 1) (.c (.int 0))) (.cons (.v 2) (.cons (.c .non) .nil)))))
  (.cons (.ret (.c .non))
  .nil)
  .nil)
 (.cons (.set (.n 3) (.bi .list (.cons (.v 2) .nil)))
 (.cons (.for (.t [4,5]) (.seq (.idx (.v 1) (.c (.int 1))))
  (.cons (.set (.n 6) (.call 0 (.cons (.v 5) (.cons (.v 2) (.cons (.c .non) .nil)))))
  (.cons (.iff (.nt (.cmp2 .LtE .LtE (.c (.int 0)) (.v 6) (.idx (.idx (.v 0) (.v 4)) (.c (.int 1)))))
   (.cons (.ret (.c .non))
   .nil)
   .nil)
  (.cons (.setIx 3 (.v 4) (.v 6))
  .nil))))
 (.cons (.ret (.bi .tuple (.cons (.v 3) .nil)))
 .nil))))⟩
def f3:Hp.Fn:=⟨1,2,
 (.cons (.iff (.orr (.nt (.isi (.v 0) [.tList])) (.nt (.cmp2 .LtE .LtE (.c (.int 1)) (.bi .len (.cons (.v 0) .nil)) (.c (.int 5)))))
  (.cons (.rse 4 false (.cons (.c (.str "boxes are a list of one to five tuples (name, top)")) .nil))
  .nil)
  .nil)
 (.cons (.set (.n 1) (.comp 1 [] (.n 0) (.seq (.v 0)) .nil (.call 4 (.cons (.v 0) .nil))))
 (.cons (.iff (.cmp .Lt (.numset (.comp 2 [] (.t [0,1]) (.seq (.v 1)) .nil (.v 0))) (.bi .len (.cons (.v 1) .nil)))
  (.cons (.rse 4 false (.cons (.c (.str "no two boxes have the same name")) .nil))
  .nil)
  .nil)
 (.cons (.iff (.cmp .Gt (.call 6 (.cons (.v 1) .nil)) (.c (.int 24)))
  (.cons (.rse 2 false (.cons (.c (.str "boxes have at most twenty-four stands")) .nil))
  .nil)
  .nil)
 (.cons (.retv 1)
 .nil)))))⟩
def f4:Hp.Fn:=⟨1,1,
 (.cons (.iff (.orr (.nt (.isi (.v 0) [.tTuple])) (.cmp .NotEq (.bi .len (.cons (.v 0) .nil)) (.c (.int 2))))
  (.cons (.rse 4 false (.cons (.c (.str "a box is a tuple (name, top)")) .nil))
  .nil)
  .nil)
 (.cons (.iff (.nt (.call 5 (.cons (.idx (.v 0) (.c (.int 0))) .nil)))
  (.cons (.rse 4 false (.cons (.c (.str "a box's name is a text of one to eight small letters")) .nil))
  .nil)
  .nil)
 (.cons (.iff (.nt (.call 15 (.cons (.idx (.v 0) (.c (.int 1))) (.cons (.c (.int 1)) (.cons (.c (.int 7)) .nil)))))
  (.cons (.rse 4 false (.cons (.c (.str "a box's top is a whole number from 1 to 7")) .nil))
  .nil)
  .nil)
 (.cons (.ret (.tup (.cons (.idx (.v 0) (.c (.int 0))) (.cons (.idx (.v 0) (.c (.int 1))) .nil))))
 .nil))))⟩
def f5:Hp.Fn:=⟨1,1,
 (.cons (.iff (.orr (.nt (.isi (.v 0) [.tStr])) (.nt (.cmp2 .LtE .LtE (.c (.int 1)) (.bi .len (.cons (.v 0) .nil)) (.c (.int 8)))))
  (.cons (.ret (.c (.bl false)))
  .nil)
  .nil)
 (.cons (.ret (.bi .all (.cons (.comp 1 [] (.n 0) (.seq (.v 0)) .nil (.cmp .In (.v 0) (.c (.str "abcdefghijklmnopqrstuvwxyz")))) .nil)))
 .nil))⟩
def f6:Hp.Fn:=⟨1,4,
 (.cons (.set (.n 1) (.c (.int 1)))
 (.cons (.for (.t [2,3]) (.seq (.v 0))
  (.cons (.set (.n 1) (.op .Mult (.v 1) (.op .Add (.v 3) (.c (.int 1)))))
  .nil))
 (.cons (.retv 1)
 .nil)))⟩
def f7:Hp.Fn:=⟨1,6,
 (.cons (.set (.n 1) (.lst (.cons (.tup .nil) .nil)))
 (.cons (.for (.t [2,3]) (.seq (.v 0))
  (.cons (.set (.n 4) (.lst .nil))
  (.cons (.for (.n 5) (.seq (.v 1))
   (.cons (.ext 4 (.comp 1 [5] (.n 0) (.rng (.c (.int 0)) (.op .Add (.v 3) (.c (.int 1)))) .nil (.op .Add (.v 1) (.tup (.cons (.v 0) .nil)))))
   .nil))
  (.cons (.mov 1 4)
  .nil))))
 (.cons (.retv 1)
 .nil)))⟩
def f8:Hp.Fn:=⟨2,2,
 (.cons (.iff (.orr (.nt (.isi (.v 1) [.tTuple])) (.cmp .NotEq (.bi .len (.cons (.v 1) .nil)) (.bi .len (.cons (.v 0) .nil))))
  (.cons (.ret (.c (.bl false)))
  .nil)
  .nil)
 (.cons (.ret (.bi .all (.cons (.comp 2 [] (.t [0,1]) (.zip (.v 0) (.v 1)) .nil (.call 15 (.cons (.v 1) (.cons (.c (.int 0)) (.cons (.idx (.v 0) (.c (.int 1))) .nil))))) .nil)))
 .nil))⟩
def f9:Hp.Fn:=⟨2,2,
 (.cons (.ret (.comp 1 [1] (.n 0) (.seq (.call 7 (.cons (.v 0) .nil))) (.cons (.call 1 (.cons (.v 1) (.cons (.v 0) (.cons (.c .non) .nil)))) .nil) (.v 0)))
 .nil)⟩
def f10:Hp.Fn:=⟨1,1,
 (.cons (.ret (.sset (.comp 1 [] (.n 0) (.seq (.call 11 (.cons (.v 0) .nil))) (.cons (.cmp .Eq (.idx (.v 0) (.c (.int 0))) (.c (.str "box"))) .nil) (.idx (.v 0) (.c (.int 1))))))
 .nil)⟩
def f11:Hp.Fn:=⟨1,3,
 (.cons (.set (.n 1) (.lst (.cons (.v 0) .nil)))
 (.cons (.for (.n 2) (.seq (.sli (.v 0) (.cons (.c (.int 1)) .nil) .nil))
  (.cons (.iff (.isi (.v 2) [.tTuple])
   (.cons (.ext 1 (.call 11 (.cons (.v 2) .nil)))
   .nil)
   .nil)
  .nil))
 (.cons (.retv 1)
 .nil)))⟩
def f12:Hp.Fn:=⟨1,4,
 (.cons (.set (.n 1) (.call 10 (.cons (.idx (.v 0) (.c (.int 0))) .nil)))
 (.cons (.for (.t [2,3]) (.seq (.idx (.v 0) (.c (.int 1))))
  (.cons (.ext 1 (.call 10 (.cons (.v 3) .nil)))
  .nil))
 (.cons (.ret (.sset (.v 1)))
 .nil)))⟩
def f13:Hp.Fn:=⟨1,1,
 (.cons (.ret (.comp 2 [] (.t [0,1]) (.seq (.idx (.v 0) (.c (.int 1)))) .nil (.v 0)))
 .nil)⟩
def f14:Hp.Fn:=⟨1,1,
 (.cons (.ret (.an (.isi (.v 0) [.tInt]) (.nt (.isi (.v 0) [.tBool]))))
 .nil)⟩
def f15:Hp.Fn:=⟨3,3,
 (.cons (.ret (.an (.call 14 (.cons (.v 0) .nil)) (.cmp2 .LtE .LtE (.v 1) (.v 0) (.v 2))))
 .nil)⟩
def f16:Hp.Fn:=⟨3,3,
 (.cons (.ex (.call 18 (.cons (.v 0) (.cons (.c (.str "sum")) (.cons (.v 1) (.cons (.v 2) (.cons (.c (.int 0)) .nil)))))))
 (.cons (.retv 1)
 .nil))⟩
def f17:Hp.Fn:=⟨3,3,
 (.cons (.ex (.call 18 (.cons (.v 0) (.cons (.c (.str "cond")) (.cons (.v 1) (.cons (.v 2) (.cons (.c (.int 0)) .nil)))))))
 (.cons (.retv 1)
 .nil))⟩
def f18:Hp.Fn:=⟨5,8,
 (.cons (.iff (.cmp .Eq (.v 4) (.c (.int 40)))
  (.cons (.rse 2 false (.cons (.c (.str "a condition or sum has at most forty parts")) .nil))
  .nil)
  .nil)
 (.cons (.set (.n 4) (.op .Add (.v 4) (.c (.int 1))))
 (.cons (.set (.n 5) (.call 19 (.cons (.v 1) (.cons (.v 2) (.cons (.v 3) .nil)))))
 (.cons (.for (.t [6,7]) (.zip (.v 5) (.sli (.v 2) (.cons (.c (.int 1)) .nil) .nil))
  (.cons (.iff (.orr (.cmp .Eq (.v 6) (.c (.str "sum"))) (.cmp .Eq (.v 6) (.c (.str "cond"))))
   (.cons (.set (.n 4) (.call 18 (.cons (.v 0) (.cons (.v 6) (.cons (.v 7) (.cons (.v 3) (.cons (.v 4) .nil)))))))
   .nil)
   (.cons (.ex (.call 20 (.cons (.v 0) (.cons (.v 6) (.cons (.v 7) .nil)))))
   .nil))
  .nil))
 (.cons (.retv 4)
 .nil)))))⟩
def f19:Hp.Fn:=⟨3,5,
 (.cons (.iff (.orr (.nt (.isi (.v 1) [.tTuple])) (.orr (.cmp .Eq (.bi .len (.cons (.v 1) .nil)) (.c (.int 0))) (.nt (.isi (.idx (.v 1) (.c (.int 0))) [.tStr]))))
  (.cons (.rse 1 false (.cons (.c (.str "a part is a tuple that begins with a word")) .nil))
  .nil)
  .nil)
 (.cons (.set (.n 3) (.idx (.v 1) (.c (.int 0))))
 (.cons (.set (.n 4) (.ife (.cmp .Eq (.v 0) (.c (.str "sum"))) (.tget 0 (.v 3)) (.tget 1 (.v 3))))
 (.cons (.iff (.orr (.cmp .Is (.v 4) (.c .non)) (.cmp .NotEq (.bi .len (.cons (.v 1) .nil)) (.op .Add (.bi .len (.cons (.v 4) .nil)) (.c (.int 1)))))
  (.cons (.rse 1 false (.cons (.c (.str "a part has a word that is due there, and as many things as go with it")) .nil))
  .nil)
  .nil)
 (.cons (.iff (.an (.v 2) (.cmp .Eq (.v 3) (.c (.str "after"))))
  (.cons (.rse 1 false (.cons (.c (.str "no after stands where a plain one is due")) .nil))
  .nil)
  .nil)
 (.cons (.retv 4)
 .nil))))))⟩
def f20:Hp.Fn:=⟨3,4,
 (.cons (.set (.n 3) (.ife (.cmp .Eq (.v 1) (.c (.str "number"))) (.c (.int 99)) (.op .Sub (.bi .len (.cons (.v 0) .nil)) (.c (.int 1)))))
 (.cons (.iff (.nt (.call 15 (.cons (.v 2) (.cons (.c (.int 0)) (.cons (.v 3) .nil)))))
  (.cons (.rse 1 false (.cons (.c (.str "a number is a whole one from 0 to 99, a box the number of one")) .nil))
  .nil)
  .nil)
 .nil))⟩
def f21:Hp.Fn:=⟨2,2,
 (.cons (.iff (.orr (.nt (.isi (.v 1) [.tList])) (.cmp .Gt (.bi .len (.cons (.v 1) .nil)) (.c (.int 8))))
  (.cons (.rse 3 false (.cons (.c (.str "a hand is a list of none to eight rows")) .nil))
  .nil)
  .nil)
 (.cons (.ret (.comp 1 [0,1] (.n 0) (.seq (.v 1)) .nil (.call 22 (.cons (.v 1) (.cons (.v 0) (.cons (.bi .len (.cons (.v 2) .nil)) .nil))))))
 .nil))⟩
def f22:Hp.Fn:=⟨3,3,
 (.cons (.iff (.orr (.nt (.isi (.v 1) [.tList])) (.nt (.cmp2 .LtE .LtE (.c (.int 1)) (.bi .len (.cons (.v 1) .nil)) (.c (.int 4)))))
  (.cons (.rse 3 false (.cons (.c (.str "a row is a list of one to four ways")) .nil))
  .nil)
  .nil)
 (.cons (.ret (.comp 1 [0,2] (.n 0) (.seq (.v 1)) .nil (.call 23 (.cons (.v 1) (.cons (.v 0) (.cons (.v 2) .nil))))))
 .nil))⟩
def f23:Hp.Fn:=⟨3,3,
 (.cons (.iff (.orr (.nt (.isi (.v 1) [.tTuple])) (.cmp .NotEq (.bi .len (.cons (.v 1) .nil)) (.c (.int 3))))
  (.cons (.rse 3 false (.cons (.c (.str "a way is a tuple (guard, puts, next)")) .nil))
  .nil)
  .nil)
 (.cons (.ex (.call 24 (.cons (.v 0) (.cons (.idx (.v 1) (.c (.int 0))) .nil))))
 (.cons (.ex (.call 25 (.cons (.v 0) (.cons (.idx (.v 1) (.c (.int 1))) .nil))))
 (.cons (.iff (.nt (.call 15 (.cons (.idx (.v 1) (.c (.int 2))) (.cons (.c (.int 0)) (.cons (.v 2) .nil)))))
  (.cons (.rse 3 false (.cons (.c (.str "a way's next is a place of the hand")) .nil))
  .nil)
  .nil)
 (.cons (.retv 1)
 .nil)))))⟩
def f24:Hp.Fn:=⟨2,2,
 (.cons (.tryN (.cons (.ex (.call 17 (.cons (.v 0) (.cons (.v 1) (.cons (.c (.bl true)) .nil)))))
  .nil))
 .nil)⟩
def f25:Hp.Fn:=⟨2,4,
 (.cons (.iff (.nt (.isi (.v 1) [.tTuple]))
  (.cons (.rse 3 false (.cons (.c (.str "puts are a tuple")) .nil))
  .nil)
  .nil)
 (.cons (.set (.n 2) (.c (.int 0)))
 (.cons (.for (.n 3) (.seq (.v 1))
  (.cons (.ex (.call 26 (.cons (.v 0) (.cons (.v 3) (.cons (.v 2) .nil)))))
  (.cons (.set (.n 2) (.op .Add (.idx (.v 3) (.c (.int 0))) (.c (.int 1))))
  .nil)))
 .nil)))⟩
def f26:Hp.Fn:=⟨3,3,
 (.cons (.iff (.orr (.nt (.isi (.v 1) [.tTuple])) (.cmp .NotEq (.bi .len (.cons (.v 1) .nil)) (.c (.int 2))))
  (.cons (.rse 3 false (.cons (.c (.str "a put is a tuple (box, sum)")) .nil))
  .nil)
  .nil)
 (.cons (.iff (.nt (.call 15 (.cons (.idx (.v 1) (.c (.int 0))) (.cons (.v 2) (.cons (.op .Sub (.bi .len (.cons (.v 0) .nil)) (.c (.int 1))) .nil)))))
  (.cons (.rse 3 false (.cons (.c (.str "puts are of the boxes' numbers, rising, each once")) .nil))
  .nil)
  .nil)
 (.cons (.tryN (.cons (.ex (.call 16 (.cons (.v 0) (.cons (.idx (.v 1) (.c (.int 1))) (.cons (.c (.bl true)) .nil)))))
  .nil))
 .nil)))⟩
def f27:Hp.Fn:=⟨5,10,
 (.cons (.set (.n 5) (.call 3 (.cons (.v 0) .nil)))
 (.cons (.set (.n 6) (.call 29 (.cons (.v 5) (.cons (.v 1) (.cons (.c (.bl true)) .nil)))))
 (.cons (.set (.n 7) (.call 31 (.cons (.v 5) (.cons (.v 2) .nil))))
 (.cons (.set (.n 8) (.call 30 (.cons (.v 5) (.cons (.v 3) (.cons (.bi .len (.cons (.v 7) .nil)) (.cons (.c (.bl false)) .nil))))))
 (.cons (.set (.n 9) (.call 32 (.cons (.v 5) (.cons (.v 4) (.cons (.v 7) .nil)))))
 (.cons (.iff (.cmp .Gt (.call 34 (.cons (.v 5) (.cons (.v 7) .nil))) (.c (.int 1000)))
  (.cons (.rse 2 false (.cons (.c (.str "stands and places of a house make at most a thousand states")) .nil))
  .nil)
  .nil)
 (.cons (.ret (.tup (.cons (.v 5) (.cons (.v 6) (.cons (.v 7) (.cons (.v 8) (.cons (.v 9) .nil)))))))
 .nil)))))))⟩
def f28:Hp.Fn:=⟨2,2,
 (.cons (.ret (.ife (.cmp2 .LtE .Lt (.c (.int 0)) (.v 1) (.bi .len (.cons (.v 0) .nil))) (.idx (.v 0) (.v 1)) (.lst .nil)))
 .nil)⟩
def f29:Hp.Fn:=⟨3,3,
 (.cons (.tryN (.cons (.ret (.call 17 (.cons (.v 0) (.cons (.v 1) (.cons (.v 2) .nil)))))
  .nil))
 .nil)⟩
def f30:Hp.Fn:=⟨4,4,
 (.cons (.iff (.orr (.nt (.isi (.v 1) [.tList])) (.cmp .NotEq (.bi .len (.cons (.v 1) .nil)) (.v 2)))
  (.cons (.rse 5 false (.cons (.c (.str "there is a promise for each hand, and a note for each of its places")) .nil))
  .nil)
  .nil)
 (.cons (.ret (.comp 1 [0,3] (.n 0) (.seq (.v 1)) .nil (.call 29 (.cons (.v 1) (.cons (.v 0) (.cons (.v 2) .nil))))))
 .nil))⟩
def f31:Hp.Fn:=⟨2,2,
 (.cons (.iff (.orr (.nt (.isi (.v 1) [.tList])) (.nt (.cmp2 .LtE .LtE (.c (.int 1)) (.bi .len (.cons (.v 1) .nil)) (.c (.int 3)))))
  (.cons (.rse 5 false (.cons (.c (.str "a house has a list of one to three hands")) .nil))
  .nil)
  .nil)
 (.cons (.tryN (.cons (.ret (.comp 1 [0] (.n 0) (.seq (.v 1)) .nil (.call 21 (.cons (.v 1) (.cons (.v 0) .nil)))))
  .nil))
 .nil))⟩
def f32:Hp.Fn:=⟨3,3,
 (.cons (.iff (.orr (.nt (.isi (.v 1) [.tList])) (.cmp .NotEq (.bi .len (.cons (.v 1) .nil)) (.bi .len (.cons (.v 2) .nil))))
  (.cons (.rse 5 false (.cons (.c (.str "there is a list of notes for each hand")) .nil))
  .nil)
  .nil)
 (.cons (.ret (.comp 2 [0] (.t [0,1]) (.zip (.v 1) (.v 2)) .nil (.call 30 (.cons (.v 2) (.cons (.v 0) (.cons (.call 33 (.cons (.v 1) .nil)) (.cons (.c (.bl true)) .nil)))))))
 .nil))⟩
def f33:Hp.Fn:=⟨1,1,
 (.cons (.ret (.op .Add (.bi .len (.cons (.v 0) .nil)) (.c (.int 1))))
 .nil)⟩
def f34:Hp.Fn:=⟨2,4,
 (.cons (.set (.n 2) (.call 6 (.cons (.v 0) .nil)))
 (.cons (.for (.n 3) (.seq (.v 1))
  (.cons (.set (.n 2) (.op .Mult (.v 2) (.call 33 (.cons (.v 3) .nil))))
  .nil))
 (.cons (.retv 2)
 .nil)))⟩
def f35:Hp.Fn:=⟨3,9,
 (.cons (.set (.n 3) (.idx (.v 2) (.c (.int 0))))
 (.cons (.iff (.nt (.cmp2 .LtE .Lt (.c (.int 0)) (.v 3) (.bi .len (.cons (.idx (.v 0) (.c (.int 2))) .nil))))
  (.cons (.ret (.c .non))
  .nil)
  .nil)
 (.cons (.set (.n 4) (.idx (.v 1) (.c (.int 0))))
 (.cons (.set (.n 5) (.idx (.v 1) (.c (.int 1))))
 (.cons (.set (.n 6) (.call 28 (.cons (.idx (.idx (.v 0) (.c (.int 2))) (.v 3)) (.cons (.idx (.v 5) (.v 3)) .nil))))
 (.cons (.iff (.nt (.cmp2 .LtE .Lt (.c (.int 0)) (.idx (.v 2) (.c (.int 1))) (.bi .len (.cons (.v 6) .nil))))
  (.cons (.ret (.c .non))
  .nil)
  .nil)
 (.cons (.set (.n 7) (.idx (.v 6) (.idx (.v 2) (.c (.int 1)))))
 (.cons (.set (.n 8) (.call 2 (.cons (.idx (.v 0) (.c (.int 0))) (.cons (.v 7) (.cons (.v 4) .nil)))))
 (.cons (.iff (.cmp .Is (.v 8) (.c .non))
  (.cons (.ret (.c .non))
  .nil)
  .nil)
 (.cons (.ret (.tup (.cons (.v 8) (.cons (.op .Add (.op .Add (.sli (.v 5) .nil (.cons (.v 3) .nil)) (.tup (.cons (.idx (.v 7) (.c (.int 2))) .nil))) (.sli (.v 5) (.cons (.op .Add (.v 3) (.c (.int 1))) .nil) .nil)) .nil))))
 .nil))))))))))⟩
def f36:Hp.Fn:=⟨3,7,
 (.cons (.iff (.orr (.nt (.call 8 (.cons (.idx (.v 0) (.c (.int 0))) (.cons (.v 1) .nil)))) (.nt (.call 1 (.cons (.idx (.v 0) (.c (.int 1))) (.cons (.v 1) (.cons (.c .non) .nil))))))
  (.cons (.rse 6 false (.cons (.c (.str "a start is a stand of the boxes at which begin holds")) .nil))
  .nil)
  .nil)
 (.cons (.set (.n 3) (.call 37 (.cons (.v 0) (.cons (.v 1) .nil))))
 (.cons (.set (.n 4) (.lst (.cons (.v 3) .nil)))
 (.cons (.for (.t [5,6]) (.enum (.v 2))
  (.cons (.set (.n 3) (.call 35 (.cons (.v 0) (.cons (.v 3) (.cons (.v 6) .nil)))))
  (.cons (.iff (.cmp .Is (.v 3) (.c .non))
   (.cons (.rse 7 true (.cons (.v 5) .nil))
   .nil)
   .nil)
  (.cons (.app 4 (.v 3))
  .nil))))
 (.cons (.retv 4)
 .nil)))))⟩
def f37:Hp.Fn:=⟨2,2,
 (.cons (.ret (.tup (.cons (.v 1) (.cons (.bi .tuple (.cons (.comp 1 [] (.n 0) (.seq (.idx (.v 0) (.c (.int 2)))) .nil (.c (.int 0))) .nil)) .nil))))
 .nil)⟩
def f38:Hp.Fn:=⟨3,4,
 (.cons (.set (.n 3) (.call 36 (.cons (.v 0) (.cons (.v 1) (.cons (.v 2) .nil)))))
 (.cons (.ret (.comp 2 [] (.t [0,1]) (.zip (.v 2) (.v 3)) .nil (.tup (.cons (.idx (.v 0) (.c (.int 0))) (.cons (.idx (.idx (.v 1) (.c (.int 1))) (.idx (.v 0) (.c (.int 0)))) (.cons (.idx (.v 0) (.c (.int 1))) .nil))))))
 .nil))⟩
def f39:Hp.Fn:=⟨3,3,
 (.cons (.ret (.call 41 (.cons (.call 40 (.cons (.v 0) (.cons (.v 1) .nil))) (.cons (.call 40 (.cons (.v 0) (.cons (.v 2) .nil))) .nil))))
 .nil)⟩
def f40:Hp.Fn:=⟨2,3,
 (.cons (.set (.n 2) (.idx (.call 28 (.cons (.idx (.idx (.v 0) (.c (.int 2))) (.idx (.v 1) (.c (.int 0)))) (.cons (.idx (.v 1) (.c (.int 1))) .nil))) (.idx (.v 1) (.c (.int 2)))))
 (.cons (.ret (.tup (.cons (.idx (.v 1) (.c (.int 0))) (.cons (.call 13 (.cons (.v 2) .nil)) (.cons (.op .Add (.call 12 (.cons (.v 2) .nil)) (.call 13 (.cons (.v 2) .nil))) .nil)))))
 .nil))⟩
def f41:Hp.Fn:=⟨2,2,
 (.cons (.ret (.an (.cmp .NotEq (.idx (.v 0) (.c (.int 0))) (.idx (.v 1) (.c (.int 0)))) (.an (.nt (.call 42 (.cons (.idx (.v 0) (.c (.int 1))) (.cons (.idx (.v 1) (.c (.int 2))) .nil)))) (.nt (.call 42 (.cons (.idx (.v 1) (.c (.int 1))) (.cons (.idx (.v 0) (.c (.int 2))) .nil)))))))
 .nil)⟩
def f42:Hp.Fn:=⟨2,2,
 (.cons (.ret (.bi .any (.cons (.comp 1 [1] (.n 0) (.seq (.v 0)) .nil (.cmp .In (.v 0) (.v 1))) .nil)))
 .nil)⟩
def f43:Hp.Fn:=⟨2,5,
 (.cons (.set (.n 2) (.lst .nil))
 (.cons (.set (.n 3) (.op .Add (.op .Mod (.v 0) (.c (.int 2147483647))) (.c (.int 48271))))
 (.cons (.for (.n 4) (.rng (.c (.int 0)) (.op .Add (.v 1) (.c (.int 1))))
  (.cons (.set (.n 3) (.op .Mod (.op .Add (.op .Add (.op .Mult (.v 3) (.v 3)) (.op .Mult (.c (.int 48271)) (.v 3))) (.v 4)) (.c (.int 2147483647))))
  (.cons (.app 2 (.v 3))
  .nil)))
 (.cons (.ret (.sli (.v 2) (.cons (.c (.int 1)) .nil) .nil))
 .nil))))⟩
def f44:Hp.Fn:=⟨4,4,
 (.cons (.iff (.cmp .Eq (.v 2) (.c (.int 0)))
  (.cons (.ret (.idx (.lst (.cons (.lst (.cons (.c (.int 0)) .nil)) (.cons (.lst (.cons (.c (.int 1)) (.cons (.c (.int 2)) .nil))) (.cons (.lst (.cons (.c (.int 0)) .nil)) .nil)))) (.v 1)))
  .nil)
  .nil)
 (.cons (.iff (.cmp .Eq (.op .Mod (.v 0) (.c (.int 4))) (.c (.int 0)))
  (.cons (.ret (.comp 1 [] (.n 0) (.rng (.c (.int 0)) (.v 3)) .nil (.v 0)))
  .nil)
  .nil)
 (.cons (.iff (.cmp .Eq (.op .Mod (.v 0) (.c (.int 4))) (.c (.int 1)))
  (.cons (.ret (.lst (.cons (.v 1) .nil)))
  .nil)
  .nil)
 (.cons (.iff (.cmp .Eq (.op .Mod (.v 0) (.c (.int 4))) (.c (.int 2)))
  (.cons (.ret (.idx (.lst (.cons (.lst (.cons (.c (.int 0)) .nil)) (.cons (.lst (.cons (.c (.int 1)) (.cons (.c (.int 2)) .nil))) (.cons (.lst (.cons (.c (.int 0)) .nil)) .nil)))) (.v 1)))
  .nil)
  .nil)
 (.cons (.ret (.lst (.cons (.v 1) (.cons (.c (.int 2)) .nil))))
 .nil)))))⟩
def f45:Hp.Fn:=⟨3,9,
 (.cons (.set (.n 3) (.idx (.v 2) (.op .Mod (.idx (.v 0) (.c (.int 0))) (.bi .len (.cons (.v 2) .nil)))))
 (.cons (.set (.n 4) (.tup (.cons (.c (.str "number")) (.cons (.op .Mod (.idx (.v 0) (.c (.int 1))) (.c (.int 3))) .nil))))
 (.cons (.set (.n 5) (.tup (.cons (.idx (.lst (.cons (.c (.str "is")) (.cons (.c (.str "less")) .nil))) (.op .Mod (.idx (.v 0) (.c (.int 2))) (.c (.int 2)))) (.cons (.tup (.cons (.c (.str "box")) (.cons (.v 3) .nil))) (.cons (.v 4) .nil)))))
 (.cons (.set (.n 6) (.tup (.cons (.c (.str "box")) (.cons (.idx (.v 2) (.op .Mod (.op .FloorDiv (.idx (.v 0) (.c (.int 1))) (.c (.int 3))) (.bi .len (.cons (.v 2) .nil)))) .nil))))
 (.cons (.set (.n 7) (.lst (.cons (.tup (.cons (.c (.str "yes")) .nil)) (.cons (.tup (.cons (.c (.str "yes")) .nil)) (.cons (.tup (.cons (.c (.str "yes")) .nil)) (.cons (.v 5) (.cons (.tup (.cons (.c (.str "not")) (.cons (.v 5) .nil))) .nil)))))))
 (.cons (.set (.n 8) (.tup (.cons (.c (.str "is")) (.cons (.tup (.cons (.c (.str "minus")) (.cons (.v 6) (.cons (.tup (.cons (.c (.str "box")) (.cons (.v 3) .nil))) .nil)))) (.cons (.tup (.cons (.c (.str "number")) (.cons (.c (.int 0)) .nil))) .nil)))))
 (.cons (.app 7 (.tup (.cons (.c (.str "either")) (.cons (.v 5) (.cons (.v 8) .nil)))))
 (.cons (.set (.n 8) (.tup (.cons (.c (.str "less")) (.cons (.v 6) (.cons (.tup (.cons (.c (.str "plus")) (.cons (.tup (.cons (.c (.str "box")) (.cons (.v 3) .nil))) (.cons (.tup (.cons (.c (.str "number")) (.cons (.c (.int 1)) .nil))) .nil)))) .nil)))))
 (.cons (.ret (.idx (.op .Add (.v 7) (.lst (.cons (.tup (.cons (.c (.str "both")) (.cons (.v 8) (.cons (.tup (.cons (.c (.str "not")) (.cons (.v 5) .nil))) .nil)))) .nil))) (.op .Mod (.idx (.v 0) (.c (.int 3))) (.c (.int 7)))))
 .nil)))))))))⟩
def f46:Hp.Fn:=⟨3,9,
 (.cons (.set (.n 3) (.lst .nil))
 (.cons (.for (.n 4) (.rng (.c (.int 0)) (.op .Mod (.idx (.v 0) (.c (.int 0))) (.c (.int 3))))
  (.cons (.set (.n 5) (.idx (.v 2) (.op .Mod (.idx (.v 0) (.op .Add (.c (.int 1)) (.v 4))) (.bi .len (.cons (.v 2) .nil)))))
  (.cons (.set (.n 6) (.tup (.cons (.c (.str "number")) (.cons (.idx (.idx (.v 1) (.v 5)) (.c (.int 1))) .nil))))
  (.cons (.set (.n 7) (.tup (.cons (.c (.str "box")) (.cons (.idx (.v 2) (.op .Mod (.idx (.v 0) (.op .Add (.c (.int 3)) (.v 4))) (.bi .len (.cons (.v 2) .nil)))) .nil))))
  (.cons (.set (.n 8) (.lst (.cons (.tup (.cons (.c (.str "minus")) (.cons (.v 6) (.cons (.tup (.cons (.c (.str "box")) (.cons (.v 5) .nil))) .nil)))) (.cons (.tup (.cons (.c (.str "number")) (.cons (.op .Mod (.idx (.v 0) (.op .Add (.c (.int 3)) (.v 4))) (.c (.int 2))) .nil))) .nil))))
  (.cons (.set (.n 8) (.op .Add (.v 8) (.lst (.cons (.v 7) (.cons (.tup (.cons (.c (.str "plus")) (.cons (.v 7) (.cons (.tup (.cons (.c (.str "number")) (.cons (.c (.int 0)) .nil))) .nil)))) .nil)))))
  (.cons (.iff (.orr (.cmp .Eq (.bi .len (.cons (.v 3) .nil)) (.c (.int 0))) (.cmp .Lt (.idx (.idx (.v 3) (.neg (.c (.int 1)))) (.c (.int 0))) (.v 5)))
   (.cons (.app 3 (.tup (.cons (.v 5) (.cons (.idx (.v 8) (.op .Mod (.idx (.v 0) (.op .Add (.c (.int 5)) (.v 4))) (.c (.int 4)))) .nil))))
   .nil)
   .nil)
  .nil)))))))
 (.cons (.ret (.bi .tuple (.cons (.v 3) .nil)))
 .nil)))⟩
def f47:Hp.Fn:=⟨5,14,
 (.cons (.set (.n 5) (.call 43 (.cons (.v 0) (.cons (.op .Add (.c (.int 3)) (.op .Mult (.c (.int 14)) (.v 3))) .nil))))
 (.cons (.set (.n 6) (.call 44 (.cons (.idx (.v 5) (.c (.int 0))) (.cons (.v 2) (.cons (.v 4) (.cons (.bi .len (.cons (.v 1) .nil)) .nil))))))
 (.cons (.set (.n 7) (.lst .nil))
 (.cons (.for (.n 8) (.rng (.c (.int 0)) (.v 3))
  (.cons (.set (.n 9) (.lst .nil))
  (.cons (.for (.n 10) (.rng (.c (.int 0)) (.op .Add (.c (.int 1)) (.op .Mod (.op .FloorDiv (.idx (.v 5) (.c (.int 1))) (.op .Add (.v 8) (.c (.int 1)))) (.c (.int 4)))))
   (.cons (.set (.n 11) (.call 43 (.cons (.idx (.v 5) (.op .Add (.op .Add (.c (.int 3)) (.op .Mult (.c (.int 14)) (.v 8))) (.v 10))) (.cons (.c (.int 12)) .nil))))
   (.cons (.set (.n 12) (.op .Mod (.idx (.v 11) (.c (.int 11))) (.op .Add (.v 3) (.bi .int (.cons (.cmp .Eq (.op .Mod (.idx (.v 5) (.c (.int 2))) (.c (.int 5))) (.c (.int 0))) .nil)))))
   (.cons (.set (.n 13) (.call 45 (.cons (.v 11) (.cons (.v 1) (.cons (.v 6) .nil)))))
   (.cons (.app 9 (.tup (.cons (.v 13) (.cons (.call 46 (.cons (.sli (.v 11) (.cons (.c (.int 4)) .nil) (.cons (.c (.int 11)) .nil)) (.cons (.v 1) (.cons (.v 6) .nil)))) (.cons (.v 12) .nil)))))
   .nil)))))
  (.cons (.app 7 (.v 9))
  .nil))))
 (.cons (.retv 7)
 .nil)))))⟩
def f48:Hp.Fn:=⟨1,9,
 (.cons (.set (.n 1) (.call 43 (.cons (.idx (.op .Add (.v 0) (.lst (.cons (.c (.int 0)) .nil))) (.c (.int 0))) (.cons (.c (.int 9)) .nil))))
 (.cons (.set (.n 2) (.lst (.cons (.tup (.cons (.c (.str "a")) (.cons (.op .Add (.c (.int 1)) (.op .Mod (.idx (.v 1) (.c (.int 0))) (.c (.int 2)))) .nil))) (.cons (.tup (.cons (.c (.str "b")) (.cons (.op .Add (.c (.int 1)) (.op .Mod (.idx (.v 1) (.c (.int 1))) (.c (.int 2)))) .nil))) (.cons (.tup (.cons (.c (.str "c")) (.cons (.c (.int 1)) .nil))) .nil)))))
 (.cons (.iff (.an (.cmp .Eq (.op .Add (.idx (.idx (.v 2) (.c (.int 0))) (.c (.int 1))) (.idx (.idx (.v 2) (.c (.int 1))) (.c (.int 1)))) (.c (.int 2))) (.cmp .Eq (.op .Mod (.idx (.v 1) (.c (.int 6))) (.c (.int 3))) (.c (.int 0))))
  (.cons (.app 2 (.tup (.cons (.c (.str "d")) (.cons (.op .Add (.c (.int 1)) (.op .Mod (.op .FloorDiv (.idx (.v 1) (.c (.int 6))) (.c (.int 3))) (.c (.int 2)))) .nil))))
  .nil)
  .nil)
 (.cons (.set (.n 3) (.lst .nil))
 (.cons (.for (.n 4) (.rng (.c (.int 0)) (.op .Add (.c (.int 2)) (.op .Mod (.idx (.v 1) (.c (.int 2))) (.c (.int 2)))))
  (.cons (.set (.n 5) (.op .Add (.c (.int 1)) (.op .Mod (.idx (.v 1) (.op .Add (.c (.int 3)) (.v 4))) (.idx (.lst (.cons (.c (.int 3)) (.cons (.c (.int 2)) .nil))) (.op .Mod (.idx (.v 1) (.c (.int 2))) (.c (.int 2)))))))
  (.cons (.set (.n 5) (.op .Mult (.v 5) (.bi .int (.cons (.cmp .Gt (.op .Mod (.op .FloorDiv (.idx (.v 1) (.op .Add (.c (.int 3)) (.v 4))) (.c (.int 6))) (.c (.int 9))) (.c (.int 0))) .nil))))
  (.cons (.set (.n 6) (.op .Add (.idx (.op .Add (.v 0) (.lst (.cons (.c (.int 0)) (.cons (.c (.int 0)) (.cons (.c (.int 0)) (.cons (.c (.int 0)) .nil)))))) (.op .Add (.c (.int 1)) (.v 4))) (.op .Mult (.c (.int 7)) (.v 4))))
  (.cons (.app 3 (.call 47 (.cons (.v 6) (.cons (.v 2) (.cons (.v 4) (.cons (.v 5) (.cons (.op .Mod (.idx (.v 1) (.c (.int 8))) (.c (.int 3))) .nil)))))))
  .nil)))))
 (.cons (.set (.n 7) (.idx (.lst (.cons (.tup (.cons (.c (.str "yes")) .nil)) (.cons (.tup (.cons (.c (.str "less")) (.cons (.tup (.cons (.c (.str "box")) (.cons (.c (.int 0)) .nil))) (.cons (.tup (.cons (.c (.str "number")) (.cons (.c (.int 1)) .nil))) .nil)))) .nil))) (.op .Mod (.idx (.v 1) (.c (.int 7))) (.c (.int 2)))))
 (.cons (.set (.n 8) (.comp 1 [] (.n 0) (.seq (.v 3)) .nil (.op .Mult (.lst (.cons (.tup (.cons (.c (.str "yes")) .nil)) .nil)) (.op .Add (.bi .len (.cons (.v 0) .nil)) (.c (.int 1))))))
 (.cons (.ret (.call 27 (.cons (.v 2) (.cons (.v 7) (.cons (.v 3) (.cons (.comp 1 [] (.n 0) (.seq (.v 3)) .nil (.tup (.cons (.c (.str "yes")) .nil))) (.cons (.v 8) .nil)))))))
 .nil))))))))⟩
def f49:Hp.Fn:=⟨2,3,
 (.cons (.set (.n 2) (.call 9 (.cons (.idx (.v 1) (.c (.int 0))) (.cons (.idx (.v 1) (.c (.int 1))) .nil))))
 (.cons (.ret (.idx (.v 2) (.op .Mod (.idx (.call 43 (.cons (.idx (.op .Add (.v 0) (.lst (.cons (.c (.int 0)) .nil))) (.c (.int 0))) (.cons (.c (.int 10)) .nil))) (.c (.int 9))) (.bi .len (.cons (.v 2) .nil)))))
 .nil))⟩
def f50:Hp.Fn:=⟨2,5,
 (.cons (.set (.n 2) (.lst .nil))
 (.cons (.for (.n 3) (.rng (.c (.int 0)) (.bi .len (.cons (.idx (.v 0) (.c (.int 2))) .nil)))
  (.cons (.for (.n 4) (.rng (.c (.int 0)) (.c (.int 4)))
   (.cons (.iff (.cmp .IsNot (.call 35 (.cons (.v 0) (.cons (.v 1) (.cons (.tup (.cons (.v 3) (.cons (.v 4) .nil))) .nil)))) (.c .non))
    (.cons (.app 2 (.tup (.cons (.v 3) (.cons (.v 4) .nil))))
    .nil)
    .nil)
   .nil))
  .nil))
 (.cons (.retv 2)
 .nil)))⟩
def f51:Hp.Fn:=⟨5,11,
 (.cons (.set (.n 5) (.tup (.cons (.v 2) (.cons (.bi .tuple (.cons (.comp 1 [] (.n 0) (.seq (.idx (.v 1) (.c (.int 2)))) .nil (.c (.int 0))) .nil)) .nil))))
 (.cons (.set (.n 6) (.lst .nil))
 (.cons (.for (.n 7) (.rng (.c (.int 0)) (.v 4))
  (.cons (.set (.n 8) (.call 50 (.cons (.v 1) (.cons (.v 5) .nil))))
  (.cons (.iff (.cmp .NotEq (.v 8) (.lst .nil))
   (.cons (.set (.n 9) (.op .Add (.op .Mult (.c (.int 11)) (.v 7)) (.bi .len (.cons (.v 0) .nil))))
   (.cons (.iff (.cmp .Lt (.op .Add (.v 3) (.v 7)) (.bi .len (.cons (.v 0) .nil)))
    (.cons (.set (.n 9) (.idx (.v 0) (.op .Add (.v 3) (.v 7))))
    .nil)
    .nil)
   (.cons (.set (.n 10) (.idx (.v 8) (.op .Mod (.idx (.call 43 (.cons (.v 9) (.cons (.c (.int 1)) .nil))) (.c (.int 0))) (.bi .len (.cons (.v 8) .nil)))))
   (.cons (.app 6 (.v 10))
   (.cons (.set (.n 5) (.call 35 (.cons (.v 1) (.cons (.v 5) (.cons (.v 10) .nil)))))
   .nil)))))
   .nil)
  .nil)))
 (.cons (.retv 6)
 .nil))))⟩
def f52:Hp.Fn:=⟨1,3,
 (.cons (.iff (.cmp .Eq (.idx (.v 0) (.c (.int 0))) (.c (.str "box")))
  (.cons (.ret (.lst (.cons (.idx (.v 0) (.c (.int 1))) .nil)))
  .nil)
  .nil)
 (.cons (.set (.n 1) (.lst .nil))
 (.cons (.for (.n 2) (.seq (.sli (.v 0) (.cons (.c (.int 1)) .nil) .nil))
  (.cons (.iff (.isi (.v 2) [.tTuple])
   (.cons (.set (.n 1) (.op .Add (.v 1) (.call 52 (.cons (.v 2) .nil))))
   .nil)
   .nil)
  .nil))
 (.cons (.retv 1)
 .nil))))⟩
def f53:Hp.Fn:=⟨2,6,
 (.cons (.set (.n 2) (.idx (.idx (.idx (.idx (.v 0) (.c (.int 2))) (.idx (.v 1) (.c (.int 0)))) (.idx (.v 1) (.c (.int 1)))) (.idx (.v 1) (.c (.int 2)))))
 (.cons (.set (.n 3) (.call 52 (.cons (.idx (.v 2) (.c (.int 0))) .nil)))
 (.cons (.for (.t [4,5]) (.seq (.idx (.v 2) (.c (.int 1))))
  (.cons (.set (.n 3) (.op .Add (.v 3) (.call 52 (.cons (.v 5) .nil))))
  .nil))
 (.cons (.ret (.tup (.cons (.v 3) (.cons (.comp 2 [] (.t [0,1]) (.seq (.idx (.v 2) (.c (.int 1)))) .nil (.v 0)) .nil))))
 .nil))))⟩
def f54:Hp.Fn:=⟨3,6,
 (.cons (.set (.n 3) (.call 53 (.cons (.v 0) (.cons (.v 1) .nil))))
 (.cons (.set (.n 4) (.call 53 (.cons (.v 0) (.cons (.v 2) .nil))))
 (.cons (.set (.n 5) (.comp 1 [4] (.n 0) (.seq (.idx (.v 3) (.c (.int 1)))) (.cons (.cmp .In (.v 0) (.op .Add (.idx (.v 1) (.c (.int 0))) (.idx (.v 1) (.c (.int 1))))) .nil) (.v 0)))
 (.cons (.set (.n 5) (.op .Add (.v 5) (.comp 1 [3] (.n 0) (.seq (.idx (.v 4) (.c (.int 1)))) (.cons (.cmp .In (.v 0) (.idx (.v 1) (.c (.int 0)))) .nil) (.v 0))))
 (.cons (.ret (.an (.cmp .NotEq (.idx (.v 1) (.c (.int 0))) (.idx (.v 2) (.c (.int 0)))) (.cmp .Eq (.v 5) (.lst .nil))))
 .nil)))))⟩
def f55:Hp.Fn:=⟨1,5,
 (.cons (.set (.n 1) (.lst .nil))
 (.cons (.for (.n 2) (.rng (.c (.int 0)) (.bi .len (.cons (.idx (.v 0) (.c (.int 2))) .nil)))
  (.cons (.for (.n 3) (.rng (.c (.int 0)) (.bi .len (.cons (.idx (.idx (.v 0) (.c (.int 2))) (.v 2)) .nil)))
   (.cons (.for (.n 4) (.rng (.c (.int 0)) (.bi .len (.cons (.idx (.idx (.idx (.v 0) (.c (.int 2))) (.v 2)) (.v 3)) .nil)))
    (.cons (.app 1 (.tup (.cons (.v 2) (.cons (.v 3) (.cons (.v 4) .nil)))))
    .nil))
   .nil))
  .nil))
 (.cons (.retv 1)
 .nil)))⟩
def f56:Hp.Fn:=⟨2,3,
 (.cons (.iff (.orr (.nt (.isi (.v 0) [.tList])) (.cmp .NotEq (.v 0) (.v 1)))
  (.cons (.ret (.c (.bl false)))
  .nil)
  .nil)
 (.cons (.for (.n 2) (.seq (.v 0))
  (.cons (.iff (.nt (.isi (.v 2) [.tTuple]))
   (.cons (.ret (.c (.bl false)))
   .nil)
   .nil)
  (.cons (.iff (.cmp .Gt (.bi .len (.cons (.comp 1 [] (.n 0) (.seq (.v 2)) (.cons (.orr (.nt (.isi (.v 0) [.tInt])) (.isi (.v 0) [.tBool])) .nil) (.v 0)) .nil)) (.c (.int 0)))
   (.cons (.ret (.c (.bl false)))
   .nil)
   .nil)
  .nil)))
 (.cons (.ret (.c (.bl true)))
 .nil)))⟩
def f57:Hp.Fn:=⟨1,15,
 (.cons (.set (.n 1) (.call 48 (.cons (.v 0) .nil)))
 (.cons (.set (.n 2) (.call 49 (.cons (.v 0) (.cons (.v 1) .nil))))
 (.cons (.set (.n 3) (.call 51 (.cons (.v 0) (.cons (.v 1) (.cons (.v 2) (.cons (.c (.int 4)) (.cons (.op .Add (.c (.int 4)) (.op .Mod (.idx (.call 43 (.cons (.idx (.op .Add (.v 0) (.lst (.cons (.c (.int 0)) .nil))) (.c (.int 0))) (.cons (.c (.int 11)) .nil))) (.c (.int 10))) (.c (.int 17)))) .nil)))))))
 (.cons (.set (.n 4) (.call 36 (.cons (.v 1) (.cons (.v 2) (.cons (.v 3) .nil)))))
 (.cons (.set (.n 5) (.lst .nil))
 (.cons (.for (.n 6) (.rng (.c (.int 0)) (.bi .len (.cons (.v 3) .nil)))
  (.cons (.set (.t [7,8]) (.idx (.v 3) (.v 6)))
  (.cons (.app 5 (.tup (.cons (.v 7) (.cons (.idx (.idx (.idx (.v 4) (.v 6)) (.c (.int 1))) (.v 7)) (.cons (.v 8) .nil)))))
  .nil)))
 (.cons (.set (.n 9) (.bi .list (.cons (.v 3) .nil)))
 (.cons (.set (.n 10) (.call 38 (.cons (.v 1) (.cons (.v 2) (.cons (.v 9) .nil)))))
 (.cons (.iff (.orr (.nt (.call 56 (.cons (.v 10) (.cons (.v 5) .nil)))) (.cmp .NotEq (.v 9) (.v 3)))
  (.cons (.ret (.c (.bl false)))
  .nil)
  .nil)
 (.cons (.app 10 (.c .non))
 (.cons (.set (.n 11) (.call 55 (.cons (.v 1) .nil)))
 (.cons (.for (.n 12) (.seq (.v 11))
  (.cons (.for (.n 13) (.seq (.v 11))
   (.cons (.set (.n 14) (.call 39 (.cons (.v 1) (.cons (.v 12) (.cons (.v 13) .nil)))))
   (.cons (.iff (.nt (.isi (.v 14) [.tBool]))
    (.cons (.ret (.c (.bl false)))
    .nil)
    .nil)
   (.cons (.iff (.cmp .NotEq (.v 14) (.call 54 (.cons (.v 1) (.cons (.v 12) (.cons (.v 13) .nil)))))
    (.cons (.ret (.c (.bl false)))
    .nil)
    .nil)
   .nil))))
  .nil))
 (.cons (.ret (.call 56 (.cons (.call 38 (.cons (.v 1) (.cons (.v 2) (.cons (.v 9) .nil)))) (.cons (.v 5) .nil))))
 .nil)))))))))))))⟩
def pg:Hp.Pg:=⟨[f0,f1,f2,f3,f4,f5,f6,f7,f8,f9,f10,f11,f12,f13,f14,f15,f16,f17,f18,f19,f20,f21,f22,f23,f24,f25,f26,f27,f28,f29,f30,f31,f32,f33,f34,f35,f36,f37,f38,f39,f40,f41,f42,f43,f44,f45,f46,f47,f48,f49,f50,f51,f52,f53,f54,f55,f56,f57],[[.own 0,.tValueError],[.own 1,.own 0,.tValueError],[.own 2,.own 0,.tValueError],[.own 3,.own 0,.tValueError],[.own 4,.own 0,.tValueError],[.own 5,.own 0,.tValueError],[.own 6,.own 0,.tValueError],[.own 7,.own 0,.tValueError]],[[("number",.tup [.str "number"]),("box",.tup [.str "box"]),("after",.tup [.str "box"]),("plus",.tup [.str "sum",.str "sum"]),("minus",.tup [.str "sum",.str "sum"])],[("yes",.tup []),("is",.tup [.str "sum",.str "sum"]),("less",.tup [.str "sum",.str "sum"]),("not",.tup [.str "cond"]),("both",.tup [.str "cond",.str "cond"]),("either",.tup [.str "cond",.str "cond"])]]⟩
end K65
end
noncomputable section
namespace K65
open Hp HpS PySem
def drp:Nat->Ss->Ss
 | 0,s=>s
 | n+1,.cons _ s=>drp n s
 | _+1,.nil=>.nil
def hdS:Ss->S
 | .cons s _=>s
 | .nil=>.pass
structure Way where
 g:Cn
 ps:List (Nat×Sm)
 nx:Int
def dG(p:Nat×Sm):D:=.tup [.int p.1,p.2.d]
def Way.d(w:Way):D:=.tup [w.g.d,.tup (w.ps.map dG),.int w.nx]
def Up(ps:List (Nat×Sm)):Prop:=ps.Pairwise λp q=>p.1<q.1
structure kF (m:Nat) (p:Nat×Sm):Prop where
 box:p.1<m
 wf:p.2.wf m true
 sz:p.2.sz<=3
structure eK (m:Nat) (w:Way):Prop where
 g:w.g.wf m true
 gs:w.g.sz<=31
 ps:∀p∈w.ps,kF m p
 up:Up w.ps
theorem oK(p:Nat×Sm):noL (dG p)=true:=uF rfl p.2.noL
theorem fQ(ps:List (Nat×Sm)):noLs (ps.map dG)=true:=bR oK ps
theorem eT(w:Way):noL w.d=true:=by simp[Way.d,noL,noLs,w.g.noL,fQ]
theorem aAD(i:Nat){ds:List D}(h:noLs ds=true):biD .tuple [⟨.lst ds,false,false,[i]⟩]=.ok (.cl (.tup ds)):=by
 show R.ok (Vl.mk (.tup ds) false (false&&!noLs ds) (if noLs ds=true then [] else [i]))=_
 rw[h];rfl
theorem stp{P:Pg}{cl:Caller}{σ σ':Sg}{s:S}{ss:Ss}(h:ex P cl σ s=.next σ'):exs P cl σ (.cons s ss)=exs P cl σ' ss:=by rw[cB,h,rD]
def hG(bs:List (Str×Int))(k:Nat):Int:=(bs.map (·.2)).getD k 0
def putF(bs:List (Str×Int))(st:List Int):List Int->List (Nat×Sm)->Option (List Int)
 | acc,[]=>some acc
 | acc,p::ps=>if 0<=p.2.val st st/\p.2.val st st<=hG bs p.1 then putF bs st (acc.set p.1 (p.2.val st st)) ps else none
def behF(bs:List (Str×Int))(w:Way)(st:List Int):Option (List Int):=if w.g.hold st st then putF bs st st w.ps else none
def stD:Option (List Int)->D
 | none=>.non
 | some r=>aM r
theorem aIx{P:Pg}{cl:Caller}{σ:Sg}{a b:E}{x y:Int}(h1:ev P cl σ a=.ok (.cl (.int x)))(h2:ev P cl σ b=.ok (.cl (.int y))):tst P cl σ (.cmp2 .LtE .LtE (.c (.int 0)) a b)=.ok (decide (0<=x)&&decide (x<=y)):=by
 rw[qF,aC,aA,h1,aA,dE,dE,aDK]
 cases decide (0<=x) with
 | true=>simp only[h2,aA,dE,aDK,Bool.true_and]
 | false=>rfl
theorem aAE{bs:List (Str×Int)}{k:Nat}(h:k<bs.length):∃b:D,noL b=true/\eA ⟨.lst (aB bs),false,true,[]⟩ (.cl (.int (k:Int)))=.ok (.cl b)/\eA (.cl b) (.cl (.int 1))=.ok (.cl (.int (hG bs k))):=by
 refine⟨box bs[k],lQ _,?_,?_⟩
 . have hl:(aB bs).length=bs.length:=by simp[aB]
   have e:(aB bs)[k]? = some (box bs[k]):=by simp[aB,h]
   unfold eA
   simp only[dE,hl,gK h,e,Vl.sub,lQ,if_true]
 . have:=gA (.str bs[k].1) (.int bs[k].2) [] rfl
   unfold box hG
   rw[this]
   simp[h]
theorem aDO(n:Nat){bs:List (Str×Int)}{st:List Int}(hs:st.length=bs.length){s:Sm}(w:s.wf bs.length true)(z:s.sz<=3):call pg (n+3) 0 [s.d,aM st,.non]=.ok (.int (s.val st st),false,false):=by
 have:=jK (P:=pg) (f:=0) rfl (ah:=st) (be:=st) (bd:=.non) (c:=bs.length) (pl:=true) hs hs rfl (λh=>nomatch h) s (n+3-s.sz) w
 rwa [show n+3-s.sz+s.sz=n+3 by omega] at this
theorem qL(n:Nat){bs:List (Str×Int)}{st:List Int}(hs:st.length=bs.length){q:Cn}(w:q.wf bs.length true)(z:q.sz<=31):call pg (n+31) 1 [q.d,aM st,.non]=.ok (.bl (q.hold st st),false,false):=by
 have:=lX (P:=pg) (v:=0) (f:=1) rfl rfl (ah:=st) (be:=st) (bd:=.non) (c:=bs.length) (pl:=true) hs hs rfl (λh=>nomatch h) q (n+31-q.sz) w
 rwa [show n+31-q.sz+q.sz=n+31 by omega] at this
abbrev aDP:Ss:=match hdS (drp 2 f2.body) with|.for _ _ b=>b|_=>.nil
theorem aFB{p:Nat×Sm}{s0 s1 s2 s3 s4 s5 s6:Sl}:cH [s0,s1,s2,s3,s4,s5,s6] (.cl (dG p)) (.t [4,5])=.ok [s0,s1,s2,s3,.sh false (.int p.1),.sh false p.2.d,s6]:=by
 unfold cH dG
 simp only[dE,lC,lN,if_true,List.zip_cons_cons,List.zip_nil_left,List.foldl_cons,List.foldl_nil,cJ p.2.noL,cJ (show noL (.int (p.1:Int))=true from rfl),eF,lS,lZ]
theorem aDQ(acc:List Int)(k:Nat)(v:Int):(acc.map D.int).set k (.int v)=(acc.set k v).map D.int:=by rw[List.map_set]
theorem aDR(n:Nat){bs:List (Str×Int)}{st acc:List Int}(hs:st.length=bs.length)(ha:acc.length=bs.length)(hb:bs.length<=5){p:Nat×Sm}(o:kF bs.length p)(s1 s4 s5 s6:Sl) :
 exs pg (call pg (n+3)) [.sh true (.lst (aB bs)),s1,.sh true (aM st),.own false (acc.map D.int),.sh false (.int p.1),.sh false p.2.d,s6] aDP =
  if 0<=p.2.val st st/\p.2.val st st<=hG bs p.1 then .next [.sh true (.lst (aB bs)),s1,.sh true (aM st),.own false ((acc.set p.1 (p.2.val st st)).map D.int),.sh false (.int p.1),.sh false p.2.d,.sh false (.int (p.2.val st st))] else .ret (.cl .non):=by
 have cv:=aDO n hs o.wf o.sz
 generalize p.2.val st st=v at cv
 obtain⟨b,b1,b2,b3⟩:=aAE (bs:=bs) (k:=p.1) o.box
 have v2:=dI 2 true (aS st)
 have e1:ex pg (call pg (n+3)) [.sh true (.lst (aB bs)),s1,.sh true (aM st),.own false (acc.map D.int),.sh false (.int p.1),.sh false p.2.d,s6] (hdS aDP)=.next [.sh true (.lst (aB bs)),s1,.sh true (aM st),.own false (acc.map D.int),.sh false (.int p.1),.sh false p.2.d,.sh false (.int v)]:=by
  simp only[aDP,hdS,drp,f2,fA,dB,aG,bG,fW,aC,bZ,gS,gZ,bU,v2,aA,mC,mN,dE,cv,kW,bH,gG,cO,kC,eF,lS,lZ]
 have tt:=aIx (P:=pg) (cl:=call pg (n+3)) (σ:=[.sh true (.lst (aB bs)),s1,.sh true (aM st),.own false (acc.map D.int),.sh false (.int p.1),.sh false p.2.d,.sh false (.int v)]) (a:=.v 6) (b:=.idx (.idx (.v 0) (.v 4)) (.c (.int 1))) (x:=v) (y:=hG bs p.1) rfl (by
  simp only[iM,fW,aC,bZ,gS,gZ,oI,oG,aA,b2,b3])
 refine(stp e1).trans ?_
 show exs pg (call pg (n+3)) _ (.cons (.iff (.nt _) _ _) (.cons (.setIx 3 (.v 4) (.v 6)) .nil))=_
 by_cases hv:0<=v/\v<=hG bs p.1
 . have hd:(decide (0<=v)&&decide (v<=hG bs p.1))=true:=by rw[decide_eq_true hv.1,decide_eq_true hv.2];rfl
   rw[if_pos hv]
   have hx:ixN acc.length (p.1:Int)=some p.1:=gK (by rw[ha];exact o.box)
   have hll:acc.length<=lim:=by unfold lim;omega
   simp only[cB,eR,eQ,kU,tt,aA,hd,Bool.not_true,bH,bF,if_false,rD,aDI,fW,bZ,gS,gZ,oG,dE,put,gG,cO,lE,hx,aDQ,lM,List.length_set,hll,if_true,wR,Bool.or_false,lS,lZ]
 . have hd:(decide (0<=v)&&decide (v<=hG bs p.1))=false:=by
    cases h:(decide (0<=v)&&decide (v<=hG bs p.1)) with
    | false=>rfl
    | true=>simp only[bA,decide_eq_true_eq] at h;exact absurd h hv
   rw[if_neg hv]
   simp only[cB,eR,eQ,kU,tt,aA,hd,Bool.not_false,bH,if_true,tY,aC,qB]
theorem wW(n:Nat){bs:List (Str×Int)}{st:List Int}(hs:st.length=bs.length)(hb:bs.length<=5)(s1:Sl):∀(ps:List (Nat×Sm)) (acc:List Int) (s4 s5 s6:Sl),(∀p∈ps,kF bs.length p)->acc.length=bs.length ->
 ∃t4 t5 t6,eB (λσ x=>O.from σ (cH σ x (.t [4,5])) λσ'=>exs pg (call pg (n+3)) σ' aDP) (ps.map λp=>Vl.cl (dG p)) [.sh true (.lst (aB bs)),s1,.sh true (aM st),.own false (acc.map D.int),s4,s5,s6] =
  (match putF bs st acc ps with|none=>.ret (.cl .non)|some r=>.next [.sh true (.lst (aB bs)),s1,.sh true (aM st),.own false (r.map D.int),t4,t5,t6])
 | [],acc,s4,s5,s6,_,_=>⟨s4,s5,s6,rfl⟩
 | p::ps,acc,s4,s5,s6,h,ha=>by
  have o:=h p List.mem_cons_self
  have tu:=aDR n hs ha hb o s1 s4 s5 s6
  rw[mC,eB,aFB,bH,tu,putF]
  by_cases hv:0<=p.2.val st st/\p.2.val st st<=hG bs p.1
  . rw[if_pos hv,if_pos hv]
    exact wW n hs hb s1 ps (acc.set p.1 (p.2.val st st)) _ _ _ (λq hq=>h q (List.mem_cons_of_mem _ hq)) (by rw[List.length_set];exact ha)
  . rw[if_neg hv,if_neg hv]
    exact⟨s4,s5,s6,rfl⟩
theorem kX{v:Vl}(ps:List (Nat×Sm)):items v (ps.map dG)=ps.map λp=>Vl.cl (dG p):=cF oK ps
theorem zK(n:Nat){bs:List (Str×Int)}{st:List Int}(hs:st.length=bs.length)(hb:bs.length<=5){w:Way}(o:eK bs.length w):call pg (n+32) 2 [.lst (aB bs),w.d,aM st]=.ok (stD (behF bs w st),false,false):=by
 have ch:=qL n hs o.g o.gs
 have v1:=dI 1 true (eT w)
 have v2:=dI 2 true (aS st)
 have i0:eA (.cl w.d) (.cl (.int 0))=.ok (.cl w.g.d):=fZ w.g.d _ w.g.noL
 have i1:eA (.cl w.d) (.cl (.int 1))=.ok (.cl (.tup (w.ps.map dG))):=gA w.g.d (.tup (w.ps.map dG)) _ (by rw[noL];exact fQ _)
 refine aH (F:=f2) rfl rfl (v:=.cl (stD (behF bs w st))) ?_
 show exs pg (call pg (n+31)) [.sh true (.lst (aB bs)),.sh true w.d,.sh true (aM st),.dead,.dead,.dead,.dead] _=_
 unfold behF
 cases hh:w.g.hold st st with
 | false=>
  rw[hh] at ch
  simp only[f2,cB,eR,eQ,kU,gR,aG,bG,iM,fW,aC,bZ,gS,gZ,v1,v2,aA,i0,mC,mN,dE,ch,kW,uD,Bool.not_false,bH,if_true,tY,qB,bF,if_false,stD]
 | true=>
  rw[hh] at ch
  obtain⟨t4,t5,t6,hl⟩:=wW (n+28) hs hb (.sh true w.d) w.ps st .dead .dead .dead o.ps hs
  have e1:ex pg (call pg (n+31)) [.sh true (.lst (aB bs)),.sh true w.d,.sh true (aM st),.dead,.dead,.dead,.dead] (hdS f2.body)=.next [.sh true (.lst (aB bs)),.sh true w.d,.sh true (aM st),.dead,.dead,.dead,.dead]:=by
   simp only[hdS,f2,eR,eQ,kU,gR,aG,bG,iM,fW,aC,bZ,gS,gZ,v1,v2,aA,i0,mC,mN,dE,ch,kW,uD,Bool.not_true,bH,bF,if_false]
  have e2:ex pg (call pg (n+31)) [.sh true (.lst (aB bs)),.sh true w.d,.sh true (aM st),.dead,.dead,.dead,.dead] (hdS (drp 1 f2.body))=.next [.sh true (.lst (aB bs)),.sh true w.d,.sh true (aM st),.own false (st.map D.int),.dead,.dead,.dead]:=by
   have hli:biD .list [.cl (aM st)]=.ok ⟨.lst (st.map D.int),true,false,[]⟩:=by
    show R.ok (Vl.mk (.lst (st.map D.int)) true (false&&!noLs (st.map D.int)) (if noLs (st.map D.int)=true then [] else []))=_
    rw[jH];rfl
   simp only[hdS,drp,f2,fA,qD,aG,bG,fW,bZ,gS,gZ,v2,aA,hli,bH,cO,kC,aFw,lS,lZ]
  have hw:walk pg (call pg (n+31)) [.sh true (.lst (aB bs)),.sh true w.d,.sh true (aM st),.own false (st.map D.int),.dead,.dead,.dead] (.seq (.idx (.v 1) (.c (.int 1))))=.ok (w.ps.map (λp=>Vl.cl (dG p)),[]):=by
   simp only[bM,iM,fW,aC,bZ,gS,gZ,v1,aA,i1,dE,kX,gG]
  refine(stp e1).trans ((stp e2).trans ?_)
  show exs pg (call pg (n+31)) _ (.cons (.for (.t [4,5]) (.seq (.idx (.v 1) (.c (.int 1)))) aDP) _)=_
  rw[cB,jG,hw,bH]
  show(eB _ _ _).on _=_
  rw[cO,hl,if_pos rfl]
  cases putF bs st st w.ps with
  | none=>rfl
  | some r=>
   show exs pg (call pg (n+31)) [.sh true (.lst (aB bs)),.sh true w.d,.sh true (aM st),.own false (r.map D.int),t4,t5,t6] (.cons (.ret (.bi .tuple (.cons (.v 3) .nil))) .nil)=_
   rw[cB,tY,qD,aG,fW]
   simp only[bZ,gS,gZ,aAw]
   simp only[bG,aA,aAD 3 (jH r),bH,qB]
   rfl
section
variable {P:Pg} {cl:Caller} {σ:Sg}
theorem qM(σ:Sg){i j:Nat}{a b:D}(ha:noL a=true)(hb:noL b=true):cH σ (.cl (.tup [a,b])) (.t [i,j])=.ok ((σ.set i (.sh false a)).set j (.sh false b)):=by
 unfold cH
 simp only[dE,lC,lN,if_true,List.zip_cons_cons,List.zip_nil_left,List.foldl_cons,List.foldl_nil,cJ ha,cJ hb,eF]
theorem cY(σ:Sg){i:Nat}{d:D}:cH σ (.cl d) (.n i)=.ok (σ.set i (.sh false d)):=by rw[kC,eF]
theorem mB{f:Nat}{a b c:E}{x y z:Vl}{k:Bool}(h1:ev P cl σ a=.ok x)(h2:ev P cl σ b=.ok y)(h3:ev P cl σ c=.ok z)(hc:cl f [x.d,y.d,z.d]=.ok (.bl k,false,false)):tst P cl σ (.call f (.cons a (.cons b (.cons c .nil))))=.ok k:=by
 have e:evs P cl σ (.cons a (.cons b (.cons c .nil)))=.ok [x,y,z]:=by rw[aG,h1,aA,aG,h2,aA,aG,h3,aA,bG];rfl
 rw[gR,e,aA,show [x,y,z].map (·.d)=[x.d,y.d,z.d] from rfl,hc];rfl
theorem dQ{a:E}{k:Bool}(h:tst P cl σ a=.ok k):tst P cl σ (.nt a)=.ok (!k):=by rw[kU,h];rfl
theorem dR{f:Nat}{a b:E}{x y:Vl}{d:D}(h1:ev P cl σ a=.ok x)(h2:ev P cl σ b=.ok y)(hc:cl f [x.d,y.d]=.ok (d,false,false)):ev P cl σ (.call f (.cons a (.cons b .nil)))=.ok (.cl d):=by
 have e:evs P cl σ (.cons a (.cons b .nil))=.ok [x,y]:=by rw[aG,h1,aA,aG,h2,aA,bG];rfl
 rw[dB,e,aA,show [x,y].map (·.d)=[x.d,y.d] from rfl,hc];rfl
theorem nD{a b:E}{x y:D}(h1:ev P cl σ a=.ok (.cl x))(h2:ev P cl σ b=.ok (.cl y)):ev P cl σ (.tup (.cons a (.cons b .nil)))=.ok (.cl (.tup [x,y])):=by
 rw[qC,aG,h1,aA,aG,h2];rfl
theorem uI{a b c:E}{x y z:D}(h1:ev P cl σ a=.ok (.cl x))(h2:ev P cl σ b=.ok (.cl y))(h3:ev P cl σ c=.ok (.cl z)):ev P cl σ (.tup (.cons a (.cons b (.cons c .nil))))=.ok (.cl (.tup [x,y,z])):=by
 rw[qC,aG,h1,aA,aG,h2,aA,aG,h3];rfl
end
theorem wX{v:Vl}{α:Type}{f:α->D}{xs:List α}{k:Nat}{x:α}(hv:v.d=.lst (xs.map f))(hx:xs[k]? = some x):eA v (.cl (.int (k:Int)))=.ok (Vl.sub v (f x)):=by
 have hk:k<(xs.map f).length:=by rw[lM];exact(List.getElem?_eq_some_iff.mp hx).1
 have e:(xs.map f)[k]? = some (f x):=by rw[List.getElem?_map,hx];rfl
 unfold eA
 simp only[hv,dE,gK hk,e]
section
variable {P:Pg} {cl:Caller} {σ σ':Sg}
theorem aLh{i:Nat}{e:E}{v:Vl}{pa:Bool}{ds:List D}(h:ev P cl σ e=.ok v)(hi:(freeze σ v.al)[i]? = some (.own pa ds))(hl:ds.length<lim):ex P cl σ (.app i e)=.next ((freeze σ v.al).set i (.own (pa||v.pa) (ds++[v.d]))):=by
 have ll:(ds++[v.d]).length<=lim:=by rw[lA];exact hl
 rw[aIr,h,bH]
 unfold put lE
 rw[hi]
 show(if (ds++[v.d]).length<=lim then O.next _ else .bad)=_
 rw[if_pos ll]
theorem fJ{i:Nat}{e:E}{v:Vl}{ds ds':List D}(h:ev P cl σ e=.ok v)(hi:(freeze σ v.al)[i]? = some (.own false ds))(hl:ds.length<lim)(hp:v.pa=false)(he:ds'=ds++[v.d]):ex P cl σ (.app i e)=.next ((freeze σ v.al).set i (.own false ds')):=by
 rw[aLh h hi hl,hp,he];rfl
theorem bV{i:Nat}{e:E}{ds:List D}(h:ev P cl σ e=.ok ⟨.lst ds,true,false,[]⟩):ex P cl σ (.set (.n i) e)=.next (σ.set i (.own false ds)):=by
 rw[fA,h];rfl
theorem wY{c:E}{a b:Ss}(h:tst P cl σ c=.ok true)(r:exs P cl σ a=.next σ'):ex P cl σ (.iff c a b)=.next σ':=by
 rw[eQ,h,bH,if_pos rfl,r]
theorem aNc{a b:E}{x y:Bool}(h1:tst P cl σ a=.ok x)(h2:tst P cl σ b=.ok y):tst P cl σ (.an a b)=.ok (x&&y):=by
 rw[zF,h1,aA];cases x
 . rfl
 . exact h2
theorem cQ{o:CmpOp}{a b:E}{x y:Vl}{k:Bool}(h:ev P cl σ a=.ok x)(g:ev P cl σ b=.ok y)(e:cG o x.d y.d=some k):tst P cl σ (.cmp o a b)=.ok k:=by rw[dC,h,aA,g,aA,e]
end
theorem nY{P:Pg}{cl:Caller}{σ:Sg}{s:S}{ss:Ss}{v:Vl}(h:ex P cl σ s=.ret v):exs P cl σ (.cons s ss)=.ret v:=by rw[cB,h];rfl
theorem cR{P:Pg}{cl:Caller}{σ:Sg}{f:Nat}{a:E}{x:Vl}{d:D}{fr:Bool}(h1:ev P cl σ a=.ok x)(hc:cl f [x.d]=.ok (d,fr,false)):ev P cl σ (.call f (.cons a .nil))=.ok ⟨d,fr,false,[]⟩:=by
 have e:evs P cl σ (.cons a .nil)=.ok [x]:=by rw[aG,h1];rfl
 rw[dB,e,aA,show [x].map (·.d)=[x.d] from rfl,hc];rfl
section
variable {P:Pg} {cl:Caller} {σ σ':Sg}
theorem aLi{a b:E}(h:tst P cl σ a=.ok true):tst P cl σ (.orr a b)=.ok true:=by rw[fM,h];rfl
theorem fD{a b:E}{k:Bool}(h:tst P cl σ a=.ok false)(g:tst P cl σ b=.ok k):tst P cl σ (.orr a b)=.ok k:=by rw[fM,h,aA,if_neg bN,g]
theorem hX{f:Nat}{a b c:E}{x y z:Vl}{d:D}(h1:ev P cl σ a=.ok x)(h2:ev P cl σ b=.ok y)(h3:ev P cl σ c=.ok z)(hc:cl f [x.d,y.d,z.d]=.ok (d,true,false)):ev P cl σ (.call f (.cons a (.cons b (.cons c .nil))))=.ok ⟨d,true,false,[]⟩:=by
 have e:evs P cl σ (.cons a (.cons b (.cons c .nil)))=.ok [x,y,z]:=by rw[aG,h1,aA,aG,h2,aA,aG,h3,aA,bG];rfl
 rw[dB,e,aA,show [x,y,z].map (·.d)=[x.d,y.d,z.d] from rfl,hc];rfl
theorem dO{f:Nat}{a b:E}{x y:Vl}{d:D}(h1:ev P cl σ a=.ok x)(h2:ev P cl σ b=.ok y)(hc:cl f [x.d,y.d]=.ok (d,true,false)):ev P cl σ (.call f (.cons a (.cons b .nil)))=.ok ⟨d,true,false,[]⟩:=by
 have e:evs P cl σ (.cons a (.cons b .nil))=.ok [x,y]:=by rw[aG,h1,aA,aG,h2,aA,bG];rfl
 rw[dB,e,aA,show [x,y].map (·.d)=[x.d,y.d] from rfl,hc];rfl
theorem oM{f:Nat}{a b c e g:E}{x y z w u:Vl}{d:D}(h1:ev P cl σ a=.ok x)(h2:ev P cl σ b=.ok y)(h3:ev P cl σ c=.ok z)(h4:ev P cl σ e=.ok w)(h5:ev P cl σ g=.ok u)(hc:cl f [x.d,y.d,z.d,w.d,u.d]=.ok (d,false,false)):ev P cl σ (.call f (.cons a (.cons b (.cons c (.cons e (.cons g .nil))))))=.ok (.cl d):=by
 have e:evs P cl σ (.cons a (.cons b (.cons c (.cons e (.cons g .nil)))))=.ok [x,y,z,w,u]:=by rw[aG,h1,aA,aG,h2,aA,aG,h3,aA,aG,h4,aA,aG,h5,aA,bG];rfl
 rw[dB,e,aA,show [x,y,z,w,u].map (·.d)=[x.d,y.d,z.d,w.d,u.d] from rfl,hc];rfl
theorem aIy{t:T}{e:E}{d:D}(h:ev P cl σ e=.ok (.cl d))(k:cH σ (.cl d) t=.ok σ'):ex P cl σ (.set t e)=.next σ':=by rw[fA,h,bH,gG,cO,k];rfl
theorem aIz{i:Nat}{e:E}{d:D}(h:ev P cl σ e=.ok ⟨d,false,true,[]⟩):ex P cl σ (.set (.n i) e)=.next (σ.set i (.sh true d)):=by rw[fA,h];rfl
theorem wZ{f:Nat}{a b:E}{x y:Vl}{d:D}(h1:ev P cl σ a=.ok x)(h2:ev P cl σ b=.ok y)(hc:cl f [x.d,y.d]=.ok (d,false,true))(hp:dS [x,y]=true)(ha:bT [x,y]=[]):ev P cl σ (.call f (.cons a (.cons b .nil)))=.ok ⟨d,false,true,[]⟩:=by
 have e:evs P cl σ (.cons a (.cons b .nil))=.ok [x,y]:=by rw[aG,h1,aA,aG,h2,aA,bG];rfl
 rw[dB,e,aA,show [x,y].map (·.d)=[x.d,y.d] from rfl,hc,aA]
 show R.ok (⟨d,false,dS [x,y],bT [x,y]⟩:Vl)=_
 rw[hp,ha]
end
abbrev eU(ws:List Way):D:=.lst (ws.map Way.d)
abbrev aX(h:List (List Way)):List D:=h.map eU
structure aDS (m e:Nat) (ws:List Way):Prop where
 one:1<=ws.length
 few:ws.length<=4
 ok:∀w∈ws,eK m w/\0<=w.nx/\w.nx<(e:Int)+1
structure uJ (m:Nat) (h:List (List Way)):Prop where
 few:h.length<=8
 ok:∀ws∈h,aDS m h.length ws
theorem hZ{α:Type}{P:α->Prop}{l:List α}{x:α}(h:∀y∈l,P y)(hx:P x):∀y∈l++[x],P y:=λy hy=>by
 rcases List.mem_append.mp hy with z|z
 . exact h y z
 . rw[List.mem_singleton.mp z];exact hx
section
variable {P:Pg} {cl:Caller} {σ:Sg}
theorem xA{e:E}{v:Vl}(h:ev P cl σ e=.ok v):ex P cl σ (.ex e)=.next σ:=by rw[aGl,h];rfl
theorem aGm{b:Ss}{σ':Sg}(h:exs P cl σ b=.next σ'):ex P cl σ (.tryN b)=.next σ':=h
theorem cC{s:S}{σ':Sg}(h:ex P cl σ s=.next σ'):exs P cl σ (.cons s .nil)=.next σ':=cs h rfl
theorem uK{i:Nat}{d:D}{ss:Ss}(h:σ[i]? = some (.sh true d))(n:noL d=true):exs P cl σ (.cons (.retv i) ss)=.ret (.cl d):=by
 refine nY ?_
 show(match σ[i]? with|some (.own pa ds)=>O.ret ⟨.lst ds,true,pa,[]⟩|_=>O.from σ (bZ σ i) .ret)=_
 unfold bZ
 rw[h]
 show O.from σ (Sl.val i (.sh true d)) .ret=_
 rw[dI i true n]
 rfl
theorem eC{a:E}{cs:List Cl}{v:Vl}{k:Bool}(h:ev P cl σ a=.ok v)(e:isI cs P v.d=some k):tst P cl σ (.isi a cs)=.ok k:=by
 show(ev P cl σ a >>= λx=>(match isI cs P x.d with|some k=>R.ok k|none=>.bad))=_
 rw[h,aA,e]
theorem aP(i:Nat){d:D}(h:σ[i]? = some (.sh true d))(n:noL d=true):ev P cl σ (.v i)=.ok (.cl d):=by
 show bZ σ i=_
 unfold bZ
 rw[h]
 exact dI i true n
theorem aK(i:Nat){ds:List D}(h:σ[i]? = some (.sh true (.lst ds))):ev P cl σ (.v i)=.ok ⟨.lst ds,false,true,[]⟩:=by
 show bZ σ i=_
 unfold bZ
 rw[h]
 rfl
end
variable {bs:List (Str×Int)}
theorem xB(n:Nat){q:Cn}(w:q.wf bs.length true)(z:q.sz<=31):call pg (n+35) 17 [.lst (aB bs),q.d,.bl true]=.ok (q.d,false,false):=by
 have c1:=jL (P:=pg) (wh:=14) (wi:=15) (ch:=20) (fo:=19) (lo:=18) rfl rfl rfl rfl rfl rfl rfl (bs:=aB bs) (lM _) q (n+31-q.sz) 0 w (by omega)
 rw[show n+31-q.sz+3+q.sz=n+34 by omega] at c1
 exact aH (F:=f17) rfl rfl (v:=.cl q.d) (cs (xA (oM (aK 0 rfl) (aC _) (aP 1 rfl q.noL) (aP 2 rfl rfl) (aC _) c1)) (uK rfl q.noL))
theorem zL(n:Nat){s:Sm}(w:s.wf bs.length true)(z:s.sz<=3):call pg (n+7) 16 [.lst (aB bs),s.d,.bl true]=.ok (s.d,false,false):=by
 have c1:=lW (P:=pg) (wh:=14) (wi:=15) (ch:=20) (fo:=19) (lo:=18) rfl rfl rfl rfl rfl rfl (bs:=aB bs) (lM _) s (n+3-s.sz) 0 w (by omega)
 rw[show n+3-s.sz+3+s.sz=n+6 by omega] at c1
 exact aH (F:=f16) rfl rfl (v:=.cl s.d) (cs (xA (oM (aK 0 rfl) (aC _) (aP 1 rfl s.noL) (aP 2 rfl rfl) (aC _) c1)) (uK rfl s.noL))
theorem aBF(n:Nat){q:Cn}(w:q.wf bs.length true)(z:q.sz<=31):call pg (n+36) 24 [.lst (aB bs),q.d]=.ok (.non,false,false):=
 gW (F:=f24) rfl rfl (cC (aGm (cC (xA (bO (aK 0 rfl) (aP 1 rfl q.noL) (aC _) (xB n w z))))))
theorem aFC(n:Nat){p:Nat×Sm}(o:kF bs.length p){l:Nat}(hl:l<=p.1):call pg (n+8) 26 [.lst (aB bs),dG p,.int l]=.ok (.non,false,false):=by
 have hb:=o.box
 have c1:=gX (P:=pg) (wh:=14) (wi:=15) rfl rfl (n+5) p.1 l ((bs.length:Int)-1) (by omega) (by omega)
 refine gW (F:=f26) rfl rfl (σ:=[.sh true (.lst (aB bs)),.sh true (dG p),.sh true (.int l)]) ?_
 show exs pg (call pg (n+7)) [.sh true (.lst (aB bs)),.sh true (dG p),.sh true (.int l)] f26.body=_
 have v0:=aK (P:=pg) (cl:=call pg (n+7)) (σ:=[.sh true (.lst (aB bs)),.sh true (dG p),.sh true (.int l)]) 0 rfl
 have v1:=aP (P:=pg) (cl:=call pg (n+7)) (σ:=[.sh true (.lst (aB bs)),.sh true (dG p),.sh true (.int l)]) 1 rfl (oK p)
 have v3:=fI (o:=.Sub) (eS (b:=.len) v0 (lR _ _ _ _)) (aC (.int 1)) (sub_int _ 1)
 rw[show(aB bs).length=bs.length from lM _] at v3
 have k2:=cA (a:=.cons (.rse 3 false (.cons (.c (.str "puts are of the boxes' numbers, rising, each once")) .nil)) .nil) (dQ (mB (bE v1 (aC _) (fZ _ _ rfl)) (aP 2 rfl rfl) v3 c1))
 exact cs (cA (fD (dQ (eC v1 rfl)) (cQ (eS v1 (gJ _)) (aC _) rfl))) (cs k2 (cC (aGm (cC (xA (bO v0 (bE v1 (aC _) (gA _ _ _ p.2.noL)) (aC _) (zL n o.wf o.sz)))))))
abbrev pf(bs:List (Str×Int))(ps:List (Nat×Sm))(s t:Sl):Sg:=[.sh true (.lst (aB bs)),.sh true (.tup (ps.map dG)),s,t]
theorem aDT(n:Nat){ps:List (Nat×Sm)}(o:∀p∈ps,kF bs.length p)(up:Up ps):call pg (n+9) 25 [.lst (aB bs),.tup (ps.map dG)]=.ok (.non,false,false):=by
 have v1:∀s t,ev pg (call pg (n+8)) (pf bs ps s t) (.v 1)=.ok (.cl (.tup (ps.map dG))):=λs t=>aP 1 rfl (fQ ps)
 have hw:walk pg (call pg (n+8)) (pf bs ps (.sh false (.int 0)) .dead) (.seq (.v 1))=.ok (ps.map λp=>Vl.cl (dG p),[]):=by
  rw[bM,v1,aA]
  show R.ok (items _ (ps.map dG),[])=_
  rw[kX]
 obtain⟨σ',e3,_⟩:=cI (P:=pg) (cl:=call pg (n+8)) (t:=.n 3) (b:=match hdS (drp 2 f25.body) with|.for _ _ b=>b|_=>.nil) (λi σ=>∃(l:Nat) (t:Sl),(∀p∈ps.drop i,l<=p.1)/\σ=pf bs ps (.sh false (.int l)) t) hw ⟨0,.dead,λ_ _=>Nat.zero_le _,rfl⟩ λi hi σ ⟨l,t,hl,hσ⟩=>by
  have hi':i<ps.length:=by simpa using hi
  subst hσ
  have hd:=List.drop_eq_getElem_cons hi'
  rw[hd] at hl
  have v3:ev pg (call pg (n+8)) (pf bs ps (.sh false (.int l)) (.sh false (dG ps[i]))) (.v 3)=.ok (.cl (dG ps[i])):=bU 3 _
  refine⟨pf bs ps (.sh false (.int l)) (.sh false (dG ps[i])),pf bs ps (.sh false (.int ((ps[i].1+1:Nat):Int))) (.sh false (dG ps[i])),?_,cs (xA (bO (aK 0 rfl) v3 (bU 2 _) (aFC n (o _ (List.getElem_mem hi')) (hl _ List.mem_cons_self)))) (cC (aZ (fI (bE v3 (aC _) (fZ _ _ rfl)) (aC _) (add_int _ 1)))),ps[i].1+1,_,λp hp=>?_,rfl⟩
  . rw[List.getElem_map,cY];rfl
  . have:=(List.pairwise_cons.mp (by rw[<-hd];exact List.Pairwise.sublist (List.drop_sublist _ _) up)).1 p hp
    exact this
 exact gW (F:=f25) rfl rfl (cs (cA (dQ (eC (v1 _ _) rfl))) (cs (aZ (aC _)) (cC e3)))
theorem aLj(x y z:D)(h:noL z=true):eA (.cl (.tup [x,y,z])) (.cl (.int 2))=.ok (.cl z):=zJ x y z [] h
theorem zM(n:Nat){w:Way}(o:eK bs.length w){e:Nat}(hx:0<=w.nx/\w.nx<(e:Int)+1):call pg (n+37) 23 [.lst (aB bs),w.d,.int e]=.ok (w.d,false,false):=by
 have v0:=aK (P:=pg) (cl:=call pg (n+36)) (σ:=[.sh true (.lst (aB bs)),.sh true w.d,.sh true (.int e)]) 0 rfl
 have v1:=aP (P:=pg) (cl:=call pg (n+36)) (σ:=[.sh true (.lst (aB bs)),.sh true w.d,.sh true (.int e)]) 1 rfl (eT w)
 have c1:=gX (P:=pg) (wh:=14) (wi:=15) rfl rfl (n+34) w.nx 0 e hx.1 (by omega)
 have k1:=cA (a:=.cons (.rse 3 false (.cons (.c (.str "a way is a tuple (guard, puts, next)")) .nil)) .nil) (fD (dQ (eC (cs:=[.tTuple]) (k:=true) v1 rfl)) (cQ (o:=.NotEq) (k:=false) (eS (b:=.len) v1 (gJ _)) (aC (.int 3)) rfl))
 have k4:=cA (a:=.cons (.rse 3 false (.cons (.c (.str "a way's next is a place of the hand")) .nil)) .nil) (dQ (mB (bE v1 (aC (.int 2)) (zJ _ _ _ _ rfl)) (aC (.int 0)) (aP 2 rfl rfl) c1))
 exact aH (F:=f23) rfl rfl (v:=.cl w.d) (cs k1 (cs (xA (dR v0 (bE v1 (aC (.int 0)) (fZ _ _ w.g.noL)) (aBF n o.g o.gs))) (cs (xA (dR v0 (bE v1 (aC (.int 1)) (gA _ _ _ (fQ w.ps))) (aDT (n+27) o.ps o.up))) (cs k4 (uK rfl (eT w))))))
section
variable {P:Pg} {cl:Caller} {σ:Sg}
theorem aAF{a b c:E}{x y z:Int}(h1:ev P cl σ a=.ok (.cl (.int x)))(h2:ev P cl σ b=.ok (.cl (.int y)))(h3:ev P cl σ c=.ok (.cl (.int z)))(p:x<=y)(q:y<=z):tst P cl σ (.cmp2 .LtE .LtE a b c)=.ok true:=by
 rw[qF,h1,aA,h2,aA]
 show(match some (decide (x<=y)) with|some true=>ev P cl σ c >>= λz=>(match cG .LtE (.int y) z.d with|some k=>R.ok k|none=>.bad)|some false=>.ok false|none=>.bad)=_
 rw[decide_eq_true p]
 show(ev P cl σ c >>= λz=>(match cG .LtE (.int y) z.d with|some k=>R.ok k|none=>.bad))=_
 rw[h3,aA]
 show(match some (decide (y<=z)) with|some k=>R.ok k|none=>.bad)=_
 rw[decide_eq_true q]
theorem xC{a b c:E}{x y z:Int}{k:Bool}(h1:ev P cl σ a=.ok (.cl (.int x)))(h2:ev P cl σ b=.ok (.cl (.int y)))(h3:ev P cl σ c=.ok (.cl (.int z)))(p:x<=y)(q:decide (y<z)=k):tst P cl σ (.cmp2 .LtE .Lt a b c)=.ok k:=by
 rw[qF,h1,aA,h2,aA]
 show(match some (decide (x<=y)) with|some true=>ev P cl σ c >>= λz=>(match cG .Lt (.int y) z.d with|some k=>R.ok k|none=>.bad)|some false=>.ok false|none=>.bad)=_
 rw[decide_eq_true p]
 show(ev P cl σ c >>= λz=>(match cG .Lt (.int y) z.d with|some k=>R.ok k|none=>.bad))=_
 rw[h3,aA]
 show(match some (decide (y<z)) with|some k=>R.ok k|none=>.bad)=_
 rw[q]
end
theorem oN{α:Type}(k:Nat)(caps:List Nat)(f:α->D):∀h:List α,fK k caps [] (h.map λx=>Vl.mk (f x) true false [])=⟨.lst (h.map f),true,false,[]⟩:=λh=>by
 have e1:(h.map λx=>Vl.mk (f x) true false []).map (·.d)=h.map f:=by rw[List.map_map];rfl
 have e2:dS (h.map λx=>Vl.mk (f x) true false [])=false:=by
  induction h with
  | nil=>rfl
  | cons x h ih=>
   unfold dS at ih ⊢
   rw[mC,List.any_cons,ih (by rw[List.map_map];rfl)];rfl
 have e3:bT (h.map λx=>Vl.mk (f x) true false [])=[]:=by
  clear e1 e2
  induction h with
  | nil=>rfl
  | cons x h ih=>
   unfold bT at ih ⊢
   rw[mC,List.flatMap_cons,ih];rfl
 unfold fK
 rw[e1,e2,e3]
 split <;> rfl
variable {bs:List (Str×Int)}
theorem zN(n:Nat){ws:List Way}{e:Nat}(o:aDS bs.length e ws):call pg (n+38) 22 [.lst (aB bs),eU ws,.int e]=.ok (eU ws,true,false):=by
 have v1:=aK (P:=pg) (cl:=call pg (n+37)) (σ:=[.sh true (.lst (aB bs)),.sh true (eU ws),.sh true (.int e)]) 1 rfl
 have hl:=eS (b:=.len) v1 (lR _ _ _ _)
 rw[lM] at hl
 have k1:=cA (a:=.cons (.rse 3 false (.cons (.c (.str "a row is a list of one to four ways")) .nil)) .nil) (fD (dQ (eC (cs:=[.tList]) (k:=true) v1 rfl)) (dQ (aAF (aC (.int 1)) hl (aC (.int 4)) (by have:=o.one;omega) (by have:=o.few;omega))))
 refine aH (F:=f22) rfl rfl (v:=⟨eU ws,true,false,[]⟩) (cs k1 (bD (fY (ts:=ws) (al:=[]) (λw=>Vl.cl w.d) Way.d eT ?_ (by have:=o.few;unfold lim;omega) λw hw=>⟨[.sh false w.d,.sh true (.lst (aB bs)),.sh true (.int e)],?_,bO (aK 1 rfl) (bU 0 _) (aP 2 rfl rfl) (zM n (o.ok w hw).1 (o.ok w hw).2)⟩)))
 . rw[bM,v1,aA]
   show R.ok (items _ (ws.map Way.d),[])=_
   rw[cF eT]
 . rw[cY];rfl
theorem xD(n:Nat){h:List (List Way)}(o:uJ bs.length h):call pg (n+39) 21 [.lst (aB bs),.lst (aX h)]=.ok (.lst (aX h),true,false):=by
 have v1:=aK (P:=pg) (cl:=call pg (n+38)) (σ:=[.sh true (.lst (aB bs)),.sh true (.lst (aX h))]) 1 rfl
 have hl:=eS (b:=.len) v1 (lR _ _ _ _)
 rw[lM] at hl
 have k1:=cA (a:=.cons (.rse 3 false (.cons (.c (.str "a hand is a list of none to eight rows")) .nil)) .nil) (fD (dQ (eC (cs:=[.tList]) (k:=true) v1 rfl)) (cQ (o:=.Gt) (k:=false) hl (aC (.int 8)) (congrArg some (decide_eq_false (by have:=o.few;omega)))))
 have hc:ev pg (call pg (n+38)) [.sh true (.lst (aB bs)),.sh true (.lst (aX h))] (.comp 1 [0,1] (.n 0) (.seq (.v 1)) .nil (.call 22 (.cons (.v 1) (.cons (.v 0) (.cons (.bi .len (.cons (.v 2) .nil)) .nil)))))=.ok ⟨.lst (aX h),true,false,[]⟩:=by
  rw[lO (xs:=h.map λws=>⟨eU ws,false,true,[]⟩) (al:=[]) (λx=>⟨x.d,true,false,[]⟩) ?_ (by rw[lM];have:=o.few;unfold lim;omega) λx hx=>?_]
  . rw[List.map_map]
    exact congrArg R.ok (oN 1 [0,1] eU h)
  . rw[bM,v1,aA]
    show R.ok (items _ (aX h),[])=_
    unfold items
    rw[List.map_map]
    rfl
  . obtain⟨ws,hw,rfl⟩:=List.mem_map.mp hx
    have l2:=eS (b:=.len) (aK (P:=pg) (cl:=call pg (n+38)) (σ:=[.sh true (eU ws),.sh true (.lst (aB bs)),.sh true (.lst (aX h))]) 2 rfl) (lR _ _ _ _)
    rw[lM] at l2
    exact⟨[.sh true (eU ws),.sh true (.lst (aB bs)),.sh true (.lst (aX h))],rfl,hX (aK 1 rfl) (aK 0 rfl) l2 (zN n (o.ok ws hw))⟩
 exact aH (F:=f21) rfl rfl (v:=⟨.lst (aX h),true,false,[]⟩) (cs k1 (bD hc))
def InR(bs:List (Str×Int))(acc:List Int):Prop:=∀(j:Nat) (a:Int) (b:Str×Int),acc[j]? = some a->bs[j]? = some b->0<=a/\a<=b.2
theorem aDU{bs:List (Str×Int)}{st:List Int}{b:Str×Int}{h:Nat}(hl:st.length=bs.length)(H:InR bs st)(hh:h<(b.2+1).toNat):InR (bs++[b]) (st++[(h:Int)]):=by
 intro j x c hx hc
 by_cases hj:j<bs.length
 . rw[List.getElem?_append_left (by omega)] at hx
   rw[List.getElem?_append_left hj] at hc
   exact H j x c hx hc
 . rw[List.getElem?_append_right (by omega)] at hx
   rw[List.getElem?_append_right (by omega)] at hc
   have h0:j-bs.length=0:=by
    have:=(List.getElem?_eq_some_iff.mp hc).1
    simp at this
    omega
   rw[hl,h0] at hx
   rw[h0] at hc
   cases hx
   cases hc
   omega
theorem xE{bs:List (Str×Int)}:∀i,i<=bs.length->∀st∈standsL (bs.take i),st.length=i/\InR (bs.take i) st
 | 0,_,st,h=>by
  have:st=[]:=by simpa[standsL] using h
  subst this
  exact⟨rfl,λj a b ha _=>by simp at ha⟩
 | i+1,hi,st,h=>by
  rw[fN hi] at h
  obtain⟨b,hb,hst⟩:=List.mem_flatMap.mp h
  obtain⟨m,hm,rfl⟩:=List.mem_map.mp hst
  obtain⟨l1,l2⟩:=xE i (by omega) b hb
  refine⟨by simp[l1],?_⟩
  rw[List.take_succ_eq_append_getElem hi]
  exact aDU (by rw[l1,List.length_take];omega) l2 (by simpa using hm)
theorem mD{bs:List (Str×Int)}{st:List Int}(h:st∈standsL bs):st.length=bs.length/\InR bs st:=by
 have:=xE (bs:=bs) bs.length (Nat.le_refl _) st (by rw[List.take_length];exact h)
 rwa [List.take_length] at this
def gL(ws:List Way)(i:Nat):Way:=ws.getD i ⟨.yes,[],0⟩
abbrev aD(i:Nat):D:=.int (i:Int)
theorem cP(i:Nat):noL (aD i)=true:=rfl
theorem aAG{ws:List Way}{i:Nat}(h:i<ws.length):gL ws i∈ws/\ws[i]? = some (gL ws i):=by
 unfold gL
 rw[List.getD_eq_getElem?_getD,List.getElem?_eq_getElem h]
 exact⟨List.getElem_mem h,rfl⟩
theorem aFD{P:Pg}{cl:Caller}{σ:Sg}{a:E}{v:Vl}{ds:List D}(h:ev P cl σ a=.ok v)(e:v.d=.lst ds):walk P cl σ (.enum a)=.ok (items v (gC 0 ds),v.al):=by
 show(ev P cl σ a >>= λx=>(match iU x.d with|some as=>R.ok (items x (gC 0 as),x.al)|none=>.bad))=_
 rw[h,aA,e]
 rfl
def okE:Nat->D->Bool
 | 0,_=>false
 | n+1,d=>match d with
  | .tup ds=>ds.all (okE n)
  | .lst ds=>ds.all (okE n)
  | .dic _=>false
  | .err _ _=>false
  | _=>true
theorem qN:∀(n:Nat) (d:D),okE n d=true->eqF n d d=some true
 | 0,_,h=>by cases h
 | n+1,d,h=>by
  have hs:∀ds:List D,ds.all (okE n)=true->gM n ds ds=some true:=λds=>by
   induction ds with
   | nil=>intro _;rfl
   | cons x r ih=>
    intro h
    rw[List.all_cons,bA] at h
    unfold gM
    rw[qN n x h.1,ih h.2]
    rfl
  cases d with
  | non=>rfl
  | bl b=>exact congrArg some (beq_self_eq_true b)
  | int i=>exact congrArg some (beq_self_eq_true i)
  | str s=>exact congrArg some (beq_self_eq_true s)
  | tup ds=>
   show eqL (eqF n) ds ds=_
   rw[yE,hs ds h]
  | lst ds=>
   show(if ds.length=ds.length then eqL (eqF n) ds ds else some false)=_
   rw[if_pos rfl,yE,hs ds h]
  | dic _=>cases h
  | err _ _=>cases h
theorem aGn{x:D}(h:eqD x x=some true):cG .NotEq x x=some false:=by rw[qH,h];rfl
section
variable {P:Pg} {cl:Caller} {σ:Sg}
theorem aI(i:Nat){d:D}(h:σ[i]? = some (.sh false d)):ev P cl σ (.v i)=.ok (.cl d):=by
 show bZ σ i=_
 unfold bZ
 rw[h]
 exact bU i d
theorem bI(i:Nat){pa:Bool}{ds:List D}(h:σ[i]? = some (.own pa ds)):ev P cl σ (.v i)=.ok ⟨.lst ds,false,pa,[i]⟩:=by
 show bZ σ i=_
 unfold bZ
 rw[h]
 rfl
theorem bB:evs P cl σ .nil=.ok (([]:List D).map Vl.cl):=rfl
theorem aF{a:E}{es:Es}{d:D}{ds:List D}(h:ev P cl σ a=.ok (.cl d))(t:evs P cl σ es=.ok (ds.map Vl.cl)):evs P cl σ (.cons a es)=.ok ((d::ds).map Vl.cl):=by
 rw[aG,h,aA,t];rfl
theorem aDV(ds:List D):dS (ds.map Vl.cl)=false:=by
 induction ds with
 | nil=>rfl
 | cons d ds ih=>unfold dS at ih ⊢;rw[mC,List.any_cons,ih];rfl
theorem aDW(ds:List D):bT (ds.map Vl.cl)=[]:=by
 induction ds with
 | nil=>rfl
 | cons d ds ih=>unfold bT at ih ⊢;rw[mC,List.flatMap_cons,ih];rfl
theorem aDX(ds:List D):(ds.map Vl.cl).map (·.d)=ds:=by rw[List.map_map];exact List.map_id _
theorem bK{es:Es}{ds:List D}(h:evs P cl σ es=.ok (ds.map Vl.cl)):ev P cl σ (.tup es)=.ok (.cl (.tup ds)):=by
 rw[qC,h,aA]
 show R.ok (Vl.mk (.tup ((ds.map Vl.cl).map (·.d))) false (dS (ds.map Vl.cl)) (bT (ds.map Vl.cl)))=_
 rw[aDV,aDW,aDX];rfl
theorem dZ{es:Es}{ds:List D}(h:evs P cl σ es=.ok (ds.map Vl.cl)):ev P cl σ (.lst es)=.ok ⟨.lst ds,true,false,[]⟩:=by
 rw[aIq,h,aA]
 show R.ok (Vl.mk (.lst ((ds.map Vl.cl).map (·.d))) true (dS (ds.map Vl.cl)) (bT (ds.map Vl.cl)))=_
 rw[aDV,aDW,aDX]
theorem eW{a b:E}{x n:Int}(h:ev P cl σ a=.ok (.cl (.int x)))(k:ev P cl σ b=.ok (.cl (.int n)))(p:0<n):ev P cl σ (.op .Mod a b)=.ok (.cl (.int (x % n))):=fI h k (aAz p)
theorem eD{a b:E}{x n:Int}(h:ev P cl σ a=.ok (.cl (.int x)))(k:ev P cl σ b=.ok (.cl (.int n))):ev P cl σ (.op .Add a b)=.ok (.cl (.int (x+n))):=fI h k (add_int _ _)
theorem dU{a:E}{v:Vl}{ds:List D}(h:ev P cl σ a=.ok v)(e:v.d=.lst ds):ev P cl σ (.bi .len (.cons a .nil))=.ok (.cl (.int ds.length)):=eS h (by
 obtain⟨d,f,p,al⟩:=v
 have e:d=.lst ds:=e
 subst e
 exact lR _ _ _ _)
theorem xF{α:Type}{f:α->D}{a b:E}{v:Vl}{xs:List α}{k:Nat}{x:α}(h:ev P cl σ a=.ok v)(hv:v.d=.lst (xs.map f))(hb:ev P cl σ b=.ok (.cl (.int (k:Int))))(hx:xs[k]? = some x)(hn:noL (f x)=true):ev P cl σ (.idx a b)=.ok (.cl (f x)):=
 bE h hb ((wX hv hx).trans (congrArg R.ok (cJ hn)))
theorem fE{a b:E}{v:Vl}{xs:List Int}{k:Nat}(h:ev P cl σ a=.ok v)(hv:v.d=.lst (xs.map D.int))(hb:ev P cl σ b=.ok (.cl (.int (k:Int))))(hk:k<xs.length):ev P cl σ (.idx a b)=.ok (.cl (.int (xs.getD k 0))):=
 bE h hb (aFy hv hk)
theorem xG{a b:List D}{v w:Vl}(hv:v.d=.lst a)(hw:w.d=.lst b)(ha:noLs a=true)(hb:noLs b=true)(hl:a.length+b.length<=lim):opD .Add v w=.ok ⟨.lst (a++b),true,false,[]⟩:=by
 obtain⟨_,f,p,al⟩:=v
 obtain⟨_,f',p',al'⟩:=w
 cases hv
 cases hw
 show R.iff (decide (a.length+b.length<=lim)) (.ok (Vl.mk (.lst (a++b)) true ((p&&!noLs a)||(p'&&!noLs b)) ((if noLs a then [] else al)++(if noLs b then [] else al'))))=_
 rw[decide_eq_true hl,ha,hb]
 cases p <;> cases p' <;> rfl
end
section
variable {P:Pg} {cl:Caller} {σ:Sg}
theorem aFE{f:Nat}{a:E}{x:Vl}{k:Bool}(h1:ev P cl σ a=.ok x)(hc:cl f [x.d]=.ok (.bl k,false,false)):tst P cl σ (.call f (.cons a .nil))=.ok k:=by
 have e:evs P cl σ (.cons a .nil)=.ok [x]:=by rw[aG,h1];rfl
 rw[gR,e,aA,show [x].map (·.d)=[x.d] from rfl,hc];rfl
end
theorem aBG(x:Int){n:Nat}(h:0<n):∃k:Nat,x % (n:Int)=(k:Int)/\k<n:=by
 have h1:=Int.emod_nonneg x (show(n:Int)≠0 by omega)
 have h2:=Int.emod_lt_of_pos x (show(0:Int)<n by omega)
 exact⟨(x % n).toNat,by omega,by omega⟩
abbrev b3(s t:Int):List (Str×Int):=[("a",s),("b",t),("c",1)]
abbrev b4(s:Int):List (Str×Int):=[("a",1),("b",1),("c",1),("d",s)]
def boxSet:List (List (Str×Int)):=[b3 1 1,b3 2 1,b3 1 2,b3 2 2,b4 1,b4 2]
theorem box_six{bs:List (Str×Int)}(hb:bs∈boxSet):bs=b3 1 1\/bs=b3 2 1\/bs=b3 1 2\/bs=b3 2 2\/bs=b4 1\/bs=b4 2:=by
 simpa only[boxSet,List.mem_cons,List.not_mem_nil,or_false] using hb
theorem fO{bs:List (Str×Int)}(hb:bs∈boxSet):3<=bs.length/\bs.length<=4:=by
 rcases box_six hb with rfl|rfl|rfl|rfl|rfl|rfl <;> decide
theorem uL{bs:List (Str×Int)}(hb:bs∈boxSet):∀b∈bs,1<=b.2/\b.2<=2:=by
 rcases box_six hb with rfl|rfl|rfl|rfl|rfl|rfl <;> decide +kernel
theorem xH{bs:List (Str×Int)}(hb:bs∈boxSet):iN bs<=24/\1<=iN bs:=by
 rcases box_six hb with rfl|rfl|rfl|rfl|rfl|rfl <;> decide +kernel
theorem xI{bs:List (Str×Int)}(hb:bs∈boxSet):aFv bs:=⟨by have:=fO hb;omega,λb h=>by have:=uL hb b h;omega,(xH hb).1⟩
theorem aDY{bs:List (Str×Int)}(hb:bs∈boxSet):∀b∈bs,∃c:Nat,b.1=⟨#[c]⟩/\cG .In (.str ⟨#[c]⟩) (.str "abcdefghijklmnopqrstuvwxyz")=some true:=by
 have h:∀x∈[("a" : Str), "b", "c", "d"],∃c:Nat,x=⟨#[c]⟩/\cG .In (.str ⟨#[c]⟩) (.str "abcdefghijklmnopqrstuvwxyz")=some true:=λx hx=>by
  simp only[List.mem_cons,List.not_mem_nil,or_false] at hx
  rcases hx with rfl|rfl|rfl|rfl
  . exact⟨97,by decide +kernel,by decide +kernel⟩
  . exact⟨98,by decide +kernel,by decide +kernel⟩
  . exact⟨99,by decide +kernel,by decide +kernel⟩
  . exact⟨100,by decide +kernel,by decide +kernel⟩
 intro b hm
 refine h b.1 ?_
 revert b
 rcases box_six hb with rfl|rfl|rfl|rfl|rfl|rfl <;> decide +kernel
theorem aDZ(n:Nat){c:Nat}(h:cG .In (.str ⟨#[c]⟩) (.str "abcdefghijklmnopqrstuvwxyz")=some true):call pg (n+1) 5 [.str ⟨#[c]⟩]=.ok (.bl true,false,false):=by
 have v0:=aP (P:=pg) (cl:=call pg n) (σ:=[.sh true (.str ⟨#[c]⟩)]) 0 rfl rfl
 have hc:ev pg (call pg n) [.sh true (.str ⟨#[c]⟩)] (.comp 1 [] (.n 0) (.seq (.v 0)) .nil (.cmp .In (.v 0) (.c (.str "abcdefghijklmnopqrstuvwxyz"))))=.ok ⟨.lst [.bl true],true,false,[]⟩:=
  fY (ts:=[c]) (al:=[]) (λc=>Vl.cl (.str ⟨#[c]⟩)) (λ_=>.bl true) (λ_=>rfl) (by rw[bM,v0];rfl) (by unfold lim;simp) λt ht=>by
   rw[List.mem_singleton] at ht
   subst ht
   exact⟨[.sh false (.str ⟨#[t]⟩)],rfl,qJ (bU 0 _) (aC _) h⟩
 exact aH (F:=f5) rfl rfl (v:=.cl (.bl true)) (cs (cA (fD (dQ (eC (k:=true) v0 rfl)) (dQ (aAF (y:=1) (aC (.int 1)) (eS v0 rfl) (aC (.int 8)) (by decide) (by decide))))) (bD (eS hc rfl)))
theorem zO(n:Nat){b:Str×Int}{c:Nat}(hb:b.1=⟨#[c]⟩)(h:cG .In (.str ⟨#[c]⟩) (.str "abcdefghijklmnopqrstuvwxyz")=some true)(ht:1<=b.2/\b.2<=2):call pg (n+3) 4 [box b]=.ok (box b,false,false):=by
 obtain⟨x,t⟩:=b
 have hb:x=⟨#[c]⟩:=hb
 subst hb
 have v0:=aP (P:=pg) (cl:=call pg (n+2)) (σ:=[.sh true (box (⟨#[c]⟩,t))]) 0 rfl rfl
 have i0:=bE v0 (aC (.int 0)) (fZ (.str ⟨#[c]⟩) [.int t] rfl)
 have i1:=bE v0 (aC (.int 1)) (gA (.str ⟨#[c]⟩) (.int t) [] rfl)
 exact aH (F:=f4) rfl rfl (v:=.cl (box (⟨#[c]⟩,t))) (cs (cA (fD (dQ (eC (k:=true) v0 rfl)) (cQ (eS v0 (gJ _)) (aC _) rfl))) (cs (cA (dQ (aFE i0 (aDZ (n+1) h)))) (cs (cA (dQ (mB i1 (aC _) (aC _) (gX (P:=pg) (wh:=14) (wi:=15) rfl rfl n t 1 7 ht.1 (by have:=ht.2;show t<=7;omega))))) (bD (nD i0 i1)))))
theorem lQ(b:Str×Int):noL (box b)=true:=rfl
theorem uM(n:Nat){bs:List (Str×Int)}(hb:bs∈boxSet):call pg (n+4) 3 [.lst (aB bs)]=.ok (.lst (aB bs),true,false):=by
 obtain⟨l3,l4⟩:=fO hb
 have v0:=aK (P:=pg) (cl:=call pg (n+3)) (σ:=[.sh true (.lst (aB bs)),.dead]) 0 rfl
 have hl:=dU v0 rfl
 rw[show(aB bs).length=bs.length from lM _] at hl
 have k1:ex pg (call pg (n+3)) [.sh true (.lst (aB bs)),.dead] (.set (.n 1) (.comp 1 [] (.n 0) (.seq (.v 0)) .nil (.call 4 (.cons (.v 0) .nil))))=.next [.sh true (.lst (aB bs)),.own false (aB bs)]:=by
  refine bV (fY (ts:=bs) (al:=[]) (λb=>Vl.cl (box b)) box lQ ?_ (by unfold lim;omega) λb hm=>?_)
  . rw[bM,v0,aA]
    show R.ok (items _ (bs.map box),[])=_
    rw[cF lQ]
  . obtain⟨c,h1,h2⟩:=aDY hb b hm
    exact⟨[.sh false (box b)],rfl,cR (bU 0 _) (zO n h1 h2 (uL hb b hm))⟩
 have k2:tst pg (call pg (n+3)) [.sh true (.lst (aB bs)),.own false (aB bs)] (.cmp .Lt (.numset (.comp 2 [] (.t [0,1]) (.seq (.v 1)) .nil (.v 0))) (.bi .len (.cons (.v 1) .nil)))=.ok false:=by
  rcases box_six hb with rfl|rfl|rfl|rfl|rfl|rfl <;> rfl
 have k3:tst pg (call pg (n+3)) [.sh true (.lst (aB bs)),.own false (aB bs)] (.cmp .Gt (.call 6 (.cons (.v 1) .nil)) (.c (.int 24)))=.ok false:=by
  rcases box_six hb with rfl|rfl|rfl|rfl|rfl|rfl <;> rfl
 exact aH (F:=f3) rfl rfl (v:=⟨.lst (aB bs),true,false,[]⟩) (cs (cA (fD (dQ (eC (k:=true) v0 rfl)) (dQ (aAF (aC (.int 1)) hl (aC (.int 5)) (by omega) (by omega))))) (cs k1 (cs (cA k2) (cs (cA k3) (nY rfl)))))
structure nE (m:Nat) (z:List Nat):Prop where
 one:1<=z.length
 few:z.length<=4
 ok:∀b∈z,b<m
abbrev iA(z:List Nat):D:=.lst (z.map aD)
theorem aEa(n:Nat)(x:Int){h m:Nat}(hh:h<3)(sh:Int)(hm:3<=m)(hm4:m<=4):∃(z:List Nat) (fr:Bool),nE m z/\call pg (n+1) 44 [.int x,.int h,.int sh,.int m]=.ok (iA z,fr,false):=by
 have third:∃z:List Nat,nE m z/\ev pg (call pg n) [.sh true (.int x),.sh true (.int h),.sh true (.int sh),.sh true (.int m)] (.idx (.lst (.cons (.lst (.cons (.c (.int 0)) .nil)) (.cons (.lst (.cons (.c (.int 1)) (.cons (.c (.int 2)) .nil))) (.cons (.lst (.cons (.c (.int 0)) .nil)) .nil)))) (.v 1))=.ok ⟨iA z,false,false,[]⟩:=by
  have:h=0\/h=1\/h=2:=by omega
  rcases this with rfl|rfl|rfl
  . exact⟨[0],⟨by decide,by decide,λb hb=>by simp at hb;omega⟩,rfl⟩
  . exact⟨[1,2],⟨by decide,by decide,λb hb=>by simp at hb;omega⟩,rfl⟩
  . exact⟨[0],⟨by decide,by decide,λb hb=>by simp at hb;omega⟩,rfl⟩
 obtain⟨z,zo,hz⟩:=third
 have x4:=eW (P:=pg) (cl:=call pg n) (σ:=[.sh true (.int x),.sh true (.int h),.sh true (.int sh),.sh true (.int m)]) (aP 0 rfl rfl) (aC (.int 4)) (by decide)
 have tq:∀(j:Int),tst pg (call pg n) [.sh true (.int x),.sh true (.int h),.sh true (.int sh),.sh true (.int m)] (.cmp .Eq (.op .Mod (.v 0) (.c (.int 4))) (.c (.int j)))=.ok (x % 4==j):=λj=>cQ x4 (aC _) rfl
 cases q0:(sh==0) with
 | true=>exact⟨z,false,zo,aH (F:=f44) rfl rfl (v:=⟨iA z,false,false,[]⟩) (fX (cQ (aP 2 rfl rfl) (aC _) (congrArg some q0)) (bD hz))⟩
 | false=>
  have k0:=cA (P:=pg) (cl:=call pg n) (σ:=[.sh true (.int x),.sh true (.int h),.sh true (.int sh),.sh true (.int m)]) (a:=.cons (.ret (.idx (.lst (.cons (.lst (.cons (.c (.int 0)) .nil)) (.cons (.lst (.cons (.c (.int 1)) (.cons (.c (.int 2)) .nil))) (.cons (.lst (.cons (.c (.int 0)) .nil)) .nil)))) (.v 1))) .nil) (cQ (o:=.Eq) (k:=false) (aP 2 rfl rfl) (aC (.int 0)) (congrArg some q0))
  cases q1:(x % 4==0) with
  | true=>
   have hc:ev pg (call pg n) [.sh true (.int x),.sh true (.int h),.sh true (.int sh),.sh true (.int m)] (.comp 1 [] (.n 0) (.rng (.c (.int 0)) (.v 3)) .nil (.v 0))=.ok ⟨iA (List.range m),true,false,[]⟩:=
    fY (ts:=List.range m) (al:=[]) (λi=>Vl.cl (aD i)) aD cP (bX (aP 3 rfl rfl) rfl (by omega)) (by rw[List.length_range];unfold lim;omega) λi _=>⟨[.sh false (aD i)],rfl,bU 0 _⟩
   exact⟨List.range m,true,⟨by rw[List.length_range];omega,by rw[List.length_range];exact hm4,λb hb=>List.mem_range.mp hb⟩,aH (F:=f44) rfl rfl (v:=⟨iA (List.range m),true,false,[]⟩) (cs k0 (fX ((tq 0).trans (congrArg R.ok q1)) (bD hc)))⟩
  | false=>
   have k1:=cA (a:=.cons (.ret (.comp 1 [] (.n 0) (.rng (.c (.int 0)) (.v 3)) .nil (.v 0))) .nil) ((tq 0).trans (congrArg R.ok q1))
   cases q2:(x % 4==1) with
   | true=>exact⟨[h],true,⟨by simp,by simp,λb hb=>by simp at hb;omega⟩,aH (F:=f44) rfl rfl (v:=⟨iA [h],true,false,[]⟩) (cs k0 (cs k1 (fX ((tq 1).trans (congrArg R.ok q2)) (bD (dZ (aF (aP 1 rfl rfl) bB))))))⟩
   | false=>
    have k2:=cA (a:=.cons (.ret (.lst (.cons (.v 1) .nil))) .nil) ((tq 1).trans (congrArg R.ok q2))
    cases q3:(x % 4==2) with
    | true=>exact⟨z,false,zo,aH (F:=f44) rfl rfl (v:=⟨iA z,false,false,[]⟩) (cs k0 (cs k1 (cs k2 (fX ((tq 2).trans (congrArg R.ok q3)) (bD hz)))))⟩
    | false=>
     have k3:=cA (a:=.cons (.ret (.idx (.lst (.cons (.lst (.cons (.c (.int 0)) .nil)) (.cons (.lst (.cons (.c (.int 1)) (.cons (.c (.int 2)) .nil))) (.cons (.lst (.cons (.c (.int 0)) .nil)) .nil)))) (.v 1))) .nil) ((tq 2).trans (congrArg R.ok q3))
     exact⟨[h,2],true,⟨by simp,by simp,λb hb=>by simp at hb;omega⟩,aH (F:=f44) rfl rfl (v:=⟨iA [h,2],true,false,[]⟩) (cs k0 (cs k1 (cs k2 (cs k3 (bD (dZ (aF (aP 1 rfl rfl) (aF (aC _) bB))))))))⟩
section
variable {P:Pg} {cl:Caller} {σ:Sg}
theorem nF{α:Type}{f:α->D}{zs:List α}{zE a:E}{v:Vl}{x:Int}(hz:ev P cl σ zE=.ok v)(hv:v.d=.lst (zs.map f))(ha:ev P cl σ a=.ok (.cl (.int x)))(hl:1<=zs.length)(nf:∀t,noL (f t)=true) :
 ∃t∈zs,ev P cl σ (.idx zE (.op .Mod a (.bi .len (.cons zE .nil))))=.ok (.cl (f t)):=by
 have hb:=dU hz hv
 rw[lM] at hb
 obtain⟨k,e,hk⟩:=aBG x (n:=zs.length) (by omega)
 have hm:=eW ha hb (by omega)
 rw[e] at hm
 exact⟨zs[k],List.getElem_mem hk,xF hz hv hm (List.getElem?_eq_getElem hk) (nf _)⟩
theorem oO{α:Type}{f:α->D}{zs:List α}{zE a:E}{v:Vl}{x:Int}{n:Nat}(hz:ev P cl σ zE=.ok v)(hv:v.d=.lst (zs.map f))(ha:ev P cl σ a=.ok (.cl (.int x)))(hn:zs.length=n)(h0:0<n)(nf:∀t∈zs,noL (f t)=true) :
 ∃t∈zs,ev P cl σ (.idx zE (.op .Mod a (.c (.int n))))=.ok (.cl (f t)):=by
 obtain⟨k,e,hk⟩:=aBG x h0
 have hm:=eW ha (aC (.int n)) (by omega)
 rw[e] at hm
 have hk':k<zs.length:=by omega
 exact⟨zs[k],List.getElem_mem hk',xF hz hv hm (List.getElem?_eq_getElem hk') (nf _ (List.getElem_mem hk'))⟩
end
variable {bs:List (Str×Int)}
theorem aBH{m b q:Nat}{p:Bool}{k:Int}(hb:b<m)(hq:q<m)(h0:0<=k/\k<=99):∀t∈([.yes,.yes,.yes,.cmp p (.box b) (.num k),.nt (.cmp p (.box b) (.num k)),.two false (.cmp p (.box b) (.num k)) (.cmp true (.two false (.box q) (.box b)) (.num 0))]++[.two true (.cmp false (.box q) (.two true (.box b) (.num 1))) (.nt (.cmp p (.box b) (.num k)))]:List Cn),t.wf m true/\t.sz<=31:=by
 simp only[List.cons_append,List.nil_append,List.mem_cons,List.not_mem_nil,or_false]
 rintro t (rfl|rfl|rfl|rfl|rfl|rfl|rfl) <;> simp[Cn.wf,Sm.wf,Cn.sz,Sm.sz,hb,hq,h0.1,h0.2]
theorem zP(n:Nat){ys:List Int}(hl:ys.length=12){z:List Nat}(zo:nE bs.length z):∃g:Cn,g.wf bs.length true/\g.sz<=31/\call pg (n+1) 45 [.lst (ys.map D.int),.lst (aB bs),iA z]=.ok (g.d,false,false):=by
 let σ:Sl->Sl->Sl->Sl->Sl->Sl->Sg:=λs3 s4 s5 s6 s7 s8=>[.sh true (.lst (ys.map D.int)),.sh true (.lst (aB bs)),.sh true (iA z),s3,s4,s5,s6,s7,s8]
 have v0:∀s3 s4 s5 s6 s7 s8,ev pg (call pg n) (σ s3 s4 s5 s6 s7 s8) (.v 0)=.ok ⟨.lst (ys.map D.int),false,true,[]⟩:=λ_ _ _ _ _ _=>aK 0 rfl
 have v2:∀s3 s4 s5 s6 s7 s8,ev pg (call pg n) (σ s3 s4 s5 s6 s7 s8) (.v 2)=.ok ⟨.lst (z.map aD),false,true,[]⟩:=λ_ _ _ _ _ _=>aK 2 rfl
 have y:∀(k:Nat) s3 s4 s5 s6 s7 s8,k<12->ev pg (call pg n) (σ s3 s4 s5 s6 s7 s8) (.idx (.v 0) (.c (.int (k:Int))))=.ok (.cl (.int (ys.getD k 0))):=λk _ _ _ _ _ _ hk=>fE (v0 _ _ _ _ _ _) rfl (aC _) (by omega)
 obtain⟨b,hb,e1⟩:=nF (v2 .dead .dead .dead .dead .dead .dead) rfl (y 0 .dead .dead .dead .dead .dead .dead (by decide)) zo.one cP
 have k1:ex pg (call pg n) (σ .dead .dead .dead .dead .dead .dead) (hdS f45.body)=.next (σ (.sh false (aD b)) .dead .dead .dead .dead .dead):=aZ e1
 have k2:ex pg (call pg n) (σ (.sh false (aD b)) .dead .dead .dead .dead .dead) (hdS (drp 1 f45.body))=.next (σ (.sh false (aD b)) (.sh false (Sm.num (ys.getD 1 0 % 3)).d) .dead .dead .dead .dead):=aZ (bK (aF (aC _) (aF (eW (y 1 _ _ _ _ _ _ (by decide)) (aC (.int 3)) (by decide)) bB)))
 obtain⟨p,hp,e3⟩:=oO (P:=pg) (cl:=call pg n) (σ:=σ (.sh false (aD b)) (.sh false (Sm.num (ys.getD 1 0 % 3)).d) .dead .dead .dead .dead) (n:=2) (zs:=[true,false]) (f:=λp=>.str (nX p)) (zE:=.lst (.cons (.c (.str "is")) (.cons (.c (.str "less")) .nil))) (dZ (aF (aC _) (aF (aC _) bB))) rfl (y 2 _ _ _ _ _ _ (by decide)) rfl (by decide) (λ_ _=>rfl)
 let F:=Cn.cmp p (.box b) (.num (ys.getD 1 0 % 3))
 have k3:ex pg (call pg n) (σ (.sh false (aD b)) (.sh false (Sm.num (ys.getD 1 0 % 3)).d) .dead .dead .dead .dead) (hdS (drp 2 f45.body))=.next (σ (.sh false (aD b)) (.sh false (Sm.num (ys.getD 1 0 % 3)).d) (.sh false F.d) .dead .dead .dead):=aZ (bK (aF e3 (aF (bK (aF (aC _) (aF (bU 3 _) bB))) (aF (bU 4 _) bB))))
 obtain⟨q,hq,e4⟩:=nF (v2 (.sh false (aD b)) (.sh false (Sm.num (ys.getD 1 0 % 3)).d) (.sh false F.d) .dead .dead .dead) rfl (fI (y 1 (.sh false (aD b)) (.sh false (Sm.num (ys.getD 1 0 % 3)).d) (.sh false F.d) .dead .dead .dead (by decide)) (aC (.int 3)) (oJ (by decide))) zo.one cP
 let O:=Sm.box q
 have k4:ex pg (call pg n) (σ (.sh false (aD b)) (.sh false (Sm.num (ys.getD 1 0 % 3)).d) (.sh false F.d) .dead .dead .dead) (hdS (drp 3 f45.body))=.next (σ (.sh false (aD b)) (.sh false (Sm.num (ys.getD 1 0 % 3)).d) (.sh false F.d) (.sh false O.d) .dead .dead):=aZ (bK (aF (aC _) (aF e4 bB)))
 let τ:Sl->Sl->Sg:=λs7 s8=>σ (.sh false (aD b)) (.sh false (Sm.num (ys.getD 1 0 % 3)).d) (.sh false F.d) (.sh false O.d) s7 s8
 have w3:∀s7 s8,ev pg (call pg n) (τ s7 s8) (.v 3)=.ok (.cl (aD b)):=λ_ _=>bU 3 _
 have w5:∀s7 s8,ev pg (call pg n) (τ s7 s8) (.v 5)=.ok (.cl F.d):=λ_ _=>bU 5 _
 have w6:∀s7 s8,ev pg (call pg n) (τ s7 s8) (.v 6)=.ok (.cl O.d):=λ_ _=>bU 6 _
 have bx:∀s7 s8,ev pg (call pg n) (τ s7 s8) (.tup (.cons (.c (.str "box")) (.cons (.v 3) .nil)))=.ok (.cl (Sm.box b).d):=λ_ _=>bK (aF (aC _) (aF (w3 _ _) bB))
 have nf:∀s7 s8,ev pg (call pg n) (τ s7 s8) (.tup (.cons (.c (.str "not")) (.cons (.v 5) .nil)))=.ok (.cl (Cn.nt F).d):=λ_ _=>bK (aF (aC _) (aF (w5 _ _) bB))
 have ye:∀s7 s8,ev pg (call pg n) (τ s7 s8) (.tup (.cons (.c (.str "yes")) .nil))=.ok (.cl Cn.yes.d):=λ_ _=>bK (aF (aC _) bB)
 have k5:ex pg (call pg n) (τ .dead .dead) (hdS (drp 4 f45.body))=.next (τ (.own false ([Cn.yes,.yes,.yes,F,.nt F].map Cn.d)) .dead):=bV (dZ (aF (ye _ _) (aF (ye _ _) (aF (ye _ _) (aF (w5 _ _) (aF (nf _ _) bB))))))
 let M1:=Cn.cmp true (.two false O (.box b)) (.num 0)
 have k6:∀s7,ex pg (call pg n) (τ s7 .dead) (hdS (drp 5 f45.body))=.next (τ s7 (.sh false M1.d)):=λs7=>aZ (bK (aF (aC _) (aF (bK (aF (aC _) (aF (w6 _ _) (aF (bx _ _) bB)))) (aF (bK (aF (aC _) (aF (aC _) bB))) bB))))
 have k7:ex pg (call pg n) (τ (.own false ([Cn.yes,.yes,.yes,F,.nt F].map Cn.d)) (.sh false M1.d)) (hdS (drp 6 f45.body))=.next (τ (.own false ([Cn.yes,.yes,.yes,F,.nt F,.two false F M1].map Cn.d)) (.sh false M1.d)):=fJ (bK (aF (aC _) (aF (w5 _ _) (aF (aI 8 rfl) bB)))) rfl (by unfold lim;simp) rfl rfl
 let M2:=Cn.cmp false O (.two true (.box b) (.num 1))
 have k8:∀s7 s8,ex pg (call pg n) (τ s7 s8) (hdS (drp 7 f45.body))=.next (τ s7 (.sh false M2.d)):=λs7 s8=>aZ (bK (aF (aC _) (aF (w6 _ _) (aF (bK (aF (aC _) (aF (bx _ _) (aF (bK (aF (aC _) (aF (aC _) bB))) bB)))) bB))))
 let gl:List Cn:=[.yes,.yes,.yes,F,.nt F,.two false F M1]++[.two true M2 (.nt F)]
 have e9:=fI (o:=.Add) (P:=pg) (cl:=call pg n) (σ:=τ (.own false ([Cn.yes,.yes,.yes,F,.nt F,.two false F M1].map Cn.d)) (.sh false M2.d)) (a:=.v 7) (aAw 7 false _) (dZ (aF (bK (aF (aC (.str "both")) (aF (aI 8 (d:=M2.d) rfl) (aF (nf _ _) bB)))) bB)) (xG rfl rfl (bR Cn.noL _) (bR Cn.noL [Cn.two true M2 (.nt F)]) (by unfold lim;simp))
 obtain⟨g,hg,e10⟩:=oO (n:=7) (zs:=gl) (f:=Cn.d) e9 (by show D.lst _=D.lst (gl.map Cn.d);rw[List.map_append];rfl) (y 3 _ _ _ _ _ _ (by decide)) rfl (by decide) (λt _=>t.noL)
 have wb:=zo.ok b hb
 have wq:=zo.ok q hq
 have hn0:0<=ys.getD 1 0 % 3/\ys.getD 1 0 % 3<=99:=by omega
 have gok:∀t∈gl,t.wf bs.length true/\t.sz<=31:=aBH wb wq hn0
 exact⟨g,(gok g hg).1,(gok g hg).2,aH (F:=f45) rfl rfl (v:=.cl g.d) (cs k1 (cs k2 (cs k3 (cs k4 (cs k5 (cs (k6 _) (cs k7 (cs (k8 _ _) (bD e10)))))))))⟩
theorem aEb{α:Type}{f:α->D}{v:Vl}(xs:List α)(x:α)(hv:v.d=.lst ((xs++[x]).map f))(hn:noL (f x)=true):eA v (.cl (.int (-1)))=.ok (.cl (f x)):=by
 have hl:((xs++[x]).map f).length=xs.length+1:=by simp
 have hx:((xs++[x]).map f)[xs.length]? = some (f x):=by simp
 unfold eA
 rw[hv]
 show(match ixN ((xs++[x]).map f).length (-1) with
  | some j=>(match ((xs++[x]).map f)[j]? with|some d=>R.ok (v.sub d)|none=>.bad)
  | none=>.bad)=_
 have:ixN ((xs++[x]).map f).length (-1)=some xs.length:=by
  rw[hl]
  unfold ixN
  rw[if_neg (by decide),if_pos (by omega)]
  congr 1
  omega
 rw[this]
 show(match ((xs++[x]).map f)[xs.length]? with|some d=>R.ok (v.sub d)|none=>.bad)=_
 rw[hx]
 exact congrArg R.ok (cJ hn)
theorem aFF{ps:List (Nat×Sm)}{q p:Nat×Sm}(h:Up (ps++[q]))(hp:q.1<p.1):Up (ps++[q]++[p]):=by
 unfold Up at h ⊢
 rw[List.pairwise_append]
 refine⟨h,List.pairwise_singleton _ _,λa ha b hb=>?_⟩
 rw[List.mem_singleton] at hb
 subst hb
 rw[List.pairwise_append] at h
 rcases List.mem_append.mp ha with z|z
 . exact Nat.lt_trans (h.2.2 a z q (List.mem_singleton.mpr rfl)) hp
 . rw[List.mem_singleton.mp z];exact hp
variable {bs:List (Str×Int)}
theorem aIA(hb:bs∈boxSet){k:Nat}(h:k<bs.length):0<=hG bs k/\hG bs k<=99:=by
 unfold hG
 have hk:k<(bs.map (·.2)).length:=by rw[lM];exact h
 rw[List.getD_eq_getElem?_getD,List.getElem?_eq_getElem hk,Option.getD_some,List.getElem_map]
 have:=uL hb bs[k] (List.getElem_mem h)
 omega
theorem aFG{m b q:Nat}{t k:Int}(hb:b<m)(hq:q<m)(ht:0<=t/\t<=99)(h0:0<=k/\k<=99):∀s∈([.two false (.num t) (.box b),.num k]++[.box q,.two true (.box q) (.num 0)]:List Sm),s.wf m true/\s.sz<=3:=by
 simp only[List.cons_append,List.nil_append,List.mem_cons,List.not_mem_nil,or_false]
 rintro s (rfl|rfl|rfl|rfl) <;> simp[Sm.wf,Sm.sz,hb,hq,ht.1,ht.2,h0.1,h0.2]
abbrev pdF(ys:List Int)(bs:List (Str×Int))(z:List Nat)(ps:List (Nat×Sm))(s4 s5 s6 s7 s8:Sl):Sg:=[.sh true (.lst (ys.map D.int)),.sh true (.lst (aB bs)),.sh true (iA z),.own false (ps.map dG),s4,s5,s6,s7,s8]
abbrev pdB:Ss:=match hdS (drp 1 f46.body) with|.for _ _ b=>b|_=>.nil
theorem aBI(n:Nat)(hbs:bs∈boxSet){ys:List Int}(hl:ys.length=7){z:List Nat}(zo:nE bs.length z){ps:List (Nat×Sm)}{k:Nat}(hk:k<2)(ok:∀p∈ps,kF bs.length p)(up:Up ps)(pl:ps.length<=k)(s5 s6 s7 s8:Sl) :
 ∃(ps':List (Nat×Sm)) (t5 t6 t7 t8:Sl),(∀p∈ps',kF bs.length p)/\Up ps'/\ps'.length<=k+1/\exs pg (call pg n) (pdF ys bs z ps (.sh false (aD k)) s5 s6 s7 s8) pdB=.next (pdF ys bs z ps' (.sh false (aD k)) t5 t6 t7 t8):=by
 have v0:∀ps s5 s6 s7 s8,ev pg (call pg n) (pdF ys bs z ps (.sh false (aD k)) s5 s6 s7 s8) (.v 0)=.ok ⟨.lst (ys.map D.int),false,true,[]⟩:=λ_ _ _ _ _=>aK 0 rfl
 have v2:∀ps s5 s6 s7 s8,ev pg (call pg n) (pdF ys bs z ps (.sh false (aD k)) s5 s6 s7 s8) (.v 2)=.ok ⟨.lst (z.map aD),false,true,[]⟩:=λ_ _ _ _ _=>aK 2 rfl
 have y:∀(a:Nat) ps s5 s6 s7 s8,a<6->ev pg (call pg n) (pdF ys bs z ps (.sh false (aD k)) s5 s6 s7 s8) (.idx (.v 0) (.op .Add (.c (.int (a:Int))) (.v 4)))=.ok (.cl (.int (ys.getD (a+k) 0))):=λa ps s5 s6 s7 s8 ha=>fE (v0 _ _ _ _ _) rfl (by
  have:=eD (P:=pg) (cl:=call pg n) (σ:=pdF ys bs z ps (.sh false (aD k)) s5 s6 s7 s8) (aC (.int (a:Int))) (aI 4 (d:=aD k) rfl)
  rw[show(a:Int)+(k:Int)=((a+k:Nat):Int) by omega] at this
  exact this) (by omega)
 obtain⟨b,hb,e1⟩:=nF (v2 ps s5 s6 s7 s8) rfl (y 1 ps s5 s6 s7 s8 (by decide)) zo.one cP
 have wb:=zo.ok b hb
 obtain⟨bd,nb,i1,i2⟩:=aAE wb
 have k1:ex pg (call pg n) (pdF ys bs z ps (.sh false (aD k)) s5 s6 s7 s8) (hdS pdB)=.next (pdF ys bs z ps (.sh false (aD k)) (.sh false (aD b)) s6 s7 s8):=aZ e1
 have k2:ex pg (call pg n) (pdF ys bs z ps (.sh false (aD k)) (.sh false (aD b)) s6 s7 s8) (hdS (drp 1 pdB))=.next (pdF ys bs z ps (.sh false (aD k)) (.sh false (aD b)) (.sh false (Sm.num (hG bs b)).d) s7 s8):=aZ (bK (aF (aC _) (aF (bE (bE (aK 1 rfl) (aI 5 (d:=aD b) rfl) i1) (aC (.int 1)) i2) bB)))
 obtain⟨q,hq,e3⟩:=nF (v2 ps (.sh false (aD b)) (.sh false (Sm.num (hG bs b)).d) s7 s8) rfl (y 3 ps (.sh false (aD b)) (.sh false (Sm.num (hG bs b)).d) s7 s8 (by decide)) zo.one cP
 have k3:ex pg (call pg n) (pdF ys bs z ps (.sh false (aD k)) (.sh false (aD b)) (.sh false (Sm.num (hG bs b)).d) s7 s8) (hdS (drp 2 pdB))=.next (pdF ys bs z ps (.sh false (aD k)) (.sh false (aD b)) (.sh false (Sm.num (hG bs b)).d) (.sh false (Sm.box q).d) s8):=aZ (bK (aF (aC _) (aF e3 bB)))
 let τ:List (Nat×Sm)->Sl->Sg:=λps s8=>pdF ys bs z ps (.sh false (aD k)) (.sh false (aD b)) (.sh false (Sm.num (hG bs b)).d) (.sh false (Sm.box q).d) s8
 let A:List Sm:=[.two false (.num (hG bs b)) (.box b),.num (ys.getD (3+k) 0 % 2)]
 let B:List Sm:=[.box q,.two true (.box q) (.num 0)]
 have k4:ex pg (call pg n) (τ ps s8) (hdS (drp 3 pdB))=.next (τ ps (.own false (A.map Sm.d))):=bV (dZ (aF (bK (aF (aC _) (aF (aI 6 rfl) (aF (bK (aF (aC _) (aF (aI 5 rfl) bB))) bB)))) (aF (bK (aF (aC _) (aF (eW (y 3 _ _ _ _ _ (by decide)) (aC (.int 2)) (by decide)) bB))) bB)))
 have w7:∀ps s8,ev pg (call pg n) (τ ps s8) (.v 7)=.ok (.cl (Sm.box q).d):=λ_ _=>aI 7 rfl
 have k5:ex pg (call pg n) (τ ps (.own false (A.map Sm.d))) (hdS (drp 4 pdB))=.next (τ ps (.own false ((A++B).map Sm.d))):=by
  rw[List.map_append]
  exact bV (fI (bI 8 rfl) (dZ (aF (w7 _ _) (aF (bK (aF (aC _) (aF (w7 _ _) (aF (bK (aF (aC _) (aF (aC _) bB))) bB)))) bB))) (xG rfl rfl (bR Sm.noL A) (bR Sm.noL B) (by unfold lim;simp[A,B])))
 obtain⟨s,hs,e6⟩:=oO (n:=4) (zs:=A++B) (f:=Sm.d) (bI (P:=pg) (cl:=call pg n) (σ:=τ ps (.own false ((A++B).map Sm.d))) 8 rfl) rfl (y 5 _ _ _ _ _ (by decide)) rfl (by decide) (λt _=>t.noL)
 have so:=aFG wb (zo.ok q hq) (aIA hbs wb) (k:=ys.getD (3+k) 0 % 2) (by omega) s hs
 have po:kF bs.length (b,s):=⟨wb,so.1,so.2⟩
 have v3:=bI (P:=pg) (cl:=call pg n) (σ:=τ ps (.own false ((A++B).map Sm.d))) 3 rfl
 have hlen:=dU v3 rfl
 have kapp:exs pg (call pg n) (τ ps (.own false ((A++B).map Sm.d))) (match hdS (drp 5 pdB) with|.iff _ a _=>a|_=>.nil)=.next (τ (ps++[(b,s)]) (.own false ((A++B).map Sm.d))):=cC (fJ (nD (aI 5 (d:=aD b) rfl) e6) rfl (by rw[lM];unfold lim;omega) rfl (by rw[List.map_append];rfl))
 have fin:∀{σ'},ex pg (call pg n) (τ ps (.own false ((A++B).map Sm.d))) (hdS (drp 5 pdB))=.next σ'->exs pg (call pg n) (pdF ys bs z ps (.sh false (aD k)) s5 s6 s7 s8) pdB=.next σ':=λe=>cs k1 (cs k2 (cs k3 (cs k4 (cs k5 (cC e)))))
 rcases(show ps=[]\/∃ps' p,ps=ps'++[p] from(List.eq_nil_or_concat ps).imp id λ⟨a,b,e⟩=>⟨a,b,by rw[e,List.concat_eq_append]⟩) with rfl|⟨ps',p,rfl⟩
 . refine⟨[(b,s)],_,_,_,_,λp hp=>?_,List.pairwise_singleton _ _,by simp,fin (wY (aLi (cQ hlen (aC _) rfl)) kapp)⟩
   rw[List.mem_singleton] at hp
   rw[hp];exact po
 . have hlt:tst pg (call pg n) (τ (ps'++[p]) (.own false ((A++B).map Sm.d))) (.cmp .Lt (.idx (.idx (.v 3) (.neg (.c (.int 1)))) (.c (.int 0))) (.v 5))=.ok (decide ((p.1:Int)<(b:Int))):=cQ (bE (bE v3 (by rw[aIn];rfl) (aEb (f:=dG) ps' p rfl (oK p))) (aC (.int 0)) (fZ _ _ rfl)) (aI 5 (d:=aD b) rfl) rfl
   have hne:tst pg (call pg n) (τ (ps'++[p]) (.own false ((A++B).map Sm.d))) (.cmp .Eq (.bi .len (.cons (.v 3) .nil)) (.c (.int 0)))=.ok false:=cQ hlen (aC (.int 0)) (congrArg some (beq_eq_false_iff_ne.mpr (by simp;omega)))
   by_cases hpb:p.1<b
   . rw[decide_eq_true (by omega)] at hlt
     exact⟨ps'++[p]++[(b,s)],_,_,_,_,hZ ok po,aFF up hpb,by rw[lA];simp at pl ⊢;omega,fin (wY (fD hne hlt) kapp)⟩
   . rw[decide_eq_false (by omega)] at hlt
     exact⟨ps'++[p],_,_,_,_,ok,up,by omega,fin (cA (fD hne hlt))⟩
theorem aBJ(n:Nat)(hbs:bs∈boxSet){ys:List Int}(hl:ys.length=7){z:List Nat}(zo:nE bs.length z):∃ps:List (Nat×Sm),(∀p∈ps,kF bs.length p)/\Up ps/\call pg (n+1) 46 [.lst (ys.map D.int),.lst (aB bs),iA z]=.ok (.tup (ps.map dG),false,false):=by
 have y0:=eW (P:=pg) (cl:=call pg n) (σ:=pdF ys bs z [] .dead .dead .dead .dead .dead) (fE (k:=0) (aK 0 rfl) rfl (aC _) (by omega)) (aC (.int 3)) (by decide)
 obtain⟨N,eN,hN⟩:=aBG (ys.getD 0 0) (n:=3) (by decide)
 rw[show((3:Nat):Int)=3 from rfl] at eN
 rw[eN] at y0
 obtain⟨σ',ef,ps,s4,s5,s6,s7,s8,h1,h2,h3,rfl⟩:=cI (P:=pg) (cl:=call pg n) (σ:=pdF ys bs z [] .dead .dead .dead .dead .dead) (t:=.n 4) (b:=pdB) (λi σ=>∃(ps:List (Nat×Sm)) (s4 s5 s6 s7 s8:Sl),(∀p∈ps,kF bs.length p)/\Up ps/\ps.length<=i/\σ=pdF ys bs z ps s4 s5 s6 s7 s8) (bX y0 rfl (by omega)) ⟨[],_,_,_,_,_,λ_ z=>absurd z List.not_mem_nil,List.Pairwise.nil,Nat.le_refl _,rfl⟩ λi hi σ ⟨ps,s4,s5,s6,s7,s8,h1,h2,h3,hσ⟩=>by
  have hi':i<N:=by simpa using hi
  subst hσ
  obtain⟨ps',t5,t6,t7,t8,g1,g2,g3,g4⟩:=aBI n hbs hl zo (k:=i) (by omega) h1 h2 h3 s5 s6 s7 s8
  refine⟨pdF ys bs z ps (.sh false (aD i)) s5 s6 s7 s8,_,?_,g4,ps',_,t5,t6,t7,t8,g1,g2,g3,rfl⟩
  rw[List.getElem_map,List.getElem_range,cY]
  rfl
 exact⟨ps,h1,h2,aH (F:=f46) rfl rfl (v:=.cl (.tup (ps.map dG))) (cs (σ':=pdF ys bs z [] .dead .dead .dead .dead .dead) rfl (cs ef (bD (eS (bI 3 rfl) (aAD 3 (fQ ps))))))⟩
theorem aFH{α β:Type}(f:α->β)(xs:List α)(lo hi:Option Int):cut (xs.map f) lo hi=(cut xs lo hi).map f:=by
 unfold cut
 rw[lM,List.map_take,List.map_drop]
theorem aFI{ys:List Int}(h:ys.length=12):(cut ys (some 4) (some 11)).length=7:=by
 unfold cut
 rw[List.length_take,List.length_drop,h]
 rfl
theorem aLk{P:Pg}{cl:Caller}{σ:Sg}{a b c e:E}{x y z w:Vl}(h1:ev P cl σ a=.ok x)(h2:ev P cl σ b=.ok y)(h3:ev P cl σ c=.ok z)(h4:ev P cl σ e=.ok w):evs P cl σ (.cons a (.cons b (.cons c (.cons e .nil))))=.ok [x,y,z,w]:=by rw[aG,h1,aA,aG,h2,aA,aG,h3,aA,aG,h4,aA,bG];rfl
theorem uN{P:Pg}{cl:Caller}{σ:Sg}{f:Nat}{a b c e:E}{x y z w:Vl}{d:D}{fr:Bool}(h1:ev P cl σ a=.ok x)(h2:ev P cl σ b=.ok y)(h3:ev P cl σ c=.ok z)(h4:ev P cl σ e=.ok w)(hc:cl f [x.d,y.d,z.d,w.d]=.ok (d,fr,false)):ev P cl σ (.call f (.cons a (.cons b (.cons c (.cons e .nil)))))=.ok ⟨d,fr,false,[]⟩:=by
 rw[dB,aLk h1 h2 h3 h4,aA,show [x,y,z,w].map (·.d)=[x.d,y.d,z.d,w.d] from rfl,hc];rfl
def Is(s:Sl)(ds:List D):Prop:=s=.own false ds\/s=.sh false (.lst ds)
theorem aGo{P:Pg}{cl:Caller}{σ:Sg}{s:Sl}{ds:List D}(h:Is s ds){i:Nat}(hi:σ[i]? = some s):∃v,ev P cl σ (.v i)=.ok v/\v.d=.lst ds/\v.pa=false:=by
 rcases h with rfl|rfl
 . exact⟨_,bI i hi,rfl,rfl⟩
 . exact⟨_,aI i hi,rfl,rfl⟩
theorem aIB{P:Pg}{cl:Caller}{σ:Sg}{i:Nat}{e:E}{ds:List D}{fr:Bool}(h:ev P cl σ e=.ok ⟨.lst ds,fr,false,[]⟩):∃s,Is s ds/\ex P cl σ (.set (.n i) e)=.next (σ.set i s):=by
 cases fr with
 | true=>exact⟨_,.inl rfl,bV h⟩
 | false=>exact⟨_,.inr rfl,aZ h⟩
variable {bs:List (Str×Int)}
abbrev hdF(c:Int)(bs:List (Str×Int))(h r:Nat)(sh:Int)(xs:List Int)(s6:Sl)(rs:List (List Way))(s8 s9 s10 s11 s12 s13:Sl):Sg:=[.sh true (.int c),.sh true (.lst (aB bs)),.sh true (.int h),.sh true (.int r),.sh true (.int sh),.own false (xs.map D.int),s6,.own false (aX rs),s8,s9,s10,s11,s12,s13]
abbrev hdB:Ss:=match hdS (drp 3 f47.body) with|.for _ _ b=>b|_=>.nil
abbrev hdI:Ss:=match hdS (drp 1 hdB) with|.for _ _ b=>b|_=>.nil
theorem aFJ{P:Pg}{cl:Caller}{σ:Sg}{a b c:E}{x:Vl}{i j:Int}(h1:ev P cl σ a=.ok x)(h2:ev P cl σ b=.ok (.cl (.int i)))(h3:ev P cl σ c=.ok (.cl (.int j)))(s1:aL i=true)(s2:aL j=true):ev P cl σ (.sli a (.cons b .nil) (.cons c .nil))=eG x (some i) (some j):=by
 have e1:evs P cl σ (.cons b .nil)=.ok [.cl (.int i)]:=by rw[aG,h2];rfl
 have e2:evs P cl σ (.cons c .nil)=.ok [.cl (.int j)]:=by rw[aG,h3];rfl
 show(ev P cl σ a >>= λx=>evs P cl σ (.cons b .nil) >>= λl=>evs P cl σ (.cons c .nil) >>= λh=>_)=_
 rw[h1,aA,e1,aA,e2,aA]
 show R.iff (aL i&&aL j) _=_
 rw[s1,s2]
 rfl
theorem aEc(n:Nat)(hbs:bs∈boxSet){c sh:Int}{h r:Nat}{xs:List Int}(hx:xs.length=3+14*r){z:List Nat}(zo:nE bs.length z){s6:Sl}(hz:Is s6 (z.map aD)){rs:List (List Way)}{k j:Nat}(hk:k<r)(hj:j<4){ws:List Way}(wo:∀w∈ws,eK bs.length w/\0<=w.nx/\w.nx<(r:Int)+1)(wl:ws.length<=j)(s11 s12 s13:Sl) :
 ∃(w:Way) (t11 t12 t13:Sl),(eK bs.length w/\0<=w.nx/\w.nx<(r:Int)+1)/\exs pg (call pg (n+1)) (hdF c bs h r sh xs s6 rs (.sh false (aD k)) (.own false (ws.map Way.d)) (.sh false (aD j)) s11 s12 s13) hdI=.next (hdF c bs h r sh xs s6 rs (.sh false (aD k)) (.own false ((ws++[w]).map Way.d)) (.sh false (aD j)) t11 t12 t13):=by
 let τ:Sl->Sl->Sl->Sl->Sg:=λs9 s11 s12 s13=>hdF c bs h r sh xs s6 rs (.sh false (aD k)) s9 (.sh false (aD j)) s11 s12 s13
 have v5:∀s9 s11 s12 s13,ev pg (call pg (n+1)) (τ s9 s11 s12 s13) (.v 5)=.ok ⟨.lst (xs.map D.int),false,false,[5]⟩:=λ_ _ _ _=>bI 5 rfl
 have c14:opD .Mult (.cl (.int 14)) (.cl (.int (k:Int)))=.ok (.cl (.int (14*k))):=mul_int (by
  unfold gP
  rw[decide_eq_true (by omega),decide_eq_true (by omega)]
  rfl)
 have ix:∀s9 s11 s12 s13,ev pg (call pg (n+1)) (τ s9 s11 s12 s13) (.op .Add (.op .Add (.c (.int 3)) (.op .Mult (.c (.int 14)) (.v 8))) (.v 10))=.ok (.cl (.int ((3+14*k+j:Nat):Int))):=λs9 s11 s12 s13=>by
  have:=eD (P:=pg) (cl:=call pg (n+1)) (σ:=τ s9 s11 s12 s13) (eD (aC (.int 3)) (fI (o:=.Mult) (aC (.int 14)) (aI 8 (d:=aD k) rfl) c14)) (aI 10 (d:=aD j) rfl)
  rw[show(3:Int)+14*(k:Int)+(j:Int)=((3+14*k+j:Nat):Int) by omega] at this
  exact this
 let ys:=nA (xs.getD (3+14*k+j) 0) 12
 have yl:ys.length=12:=gU _ _
 have k1:∀s9,ex pg (call pg (n+1)) (τ s9 s11 s12 s13) (hdS hdI)=.next (τ s9 (.own false (ys.map D.int)) s12 s13):=λs9=>bV (dO (fE (v5 _ _ _ _) rfl (ix _ _ _ _) (by omega)) (aC (.int 12)) (fP (P:=pg) (f:=43) rfl n _ (m:=12) (by decide)))
 have v11:∀s9 s12 s13,ev pg (call pg (n+1)) (τ s9 (.own false (ys.map D.int)) s12 s13) (.v 11)=.ok ⟨.lst (ys.map D.int),false,false,[11]⟩:=λ_ _ _=>bI 11 rfl
 have ib:∀s9 s12 s13,∃e:Nat,e<=1/\ev pg (call pg (n+1)) (τ s9 (.own false (ys.map D.int)) s12 s13) (.bi .int (.cons (.cmp .Eq (.op .Mod (.idx (.v 5) (.c (.int 2))) (.c (.int 5))) (.c (.int 0))) .nil))=.ok (.cl (.int (e:Int))):=λs9 s12 s13=>by
  have e1:=qJ (o:=.Eq) (eW (fE (k:=2) (v5 s9 (.own false (ys.map D.int)) s12 s13) rfl (aC _) (by omega)) (aC (.int 5)) (by decide)) (aC (.int 0)) (k:=xs.getD 2 0 % 5==0) rfl
  cases q:(xs.getD 2 0 % 5==0) with
  | true=>rw[q] at e1;exact⟨1,Nat.le_refl _,eS e1 rfl⟩
  | false=>rw[q] at e1;exact⟨0,Nat.zero_le _,eS e1 rfl⟩
 obtain⟨e,he,ie⟩:=ib (.own false (ws.map Way.d)) s12 s13
 have md:=eW (fE (k:=11) (v11 (.own false (ws.map Way.d)) s12 s13) rfl (aC _) (by omega)) (eD (aP 3 (d:=.int r) rfl rfl) ie) (by omega)
 let nx:=ys.getD 11 0 % ((r:Int)+(e:Int))
 have hnx:0<=nx/\nx<(r:Int)+1:=by
  have h1:=Int.emod_nonneg (ys.getD 11 0) (show(r:Int)+(e:Int)≠0 by omega)
  have h2:=Int.emod_lt_of_pos (ys.getD 11 0) (show 0<(r:Int)+(e:Int) by omega)
  exact⟨h1,by show ys.getD 11 0 % ((r:Int)+(e:Int))<_;omega⟩
 have k2:ex pg (call pg (n+1)) (τ (.own false (ws.map Way.d)) (.own false (ys.map D.int)) s12 s13) (hdS (drp 1 hdI))=.next (τ (.own false (ws.map Way.d)) (.own false (ys.map D.int)) (.sh false (.int nx)) s13):=aZ md
 obtain⟨v6,z1,z2,_⟩:=aGo hz (P:=pg) (cl:=call pg (n+1)) (σ:=τ (.own false (ws.map Way.d)) (.own false (ys.map D.int)) (.sh false (.int nx)) s13) (i:=6) rfl
 obtain⟨g,g1,g2,g3⟩:=zP n yl zo
 have k3:ex pg (call pg (n+1)) (τ (.own false (ws.map Way.d)) (.own false (ys.map D.int)) (.sh false (.int nx)) s13) (hdS (drp 2 hdI))=.next (τ (.own false (ws.map Way.d)) (.own false (ys.map D.int)) (.sh false (.int nx)) (.sh false g.d)):=aZ (bO (v11 _ _ _) (aK 1 rfl) z1 (by rw[z2];exact g3))
 obtain⟨v6',z1',z2',_⟩:=aGo hz (P:=pg) (cl:=call pg (n+1)) (σ:=τ (.own false (ws.map Way.d)) (.own false (ys.map D.int)) (.sh false (.int nx)) (.sh false g.d)) (i:=6) rfl
 obtain⟨ps,p1,p2,p3⟩:=aBJ n hbs (aFI yl) zo
 have sl:ev pg (call pg (n+1)) (τ (.own false (ws.map Way.d)) (.own false (ys.map D.int)) (.sh false (.int nx)) (.sh false g.d)) (.sli (.v 11) (.cons (.c (.int 4)) .nil) (.cons (.c (.int 11)) .nil))=.ok ⟨.lst ((cut ys (some 4) (some 11)).map D.int),true,false,[]⟩:=by
  rw[aFJ (v11 _ _ _) (aC _) (aC _) rfl rfl]
  show R.ok (Vl.mk (.lst (cut (ys.map D.int) (some 4) (some 11))) true (false&&!noLs (ys.map D.int)) (if noLs (ys.map D.int)=true then [] else [11]))=_
  rw[eJ,aFH]
  rfl
 let w:Way:=⟨g,ps,nx⟩
 have k4:ex pg (call pg (n+1)) (τ (.own false (ws.map Way.d)) (.own false (ys.map D.int)) (.sh false (.int nx)) (.sh false g.d)) (hdS (drp 3 hdI))=.next (τ (.own false ((ws++[w]).map Way.d)) (.own false (ys.map D.int)) (.sh false (.int nx)) (.sh false g.d)):=fJ (uI (aI 13 (d:=g.d) rfl) (bO sl (aK 1 rfl) z1' (by rw[z2'];exact p3)) (aI 12 (d:=.int nx) rfl)) rfl (by rw[lM];unfold lim;omega) rfl (by rw[List.map_append];rfl)
 exact⟨w,_,_,_,⟨⟨g1,g2,p1,p2⟩,hnx⟩,cs (k1 _) (cs k2 (cs k3 (cC k4)))⟩
theorem aBK(n:Nat)(hbs:bs∈boxSet)(c sh:Int){h r:Nat}(hh:h<3)(hr:r<=3):∃hd:List (List Way),hd.length=r/\uJ bs.length hd/\call pg (n+2) 47 [.int c,.lst (aB bs),.int h,.int r,.int sh]=.ok (.lst (aX hd),true,false):=by
 obtain⟨l3,l4⟩:=fO hbs
 have c14:opD .Mult (.cl (.int 14)) (.cl (.int (r:Int)))=.ok (.cl (.int (14*r))):=mul_int (by
  unfold gP
  rw[decide_eq_true (by omega),decide_eq_true (by omega)]
  rfl)
 let xs:=nA c (3+14*r)
 have xl:xs.length=3+14*r:=gU _ _
 let σ:Sl->Sl->Sl->Sg:=λs5 s6 s7=>[.sh true (.int c),.sh true (.lst (aB bs)),.sh true (.int h),.sh true (.int r),.sh true (.int sh),s5,s6,s7,.dead,.dead,.dead,.dead,.dead,.dead]
 have k1:ex pg (call pg (n+1)) (σ .dead .dead .dead) (hdS f47.body)=.next (σ (.own false (xs.map D.int)) .dead .dead):=by
  refine bV (dO (aP 0 (d:=.int c) rfl rfl) (eD (aC (.int 3)) (fI (o:=.Mult) (aC (.int 14)) (aP 3 (d:=.int r) rfl rfl) c14)) ?_)
  show call pg (n+1) 43 [.int c,.int (3+14*(r:Int))]=_
  rw[show(3:Int)+14*(r:Int)=((3+14*r:Nat):Int) by omega]
  exact fP (P:=pg) (f:=43) rfl n c (by omega)
 obtain⟨z,fr,zo,hz⟩:=aEa n (xs.getD 0 0) (h:=h) (m:=bs.length) hh sh l3 l4
 have hlen:=dU (aK (P:=pg) (cl:=call pg (n+1)) (σ:=σ (.own false (xs.map D.int)) .dead .dead) 1 (ds:=aB bs) rfl) rfl
 rw[show(aB bs).length=bs.length from lM _] at hlen
 have e2:ev pg (call pg (n+1)) (σ (.own false (xs.map D.int)) .dead .dead) (.call 44 (.cons (.idx (.v 5) (.c (.int 0))) (.cons (.v 2) (.cons (.v 4) (.cons (.bi .len (.cons (.v 1) .nil)) .nil)))))=.ok ⟨iA z,fr,false,[]⟩:=by
  exact uN (fE (k:=0) (bI 5 rfl) rfl (aC _) (by omega)) (aP 2 (d:=.int h) rfl rfl) (aP 4 (d:=.int sh) rfl rfl) hlen hz
 obtain⟨s6,i6,k2⟩:=aIB (i:=6) e2
 have k3:ex pg (call pg (n+1)) (σ (.own false (xs.map D.int)) s6 .dead) (.set (.n 7) (.lst .nil))=.next (hdF c bs h r sh xs s6 [] .dead .dead .dead .dead .dead .dead):=rfl
 obtain⟨σ',ef,rs,s8,s9,s10,s11,s12,s13,g1,g2,rfl⟩:=cI (P:=pg) (cl:=call pg (n+1)) (σ:=hdF c bs h r sh xs s6 [] .dead .dead .dead .dead .dead .dead) (t:=.n 8) (b:=hdB) (λi σ=>∃(rs:List (List Way)) (s8 s9 s10 s11 s12 s13:Sl),rs.length=i/\(∀ws∈rs,aDS bs.length r ws)/\σ=hdF c bs h r sh xs s6 rs s8 s9 s10 s11 s12 s13) (bX (aP 3 (d:=.int r) rfl rfl) rfl (by omega)) ⟨[],_,_,_,_,_,_,rfl,λ_ z=>absurd z List.not_mem_nil,rfl⟩ λi hi σ ⟨rs,s8,s9,s10,s11,s12,s13,g1,g2,hσ⟩=>by
  have hi':i<r:=by simpa using hi
  subst hσ
  have q1:ex pg (call pg (n+1)) (hdF c bs h r sh xs s6 rs (.sh false (aD i)) s9 s10 s11 s12 s13) (hdS hdB)=.next (hdF c bs h r sh xs s6 rs (.sh false (aD i)) (.own false (([]:List Way).map Way.d)) s10 s11 s12 s13):=rfl
  let σ2:=hdF c bs h r sh xs s6 rs (.sh false (aD i)) (.own false (([]:List Way).map Way.d)) s10 s11 s12 s13
  have m1:=fI (o:=.FloorDiv) (P:=pg) (cl:=call pg (n+1)) (σ:=σ2) (fE (k:=1) (bI 5 rfl) rfl (aC _) (by omega)) (eD (aI 8 (d:=aD i) rfl) (aC (.int 1))) (oJ (by
   unfold vG
   simp only[decide_eq_true_eq,bA]
   omega))
  have m2:=eW m1 (aC (.int 4)) (by decide)
  obtain⟨M,eM,hM⟩:=aBG (xs.getD 1 0 / ((i:Int)+1)) (n:=4) (by decide)
  rw[show((4:Nat):Int)=4 from rfl] at eM
  rw[eM] at m2
  have m3:=eD (aC (.int 1)) m2
  rw[show(1:Int)+(M:Int)=((1+M:Nat):Int) by omega] at m3
  obtain⟨σ3,q2,ws,t10,t11,t12,t13,w1,w2,rfl⟩:=cI (P:=pg) (cl:=call pg (n+1)) (σ:=σ2) (t:=.n 10) (b:=hdI) (λj σ=>∃(ws:List Way) (t10 t11 t12 t13:Sl),ws.length=j/\(∀w∈ws,eK bs.length w/\0<=w.nx/\w.nx<(r:Int)+1)/\σ=hdF c bs h r sh xs s6 rs (.sh false (aD i)) (.own false (ws.map Way.d)) t10 t11 t12 t13) (bX m3 rfl (by omega)) ⟨[],_,_,_,_,rfl,λ_ z=>absurd z List.not_mem_nil,rfl⟩ λj hj σ ⟨ws,t10,t11,t12,t13,w1,w2,hσ⟩=>by
   have hj':j<1+M:=by simpa using hj
   subst hσ
   obtain⟨w,u11,u12,u13,o1,o2⟩:=aEc n hbs (c:=c) (sh:=sh) (h:=h) xl zo i6 (rs:=rs) hi' (j:=j) (by omega) w2 (by omega) t11 t12 t13
   refine⟨hdF c bs h r sh xs s6 rs (.sh false (aD i)) (.own false (ws.map Way.d)) (.sh false (aD j)) t11 t12 t13,_,?_,o2,ws++[w],_,u11,u12,u13,by rw[lA,w1];rfl,hZ w2 o1,rfl⟩
   rw[List.getElem_map,List.getElem_range,cY];rfl
  have wl:ws.length=1+M:=by rw[w1];simp
  have q3:ex pg (call pg (n+1)) (hdF c bs h r sh xs s6 rs (.sh false (aD i)) (.own false (ws.map Way.d)) t10 t11 t12 t13) (hdS (drp 2 hdB))=.next (hdF c bs h r sh xs s6 (rs++[ws]) (.sh false (aD i)) (.sh false (eU ws)) t10 t11 t12 t13):=by
   refine(fJ (bI 9 rfl) rfl (by rw[lM];unfold lim;omega) rfl rfl).trans ?_
   show O.next (hdF c bs h r sh xs s6 rs (.sh false (aD i)) (.sh false (eU ws)) t10 t11 t12 t13|>.set 7 (.own false (aX rs++[eU ws])))=_
   unfold hdF aX
   rw[List.map_append]
   rfl
  refine⟨hdF c bs h r sh xs s6 rs (.sh false (aD i)) s9 s10 s11 s12 s13,_,?_,cs q1 (cs q2 (cC q3)),rs++[ws],_,_,_,_,_,_,by rw[lA,g1];rfl,hZ g2 ⟨by omega,by omega,w2⟩,rfl⟩
  rw[List.getElem_map,List.getElem_range,cY];rfl
 have gl:rs.length=r:=by rw[g1];simp
 exact⟨rs,gl,⟨by omega,by rw[gl];exact g2⟩,aH (F:=f47) rfl rfl (v:=⟨.lst (aX rs),true,false,[]⟩) (cs k1 (cs k2 (cs k3 (cs ef (nY rfl)))))⟩
variable {bs:List (Str×Int)}
abbrev aT(hs:List (List (List Way))):List D:=hs.map λh=>.lst (aX h)
abbrev kG(hs:List (List (List Way))):List D:=hs.map λ_=>Cn.yes.d
abbrev mE(h:List (List Way)):List D:=(List.replicate (h.length+1) Cn.yes).map Cn.d
abbrev cW(hs:List (List (List Way))):List D:=hs.map λh=>.lst (mE h)
def aR(bs:List (Str×Int))(g:Cn)(hs:List (List (List Way))):D:=.tup [.lst (aB bs),g.d,.lst (aT hs),.lst (kG hs),.lst (cW hs)]
structure gB (m:Nat) (hs:List (List (List Way))):Prop where
 ok:∀h∈hs,uJ m h
 two:(hs.length=2/\∀h∈hs,h.length<=3)\/(hs.length=3/\∀h∈hs,h.length<=2)
theorem xJ(n:Nat){pl:Bool}{q:Cn}(w:q.wf bs.length pl)(z:q.sz<=31):call pg (n+36) 29 [.lst (aB bs),q.d,.bl pl]=.ok (q.d,false,false):=by
 have c1:=jL (P:=pg) (wh:=14) (wi:=15) (ch:=20) (fo:=19) (lo:=18) rfl rfl rfl rfl rfl rfl rfl (bs:=aB bs) (lM _) q (n+31-q.sz) 0 w (by omega)
 rw[show n+31-q.sz+3+q.sz=n+34 by omega] at c1
 have c2:call pg (n+35) 17 [.lst (aB bs),q.d,.bl pl]=.ok (q.d,false,false):=aH (F:=f17) rfl rfl (v:=.cl q.d) (cs (xA (oM (aK 0 rfl) (aC _) (aP 1 rfl q.noL) (aP 2 (d:=.bl pl) rfl rfl) (aC _) c1)) (uK rfl q.noL))
 refine aH (F:=f29) rfl rfl (v:=.cl q.d) (nY ?_)
 show exs pg (call pg (n+35)) [.sh true (.lst (aB bs)),.sh true q.d,.sh true (.bl pl)] (.cons (.ret (.call 17 (.cons (.v 0) (.cons (.v 1) (.cons (.v 2) .nil))))) .nil)=_
 exact bD (bO (aK 0 rfl) (aP 1 rfl q.noL) (aP 2 (d:=.bl pl) rfl rfl) c2)
theorem sK(n:Nat){pl:Bool}{qs:List Cn}(o:∀q∈qs,q.wf bs.length pl/\q.sz<=31)(hl:qs.length<=100):call pg (n+37) 30 [.lst (aB bs),.lst (qs.map Cn.d),.int qs.length,.bl pl]=.ok (.lst (qs.map Cn.d),true,false):=by
 have v1:=aK (P:=pg) (cl:=call pg (n+36)) (σ:=[.sh true (.lst (aB bs)),.sh true (.lst (qs.map Cn.d)),.sh true (.int qs.length),.sh true (.bl pl)]) 1 rfl
 have hlen:=dU v1 rfl
 rw[lM] at hlen
 have k1:=cA (a:=.cons (.rse 5 false (.cons (.c (.str "there is a promise for each hand, and a note for each of its places")) .nil)) .nil) (fD (dQ (eC (cs:=[.tList]) (k:=true) v1 rfl)) (cQ (o:=.NotEq) (k:=false) hlen (aP 2 (d:=.int qs.length) rfl rfl) (by
  show(some ((qs.length:Int)==(qs.length:Int))).map (!·)=_
  rw[beq_self_eq_true];rfl)))
 refine aH (F:=f30) rfl rfl (v:=⟨.lst (qs.map Cn.d),true,false,[]⟩) (cs k1 (bD (fY (ts:=qs) (al:=[]) (λq=>Vl.cl q.d) Cn.d Cn.noL ?_ (by unfold lim;omega) λq hq=>⟨[.sh false q.d,.sh true (.lst (aB bs)),.sh true (.bl pl)],rfl,bO (aK 1 rfl) (aI 0 rfl) (aP 2 (d:=.bl pl) rfl rfl) (xJ n (o q hq).1 (o q hq).2)⟩)))
 rw[bM,v1,aA]
 show R.ok (items _ (qs.map Cn.d),[])=_
 rw[cF Cn.noL]
theorem jM{m:Nat}{hs:List (List (List Way))}(o:gB m hs):2<=hs.length/\hs.length<=3:=by
 rcases o.two with z|z <;> omega
theorem aBL(n:Nat){hs:List (List (List Way))}(o:gB bs.length hs):call pg (n+40) 31 [.lst (aB bs),.lst (aT hs)]=.ok (.lst (aT hs),true,false):=by
 obtain⟨l2,l3⟩:=jM o
 have v1:=aK (P:=pg) (cl:=call pg (n+39)) (σ:=[.sh true (.lst (aB bs)),.sh true (.lst (aT hs))]) 1 rfl
 have hlen:=dU v1 rfl
 rw[lM] at hlen
 have k1:=cA (a:=.cons (.rse 5 false (.cons (.c (.str "a house has a list of one to three hands")) .nil)) .nil) (fD (dQ (eC (cs:=[.tList]) (k:=true) v1 rfl)) (dQ (aAF (aC (.int 1)) hlen (aC (.int 3)) (by omega) (by omega))))
 have hc:ev pg (call pg (n+39)) [.sh true (.lst (aB bs)),.sh true (.lst (aT hs))] (.comp 1 [0] (.n 0) (.seq (.v 1)) .nil (.call 21 (.cons (.v 1) (.cons (.v 0) .nil))))=.ok ⟨.lst (aT hs),true,false,[]⟩:=by
  rw[lO (xs:=hs.map λh=>⟨.lst (aX h),false,true,[]⟩) (al:=[]) (λx=>⟨x.d,true,false,[]⟩) ?_ (by rw[lM];unfold lim;omega) λx hx=>?_]
  . rw[List.map_map]
    exact congrArg R.ok (oN 1 [0] (λh=>D.lst (aX h)) hs)
  . rw[bM,v1,aA]
    show R.ok (items _ (aT hs),[])=_
    unfold items
    rw[List.map_map]
    rfl
  . obtain⟨h,hh,rfl⟩:=List.mem_map.mp hx
    exact⟨[.sh true (.lst (aX h)),.sh true (.lst (aB bs))],rfl,dO (aK 1 rfl) (aK 0 rfl) (xD n (o.ok h hh))⟩
 refine aH (F:=f31) rfl rfl (v:=⟨.lst (aT hs),true,false,[]⟩) (cs k1 (nY ?_))
 show exs pg (call pg (n+39)) [.sh true (.lst (aB bs)),.sh true (.lst (aT hs))] (.cons (.ret (.comp 1 [0] (.n 0) (.seq (.v 1)) .nil (.call 21 (.cons (.v 1) (.cons (.v 0) .nil))))) .nil)=_
 exact bD hc
theorem qO(n:Nat)(ds:List D):call pg (n+1) 33 [.lst ds]=.ok (.int (ds.length+1),false,false):=
 aH (F:=f33) rfl rfl (v:=.cl (.int (ds.length+1))) (bD (eD (dU (aK 0 rfl) rfl) (aC _)))
theorem aEd(m:Nat)(pl:Bool)(k:Nat):∀q∈List.replicate k Cn.yes,q.wf m pl/\q.sz<=31:=λq hq=>by
 rw[List.eq_of_mem_replicate hq]
 exact⟨trivial,by decide⟩
theorem aAH{α:Type}(f g:α->D):∀xs:List α,eX (xs.map f) (xs.map g)=xs.map λx=>.tup [f x,g x]
 | []=>rfl
 | x::xs=>by
  show .tup [f x,g x]::eX (xs.map f) (xs.map g)=_
  rw[aAH f g xs];rfl
theorem aBM(n:Nat){hs:List (List (List Way))}(o:gB bs.length hs):call pg (n+38) 32 [.lst (aB bs),.lst (cW hs),.lst (aT hs)]=.ok (.lst (cW hs),true,false):=by
 obtain⟨l2,l3⟩:=jM o
 have v1:=aK (P:=pg) (cl:=call pg (n+37)) (σ:=[.sh true (.lst (aB bs)),.sh true (.lst (cW hs)),.sh true (.lst (aT hs))]) 1 rfl
 have v2:=aK (P:=pg) (cl:=call pg (n+37)) (σ:=[.sh true (.lst (aB bs)),.sh true (.lst (cW hs)),.sh true (.lst (aT hs))]) 2 rfl
 have h1:=dU v1 rfl
 have h2:=dU v2 rfl
 rw[lM] at h1 h2
 have k1:=cA (a:=.cons (.rse 5 false (.cons (.c (.str "there is a list of notes for each hand")) .nil)) .nil) (fD (dQ (eC (cs:=[.tList]) (k:=true) v1 rfl)) (cQ (o:=.NotEq) (k:=false) h1 h2 (by
  show(some ((hs.length:Int)==(hs.length:Int))).map (!·)=_
  rw[beq_self_eq_true];rfl)))
 have hc:ev pg (call pg (n+37)) [.sh true (.lst (aB bs)),.sh true (.lst (cW hs)),.sh true (.lst (aT hs))] (.comp 2 [0] (.t [0,1]) (.zip (.v 1) (.v 2)) .nil (.call 30 (.cons (.v 2) (.cons (.v 0) (.cons (.call 33 (.cons (.v 1) .nil)) (.cons (.c (.bl true)) .nil))))))=.ok ⟨.lst (cW hs),true,false,[]⟩:=by
  rw[lO (xs:=hs.map λh=>⟨.tup [.lst (mE h),.lst (aX h)],false,true,[]⟩) (al:=[]) (λx=>⟨match x.d with|.tup (d::_)=>d|d=>d,true,false,[]⟩) ?_ (by rw[lM];unfold lim;omega) λx hx=>?_]
  . rw[List.map_map]
    exact congrArg R.ok (oN 2 [0] (λh=>D.lst (mE h)) hs)
  . rw[jF,v1,aA,v2,aA]
    show R.ok (items _ (eX (cW hs) (aT hs)),[])=_
    rw[aAH]
    unfold items
    rw[List.map_map]
    rfl
  . obtain⟨h,hh,rfl⟩:=List.mem_map.mp hx
    have pr:=qO (n+36) (aX h)
    rw[lM] at pr
    have c30:=sK n (pl:=true) (aEd bs.length true (h.length+1)) (by rw[List.length_replicate];have:=(o.ok h hh).few;omega)
    rw[List.length_replicate] at c30
    exact⟨[.sh true (.lst (mE h)),.sh true (.lst (aX h)),.sh true (.lst (aB bs))],rfl,uN (aK 2 rfl) (aK 0 rfl) (cR (aK 1 rfl) pr) (aC _) c30⟩
 exact aH (F:=f32) rfl rfl (v:=⟨.lst (cW hs),true,false,[]⟩) (cs k1 (bD hc))
theorem aBN(n:Nat)(hb:bs∈boxSet):call pg (n+1) 6 [.lst (aB bs)]=.ok (.int (iN bs),false,false):=by
 rcases box_six hb with rfl|rfl|rfl|rfl|rfl|rfl <;> rfl
theorem zQ(n:Nat)(hb:bs∈boxSet){hs:List (List (List Way))}(o:gB bs.length hs):∃x:Int,x<=1000/\call pg (n+2) 34 [.lst (aB bs),.lst (aT hs)]=.ok (.int x,false,false):=by
 obtain⟨p24,p1⟩:=xH hb
 obtain⟨m,hm,hmx⟩:∃m:Nat,(∀h∈hs,h.length<=m)/\((hs.length=2/\m=3)\/(hs.length=3/\m=2)):=by
  rcases o.two with⟨a,b⟩|⟨a,b⟩
  . exact⟨3,b,.inl ⟨a,rfl⟩⟩
  . exact⟨2,b,.inr ⟨a,rfl⟩⟩
 let τ:Sl->Sl->Sg:=λs2 s3=>[.sh true (.lst (aB bs)),.sh true (.lst (aT hs)),s2,s3]
 have k1:ex pg (call pg (n+1)) (τ .dead .dead) (.set (.n 2) (.call 6 (.cons (.v 0) .nil)))=.next (τ (.sh false (.int (iN bs))) .dead):=aZ (cR (aK 0 rfl) (aBN n hb))
 have hw:walk pg (call pg (n+1)) (τ (.sh false (.int (iN bs))) .dead) (.seq (.v 1))=.ok (hs.map (λh=>Vl.mk (.lst (aX h)) false true []),[]):=by
  rw[bM,aK 1 (ds:=aT hs) rfl,aA]
  show R.ok (items _ (aT hs),[])=_
  unfold items
  rw[List.map_map]
  rfl
 obtain⟨σ',ef,x,s3,h0,h1,h2,rfl⟩:=cI (P:=pg) (cl:=call pg (n+1)) (t:=.n 3) (b:=match hdS (drp 1 f34.body) with|.for _ _ b=>b|_=>.nil) (λi σ=>∃(x:Int) (s3:Sl),1<=x/\x<=24*((m:Int)+1) ^ i/\i<=3/\σ=τ (.sh false (.int x)) s3) hw ⟨iN bs,_,p1,by simpa using p24,by decide,rfl⟩ λi hi σ ⟨x,s3,h0,h1,h2,hσ⟩=>by
  have hi':i<hs.length:=by simpa using hi
  subst hσ
  have hl:=hm hs[i] (List.getElem_mem hi')
  have m4:m<=3:=by omega
  have hp:((m:Int)+1) ^ i<=64:=by
   have:i=0\/i=1\/i=2:=by omega
   have m2:m=3\/m=2:=by omega
   rcases this with rfl|rfl|rfl <;> rcases m2 with rfl|rfl <;> decide
  have pr:=qO n (aX hs[i])
  rw[lM] at pr
  have mo:gP x ((hs[i].length:Int)+1)=true:=by
   unfold gP
   rw[decide_eq_true (by omega),decide_eq_true (by omega)]
   rfl
  refine⟨τ (.sh false (.int x)) (.sh true (.lst (aX hs[i]))),τ (.sh false (.int (x*((hs[i].length:Int)+1)))) (.sh true (.lst (aX hs[i]))),?_,cC (aZ (fI (aI 2 (d:=.int x) rfl) (cR (aK 3 (ds:=aX hs[i]) rfl) pr) (mul_int mo))),_,_,?_,?_,by omega,rfl⟩
  . rw[List.getElem_map];rfl
  . have:=Int.mul_le_mul h0 (show(1:Int)<=(hs[i].length:Int)+1 by omega) (by decide) (by omega)
    omega
  . rw[Int.pow_succ,<-Int.mul_assoc]
    exact Int.mul_le_mul h1 (by omega) (by omega) (Int.le_trans (by omega) h1)
 refine⟨x,?_,aH (F:=f34) rfl rfl (v:=.cl (.int x)) (cs k1 (cs ef (nY rfl)))⟩
 rw[lM] at h1
 rcases hmx with⟨a,b⟩|⟨a,b⟩
 . rw[a,b] at h1
   exact Int.le_trans h1 (by decide)
 . rw[a,b] at h1
   exact Int.le_trans h1 (by decide)
theorem uO(n:Nat)(hb:bs∈boxSet){g:Cn}(gw:g.wf bs.length true)(gs:g.sz<=31){hs:List (List (List Way))}(o:gB bs.length hs):call pg (n+41) 27 [.lst (aB bs),g.d,.lst (aT hs),.lst (kG hs),.lst (cW hs)]=.ok (aR bs g hs,false,false):=by
 obtain⟨l2,l3⟩:=jM o
 let τ:Sl->Sl->Sl->Sl->Sl->Sg:=λs5 s6 s7 s8 s9=>[.sh true (.lst (aB bs)),.sh true g.d,.sh true (.lst (aT hs)),.sh true (.lst (kG hs)),.sh true (.lst (cW hs)),s5,s6,s7,s8,s9]
 have v5:∀s6 s7 s8 s9,ev pg (call pg (n+40)) (τ (.own false (aB bs)) s6 s7 s8 s9) (.v 5)=.ok ⟨.lst (aB bs),false,false,[5]⟩:=λ_ _ _ _=>bI 5 rfl
 have v7:∀s6 s8 s9,ev pg (call pg (n+40)) (τ (.own false (aB bs)) s6 (.own false (aT hs)) s8 s9) (.v 7)=.ok ⟨.lst (aT hs),false,false,[7]⟩:=λ_ _ _=>bI 7 rfl
 have k1:ex pg (call pg (n+40)) (τ .dead .dead .dead .dead .dead) (.set (.n 5) (.call 3 (.cons (.v 0) .nil)))=.next (τ (.own false (aB bs)) .dead .dead .dead .dead):=bV (cR (aK 0 rfl) (uM (n+36) hb))
 have k2:ex pg (call pg (n+40)) (τ (.own false (aB bs)) .dead .dead .dead .dead) (hdS (drp 1 f27.body))=.next (τ (.own false (aB bs)) (.sh false g.d) .dead .dead .dead):=aZ (bO (v5 _ _ _ _) (aP 1 rfl g.noL) (aC _) (xJ (n+4) gw gs))
 have k3:ex pg (call pg (n+40)) (τ (.own false (aB bs)) (.sh false g.d) .dead .dead .dead) (hdS (drp 2 f27.body))=.next (τ (.own false (aB bs)) (.sh false g.d) (.own false (aT hs)) .dead .dead):=bV (dO (v5 _ _ _ _) (aK 2 rfl) (aBL n o))
 have hlen:=dU (v7 (.sh false g.d) .dead .dead) rfl
 rw[lM] at hlen
 have pd:kG hs=(List.replicate hs.length Cn.yes).map Cn.d:=by rw[List.map_replicate];exact List.map_const' ..
 have c30:=sK (bs:=bs) (n+3) (pl:=false) (aEd bs.length false hs.length) (by rw[List.length_replicate];omega)
 rw[List.length_replicate,<-pd] at c30
 have k4:ex pg (call pg (n+40)) (τ (.own false (aB bs)) (.sh false g.d) (.own false (aT hs)) .dead .dead) (hdS (drp 3 f27.body))=.next (τ (.own false (aB bs)) (.sh false g.d) (.own false (aT hs)) (.own false (kG hs)) .dead):=bV (uN (v5 _ _ _ _) (aK 3 rfl) hlen (aC _) c30)
 have k5:ex pg (call pg (n+40)) (τ (.own false (aB bs)) (.sh false g.d) (.own false (aT hs)) (.own false (kG hs)) .dead) (hdS (drp 4 f27.body))=.next (τ (.own false (aB bs)) (.sh false g.d) (.own false (aT hs)) (.own false (kG hs)) (.own false (cW hs))):=bV (hX (v5 _ _ _ _) (aK 4 rfl) (v7 _ _ _) (aBM (n+2) o))
 obtain⟨x,hx,cx⟩:=zQ (n+38) hb o
 have k6:ex pg (call pg (n+40)) (τ (.own false (aB bs)) (.sh false g.d) (.own false (aT hs)) (.own false (kG hs)) (.own false (cW hs))) (hdS (drp 5 f27.body))=.next (τ (.own false (aB bs)) (.sh false g.d) (.own false (aT hs)) (.own false (kG hs)) (.own false (cW hs))):=cA (cQ (dR (v5 _ _ _ _) (v7 _ _ _) cx) (aC _) (congrArg some (decide_eq_false (by omega))))
 exact aH (F:=f27) rfl rfl (v:=⟨aR bs g hs,false,false,[5,7,8,9]⟩) (cs k1 (cs k2 (cs k3 (cs k4 (cs k5 (cs k6 (bD rfl)))))))
section
variable {P:Pg} {cl:Caller} {σ:Sg}
theorem xK{f:Nat}{a b c e g:E}{x y z w u:Vl}{d:D}{fr:Bool}(h1:ev P cl σ a=.ok x)(h2:ev P cl σ b=.ok y)(h3:ev P cl σ c=.ok z)(h4:ev P cl σ e=.ok w)(h5:ev P cl σ g=.ok u)(hc:cl f [x.d,y.d,z.d,w.d,u.d]=.ok (d,fr,false)):ev P cl σ (.call f (.cons a (.cons b (.cons c (.cons e (.cons g .nil))))))=.ok ⟨d,fr,false,[]⟩:=by
 have e:evs P cl σ (.cons a (.cons b (.cons c (.cons e (.cons g .nil)))))=.ok [x,y,z,w,u]:=by rw[aG,h1,aA,aLk h2 h3 h4 h5];rfl
 rw[dB,e,aA,show [x,y,z,w,u].map (·.d)=[x.d,y.d,z.d,w.d,u.d] from rfl,hc];rfl
theorem mF{ns ms:List Int}{es:Es}{b:E}{k:Nat}(hl:ns.length<=63)(hm:ms.length<=4)(h0:σ[0]? = some (.sh true (.lst (ns.map D.int))))(he:evs P cl σ es=.ok ((ms.map D.int).map Vl.cl))(hb:ev P cl σ b=.ok (.cl (.int (k:Int))))(hk:k<ns.length+ms.length) :
 ev P cl σ (.idx (.op .Add (.v 0) (.lst es)) b)=.ok (.cl (.int ((ns++ms).getD k 0))):=by
 refine fE (xs:=ns++ms) (fI (aK 0 h0) (dZ he) (xG rfl rfl (eJ ns) (eJ ms) (by rw[lM,lM];unfold lim;omega))) ?_ hb (by rw[lA];exact hk)
 show D.lst _=D.lst _
 rw[List.map_append]
end
abbrev bW(p:Bool):Cn:=if p then .yes else .cmp false (.box 0) (.num 1)
abbrev hoF(ns xs:List Int)(s2 s3 s4 s5 s6 s7 s8:Sl):Sg:=[.sh true (.lst (ns.map D.int)),.own false (xs.map D.int),s2,s3,s4,s5,s6,s7,s8]
theorem zR(n:Nat)(ns:List Int){xs:List Int}(hx:xs.length=9):∃bs∈boxSet,∀ss,exs pg (call pg n) (hoF ns xs .dead .dead .dead .dead .dead .dead .dead) (.cons (hdS (drp 1 f48.body)) (.cons (hdS (drp 2 f48.body)) ss))=exs pg (call pg n) (hoF ns xs (.own false (aB bs)) .dead .dead .dead .dead .dead .dead) ss:=by
 have x:∀(k:Nat) s2,k<9->ev pg (call pg n) (hoF ns xs s2 .dead .dead .dead .dead .dead .dead) (.idx (.v 1) (.c (.int (k:Int))))=.ok (.cl (.int (xs.getD k 0))):=λk s2 hk=>fE (bI 1 rfl) rfl (aC _) (by omega)
 have k1:ex pg (call pg n) (hoF ns xs .dead .dead .dead .dead .dead .dead .dead) (hdS (drp 1 f48.body))=.next (hoF ns xs (.own false (aB (b3 (1+xs.getD 0 0 % 2) (1+xs.getD 1 0 % 2)))) .dead .dead .dead .dead .dead .dead):=bV (dZ (aF (bK (aF (aC _) (aF (eD (aC _) (eW (x 0 _ (by decide)) (aC (.int 2)) (by decide))) bB))) (aF (bK (aF (aC _) (aF (eD (aC _) (eW (x 1 _ (by decide)) (aC (.int 2)) (by decide))) bB))) (aF (bK (aF (aC _) (aF (aC _) bB))) bB))))
 have h0:1+xs.getD 0 0 % 2=1\/1+xs.getD 0 0 % 2=2:=by omega
 have h1:1+xs.getD 1 0 % 2=1\/1+xs.getD 1 0 % 2=2:=by omega
 have tb:∀s t:Int,ev pg (call pg n) (hoF ns xs (.own false (aB (b3 s t))) .dead .dead .dead .dead .dead .dead) (.op .Add (.idx (.idx (.v 2) (.c (.int 0))) (.c (.int 1))) (.idx (.idx (.v 2) (.c (.int 1))) (.c (.int 1))))=.ok (.cl (.int (s+t))):=λs t=>rfl
 have x3:=eW (x 6 (.own false (aB (b3 (1+xs.getD 0 0 % 2) (1+xs.getD 1 0 % 2)))) (by decide)) (aC (.int 3)) (by decide)
 have t1:tst pg (call pg n) (hoF ns xs (.own false (aB (b3 (1+xs.getD 0 0 % 2) (1+xs.getD 1 0 % 2)))) .dead .dead .dead .dead .dead .dead) (match hdS (drp 2 f48.body) with|.iff c _ _=>c|_=>.c .non)=.ok ((1+xs.getD 0 0 % 2+(1+xs.getD 1 0 % 2)==2)&&(xs.getD 6 0 % 3==0)):=aNc (cQ (tb _ _) (aC _) rfl) (cQ x3 (aC _) rfl)
 cases q:((1+xs.getD 0 0 % 2+(1+xs.getD 1 0 % 2)==2)&&(xs.getD 6 0 % 3==0)) with
 | false=>
  rw[q] at t1
  refine⟨b3 (1+xs.getD 0 0 % 2) (1+xs.getD 1 0 % 2),?_,λss=>cs k1 (cs (cA t1) rfl)⟩
  rcases h0 with h0|h0 <;> rcases h1 with h1|h1 <;> rw[h0,h1] <;> simp[boxSet]
 | true=>
  rw[q] at t1
  have e2:1+xs.getD 0 0 % 2=1/\1+xs.getD 1 0 % 2=1:=by
   rw[bA] at q
   have:=eq_of_beq q.1
   omega
  have h6:1+xs.getD 6 0 / 3 % 2=1\/1+xs.getD 6 0 / 3 % 2=2:=by omega
  have ka:ex pg (call pg n) (hoF ns xs (.own false (aB (b3 (1+xs.getD 0 0 % 2) (1+xs.getD 1 0 % 2)))) .dead .dead .dead .dead .dead .dead) (hdS (drp 2 f48.body))=.next (hoF ns xs (.own false (aB (b3 (1+xs.getD 0 0 % 2) (1+xs.getD 1 0 % 2))++[box ("d",1+xs.getD 6 0 / 3 % 2)])) .dead .dead .dead .dead .dead .dead):=wY t1 (cC (fJ (bK (aF (aC _) (aF (eD (aC _) (eW (fI (x 6 _ (by decide)) (aC (.int 3)) (oJ (by decide))) (aC (.int 2)) (by decide))) bB))) rfl (by unfold lim;simp[aB]) rfl rfl))
  rw[e2.1,e2.2] at ka k1
  refine⟨b4 (1+xs.getD 6 0 / 3 % 2),?_,λss=>cs k1 (cs ka rfl)⟩
  rcases h6 with h6|h6 <;> rw[h6] <;> simp[boxSet]
theorem aFK(a b c:Int)(hb:b=3\/b=2):∃r:Nat,(1+a % b)*(if c>0 then 1 else 0)=(r:Int)/\(r:Int)<=b:=by
 rcases hb with rfl|rfl <;> split
 . exact⟨(1+a % 3).toNat,by omega,by omega⟩
 . exact⟨0,by omega,by omega⟩
 . exact⟨(1+a % 2).toNat,by omega,by omega⟩
 . exact⟨0,by omega,by omega⟩
theorem zS(n:Nat){ns:List Int}(hn:ns.length<=63):∃bs∈boxSet,∃(p:Bool) (hs:List (List (List Way))),gB bs.length hs/\call pg (n+42) 48 [.lst (ns.map D.int)]=.ok (aR bs (bW p) hs,false,false):=by
 let xs:=nA ((ns++[0]).getD 0 0) 9
 have xl:xs.length=9:=gU _ _
 have k0:ex pg (call pg (n+41)) [.sh true (.lst (ns.map D.int)),.dead,.dead,.dead,.dead,.dead,.dead,.dead,.dead] (hdS f48.body)=.next (hoF ns xs .dead .dead .dead .dead .dead .dead .dead):=bV (dO (mF (ms:=[0]) (k:=0) hn (by decide) rfl (aF (aC _) bB) (aC _) (by simp)) (aC (.int 9)) (fP (P:=pg) (f:=43) rfl (n+40) _ (m:=9) (by decide)))
 obtain⟨bs,hb,kb⟩:=zR (n+41) ns xl
 obtain⟨l3,l4⟩:=fO hb
 let τ:List (List (List Way))->Sl->Sl->Sl->Sl->Sl->Sg:=λhs s4 s5 s6 s7 s8=>hoF ns xs (.own false (aB bs)) (.own false (aT hs)) s4 s5 s6 s7 s8
 have x:∀(k:Nat) hs s4 s5 s6 s7 s8,k<9->ev pg (call pg (n+41)) (τ hs s4 s5 s6 s7 s8) (.idx (.v 1) (.c (.int (k:Int))))=.ok (.cl (.int (xs.getD k 0))):=λk _ _ _ _ _ _ hk=>fE (bI 1 rfl) rfl (aC _) (by omega)
 have k3:ex pg (call pg (n+41)) (hoF ns xs (.own false (aB bs)) .dead .dead .dead .dead .dead .dead) (.set (.n 3) (.lst .nil))=.next (τ [] .dead .dead .dead .dead .dead):=rfl
 have q2:∀hs s4 s5 s6 s7 s8,ev pg (call pg (n+41)) (τ hs s4 s5 s6 s7 s8) (.op .Mod (.idx (.v 1) (.c (.int 2))) (.c (.int 2)))=.ok (.cl (.int (xs.getD 2 0 % 2))):=λhs s4 s5 s6 s7 s8=>eW (x 2 _ _ _ _ _ _ (by decide)) (aC (.int 2)) (by decide)
 obtain⟨M,eM,hM⟩:=aBG (xs.getD 2 0) (n:=2) (by decide)
 rw[show((2:Nat):Int)=2 from rfl] at eM
 let B:Int:=if M=0 then 3 else 2
 have hB:B=3\/B=2:=by
  show(if M=0 then (3:Int) else 2)=3\/(if M=0 then (3:Int) else 2)=2
  split
  . exact .inl rfl
  . exact .inr rfl
 have hBv:∀hs s4 s5 s6 s7 s8,ev pg (call pg (n+41)) (τ hs s4 s5 s6 s7 s8) (.idx (.lst (.cons (.c (.int 3)) (.cons (.c (.int 2)) .nil))) (.op .Mod (.idx (.v 1) (.c (.int 2))) (.c (.int 2))))=.ok (.cl (.int B)):=λhs s4 s5 s6 s7 s8=>by
  have:=q2 hs s4 s5 s6 s7 s8
  rw[eM] at this
  have h2:=fE (xs:=[3,2]) (dZ (aF (aC (.int 3)) (aF (aC (.int 2)) bB))) rfl this hM
  have:([3,2]:List Int).getD M 0=B:=by
   have:M=0\/M=1:=by omega
   rcases this with rfl|rfl <;> rfl
  rw[this] at h2
  exact h2
 have hr:=eD (aC (.int 2)) (q2 [] .dead .dead .dead .dead .dead)
 rw[eM,show(2:Int)+(M:Int)=((2+M:Nat):Int) by omega] at hr
 obtain⟨σ',ef,hs,s4,s5,s6,g1,g2,rfl⟩:=cI (P:=pg) (cl:=call pg (n+41)) (σ:=τ [] .dead .dead .dead .dead .dead) (t:=.n 4) (b:=match hdS (drp 4 f48.body) with|.for _ _ b=>b|_=>.nil) (λi σ=>∃(hs:List (List (List Way))) (s4 s5 s6:Sl),hs.length=i/\(∀h∈hs,uJ bs.length h/\(h.length:Int)<=B)/\σ=τ hs s4 s5 s6 .dead .dead) (bX hr rfl (by omega)) ⟨[],_,_,_,rfl,λ_ z=>absurd z List.not_mem_nil,rfl⟩ λi hi σ ⟨hs,s4,s5,s6,g1,g2,hσ⟩=>by
  have hi':i<2+M:=by simpa using hi
  subst hσ
  have x3:∀s5 s6,ev pg (call pg (n+41)) (τ hs (.sh false (aD i)) s5 s6 .dead .dead) (.idx (.v 1) (.op .Add (.c (.int 3)) (.v 4)))=.ok (.cl (.int (xs.getD (3+i) 0))):=λs5 s6=>fE (bI 1 rfl) rfl (by
   have:=eD (P:=pg) (cl:=call pg (n+41)) (σ:=τ hs (.sh false (aD i)) s5 s6 .dead .dead) (aC (.int 3)) (aI 4 (d:=aD i) rfl)
   rw[show(3:Int)+(i:Int)=((3+i:Nat):Int) by omega] at this
   exact this) (by omega)
  have m1:ex pg (call pg (n+41)) (τ hs (.sh false (aD i)) s5 s6 .dead .dead) (.set (.n 5) (.op .Add (.c (.int 1)) (.op .Mod (.idx (.v 1) (.op .Add (.c (.int 3)) (.v 4))) (.idx (.lst (.cons (.c (.int 3)) (.cons (.c (.int 2)) .nil))) (.op .Mod (.idx (.v 1) (.c (.int 2))) (.c (.int 2)))))))=.next (τ hs (.sh false (aD i)) (.sh false (.int (1+xs.getD (3+i) 0 % B))) s6 .dead .dead):=aZ (eD (aC _) (eW (x3 _ _) (hBv _ _ _ _ _ _) (by omega)))
  have c6:=qJ (o:=.Gt) (k:=decide (xs.getD (3+i) 0 / 6 % 9>0)) (eW (fI (x3 (.sh false (.int (1+xs.getD (3+i) 0 % B))) s6) (aC (.int 6)) (oJ (by decide))) (aC (.int 9)) (by decide)) (aC (.int 0)) rfl
  obtain⟨r,er,hrB⟩:=aFK (xs.getD (3+i) 0) B (xs.getD (3+i) 0 / 6 % 9) hB
  have b6:ev pg (call pg (n+41)) (τ hs (.sh false (aD i)) (.sh false (.int (1+xs.getD (3+i) 0 % B))) s6 .dead .dead) (.bi .int (.cons (.cmp .Gt (.op .Mod (.op .FloorDiv (.idx (.v 1) (.op .Add (.c (.int 3)) (.v 4))) (.c (.int 6))) (.c (.int 9))) (.c (.int 0))) .nil))=.ok (.cl (.int (if xs.getD (3+i) 0 / 6 % 9>0 then 1 else 0))):=by
   refine eS c6 ?_
   by_cases hq:xs.getD (3+i) 0 / 6 % 9>0
   . rw[if_pos hq,decide_eq_true hq];rfl
   . rw[if_neg hq,decide_eq_false hq];rfl
  have m2:ex pg (call pg (n+41)) (τ hs (.sh false (aD i)) (.sh false (.int (1+xs.getD (3+i) 0 % B))) s6 .dead .dead) (.set (.n 5) (.op .Mult (.v 5) (.bi .int (.cons (.cmp .Gt (.op .Mod (.op .FloorDiv (.idx (.v 1) (.op .Add (.c (.int 3)) (.v 4))) (.c (.int 6))) (.c (.int 9))) (.c (.int 0))) .nil))))=.next (τ hs (.sh false (aD i)) (.sh false (.int r)) s6 .dead .dead):=by
   rw[<-er]
   refine aZ (fI (aI 5 (d:=.int (1+xs.getD (3+i) 0 % B)) rfl) b6 (mul_int ?_))
   have h1:0<=xs.getD (3+i) 0 % B/\xs.getD (3+i) 0 % B<3:=by
    rcases hB with h|h <;> rw[h] <;> omega
   unfold gP
   rw[decide_eq_true (by omega),decide_eq_true (by omega)]
   rfl
  have hms:=mF (P:=pg) (cl:=call pg (n+41)) (σ:=τ hs (.sh false (aD i)) (.sh false (.int r)) s6 .dead .dead) (ms:=[0,0,0,0]) (k:=1+i) hn (by decide) rfl (aF (aC (.int 0)) (aF (aC (.int 0)) (aF (aC (.int 0)) (aF (aC (.int 0)) bB)))) (b:=.op .Add (.c (.int 1)) (.v 4)) (by
   have:=eD (P:=pg) (cl:=call pg (n+41)) (σ:=τ hs (.sh false (aD i)) (.sh false (.int r)) s6 .dead .dead) (aC (.int 1)) (aI 4 (d:=aD i) rfl)
   rw[show(1:Int)+(i:Int)=((1+i:Nat):Int) by omega] at this
   exact this) (by simp;omega)
  have c7:opD .Mult (.cl (.int 7)) (.cl (.int (i:Int)))=.ok (.cl (.int (7*i))):=mul_int (by
   unfold gP
   rw[decide_eq_true (by omega),decide_eq_true (by omega)]
   rfl)
  have m3:ex pg (call pg (n+41)) (τ hs (.sh false (aD i)) (.sh false (.int r)) s6 .dead .dead) (.set (.n 6) (.op .Add (.idx (.op .Add (.v 0) (.lst (.cons (.c (.int 0)) (.cons (.c (.int 0)) (.cons (.c (.int 0)) (.cons (.c (.int 0)) .nil)))))) (.op .Add (.c (.int 1)) (.v 4))) (.op .Mult (.c (.int 7)) (.v 4))))=.next (τ hs (.sh false (aD i)) (.sh false (.int r)) (.sh false (.int ((ns++[0,0,0,0]).getD (1+i) 0+7*i))) .dead .dead):=aZ (eD hms (fI (aC (.int 7)) (aI 4 (d:=aD i) rfl) c7))
  obtain⟨h,hl,ho,hc⟩:=aBK (n+39) hb ((ns++[0,0,0,0]).getD (1+i) 0+7*i) (xs.getD 8 0 % 3) (h:=i) (r:=r) (by omega) (by omega)
  have e47:ev pg (call pg (n+41)) (τ hs (.sh false (aD i)) (.sh false (.int r)) (.sh false (.int ((ns++[0,0,0,0]).getD (1+i) 0+7*i))) .dead .dead) (.call 47 (.cons (.v 6) (.cons (.v 2) (.cons (.v 4) (.cons (.v 5) (.cons (.op .Mod (.idx (.v 1) (.c (.int 8))) (.c (.int 3))) .nil))))))=.ok ⟨.lst (aX h),true,false,[]⟩:=by
   exact xK (aI 6 rfl) (bI 2 rfl) (aI 4 rfl) (aI 5 rfl) (eW (x 8 _ _ _ _ _ _ (by decide)) (aC (.int 3)) (by decide)) hc
  have m4:ex pg (call pg (n+41)) (τ hs (.sh false (aD i)) (.sh false (.int r)) (.sh false (.int ((ns++[0,0,0,0]).getD (1+i) 0+7*i))) .dead .dead) (.app 3 (.call 47 (.cons (.v 6) (.cons (.v 2) (.cons (.v 4) (.cons (.v 5) (.cons (.op .Mod (.idx (.v 1) (.c (.int 8))) (.c (.int 3))) .nil)))))))=.next (τ (hs++[h]) (.sh false (aD i)) (.sh false (.int r)) (.sh false (.int ((ns++[0,0,0,0]).getD (1+i) 0+7*i))) .dead .dead):=fJ e47 rfl (by rw[lM];unfold lim;omega) rfl (by rw[aT,List.map_append];rfl)
  refine⟨τ hs (.sh false (aD i)) s5 s6 .dead .dead,_,?_,cs m1 (cs m2 (cs m3 (cC m4))),hs++[h],_,_,_,by rw[lA,g1];rfl,hZ g2 ⟨ho,by omega⟩,rfl⟩
  rw[List.getElem_map,List.getElem_range,cY];rfl
 have gl:hs.length=2+M:=by rw[g1];simp
 have ho:gB bs.length hs:=⟨λh hh=>(g2 h hh).1,by
  have:M=0\/M=1:=by omega
  rcases this with rfl|rfl
  . exact .inl ⟨gl,λh hh=>by have:=(g2 h hh).2;have:(h.length:Int)<=3:=this;omega⟩
  . exact .inr ⟨gl,λh hh=>by have:=(g2 h hh).2;have:(h.length:Int)<=2:=this;omega⟩⟩
 obtain⟨p,_,e7⟩:=oO (P:=pg) (cl:=call pg (n+41)) (σ:=τ hs s4 s5 s6 .dead .dead) (n:=2) (zs:=[true,false]) (f:=λp=>(bW p).d) (zE:=.lst (.cons (.tup (.cons (.c (.str "yes")) .nil)) (.cons (.tup (.cons (.c (.str "less")) (.cons (.tup (.cons (.c (.str "box")) (.cons (.c (.int 0)) .nil))) (.cons (.tup (.cons (.c (.str "number")) (.cons (.c (.int 1)) .nil))) .nil)))) .nil))) (dZ (aF (bK (aF (aC _) bB)) (aF (bK (aF (aC _) (aF (bK (aF (aC _) (aF (aC _) bB))) (aF (bK (aF (aC _) (aF (aC _) bB))) bB)))) bB))) rfl (x 7 _ _ _ _ _ _ (by decide)) rfl (by decide) (λt _=>Cn.noL _)
 have k7:ex pg (call pg (n+41)) (τ hs s4 s5 s6 .dead .dead) (hdS (drp 5 f48.body))=.next (τ hs s4 s5 s6 (.sh false (bW p).d) .dead):=aZ e7
 have hwk:∀(s3:Sl) (al:List Nat) (s8:Sl),ev pg (call pg (n+41)) (hoF ns xs (.own false (aB bs)) s3 s4 s5 s6 (.sh false (bW p).d) s8) (.v 3)=.ok ⟨.lst (aT hs),false,false,al⟩->walk pg (call pg (n+41)) (hoF ns xs (.own false (aB bs)) s3 s4 s5 s6 (.sh false (bW p).d) s8) (.seq (.v 3))=.ok (hs.map (λh=>Vl.mk (.lst (aX h)) false false al),al):=λs3 al s8 h=>by
  rw[bM,h,aA]
  show R.ok (items _ (aT hs),al)=_
  unfold items
  rw[List.map_map]
  rfl
 have e8:ev pg (call pg (n+41)) (τ hs s4 s5 s6 (.sh false (bW p).d) .dead) (.comp 1 [] (.n 0) (.seq (.v 3)) .nil (.op .Mult (.lst (.cons (.tup (.cons (.c (.str "yes")) .nil)) .nil)) (.op .Add (.bi .len (.cons (.v 0) .nil)) (.c (.int 1)))))=.ok (fK 1 [] [3] (hs.map λh=>Vl.mk (.lst (mE h)) true false [])):=by
  rw[lO (xs:=hs.map λh=>⟨.lst (aX h),false,false,[3]⟩) (al:=[3]) (λx=>⟨match x.d with|.lst ds=>.lst ((List.replicate (ds.length+1) Cn.yes).map Cn.d)|d=>d,true,false,[]⟩) (hwk _ _ _ (bI 3 rfl)) (by rw[lM];unfold lim;omega) λy hy=>?_]
  . rw[List.map_map]
    refine congrArg (λz=>R.ok (fK 1 [] [3] z)) (List.map_congr_left λh _=>?_)
    show Vl.mk (.lst ((List.replicate ((aX h).length+1) Cn.yes).map Cn.d)) true false []=_
    rw[show(aX h).length=h.length from lM _]
  . obtain⟨h,hh,rfl⟩:=List.mem_map.mp hy
    have hfew:=(g2 h hh).1.few
    refine⟨[.sh false (.lst (aX h))],rfl,?_⟩
    have hl1:=eD (dU (aI (P:=pg) (cl:=call pg (n+41)) (σ:=[.sh false (.lst (aX h))]) 0 (d:=.lst (aX h)) rfl) rfl) (aC (.int 1))
    refine fI (dZ (aF (bK (aF (aC _) bB)) bB)) hl1 ?_
    rw[show(aX h).length=h.length from lM _]
    show R.iff (true&&aL ((h.length:Int)+1)&&decide (1*((h.length:Int)+1).toNat<=lim)&&noLs [Cn.yes.d]) (.ok (Vl.mk (.lst (List.replicate ((h.length:Int)+1).toNat [Cn.yes.d]).flatten) true false []))=R.ok (Vl.mk (.lst ((List.replicate ((aX h).length+1) Cn.yes).map Cn.d)) true false [])
    have sk:aL ((h.length:Int)+1)=true:=lP (n:=h.length+1) (by omega)
    have tn:((h.length:Int)+1).toNat=h.length+1:=by omega
    have fl:∀k:Nat,(List.replicate k [Cn.yes.d]).flatten=(List.replicate k Cn.yes).map Cn.d:=λk=>by
     induction k with
     | zero=>rfl
     | succ k ih=>rw[List.replicate_succ,List.flatten_cons,ih,List.replicate_succ,mC];rfl
    rw[sk,tn,fl,show(aX h).length=h.length from lM _,decide_eq_true (by unfold lim;omega)]
    rfl
 have cv:fK 1 [] [3] (hs.map λh=>Vl.mk (.lst (mE h)) true false [])=⟨.lst (cW hs),true,false,[3]⟩:=by
  have e0:=oN 1 [] (λh=>D.lst (mE h)) hs
  have hne:noLs (cW hs)=false:=by
   cases hs with
   | nil=>simp at gl;omega
   | cons h _=>rfl
  have e1:(hs.map λh=>Vl.mk (.lst (mE h)) true false []).map (·.d)=cW hs:=by rw[List.map_map];rfl
  unfold fK at e0 ⊢
  rw[e1,hne,if_neg bN] at e0 ⊢
  injection e0 with _ _ e2 e3
  rw[e2]
  have e3:(bT (hs.map λh=>Vl.mk (.lst (mE h)) true false [])).filterMap (λj=>([]:List Nat)[j-1]?)=[]:=e3
  rw[e3]
  rfl
 rw[cv] at e8
 have k8:ex pg (call pg (n+41)) (τ hs s4 s5 s6 (.sh false (bW p).d) .dead) (hdS (drp 6 f48.body))=.next (hoF ns xs (.own false (aB bs)) (.sh false (.lst (aT hs))) s4 s5 s6 (.sh false (bW p).d) (.own false (cW hs))):=by
  show ex pg (call pg (n+41)) _ (.set (.n 8) _)=_
  rw[fA,e8]
  rfl
 have w3:ev pg (call pg (n+41)) (hoF ns xs (.own false (aB bs)) (.sh false (.lst (aT hs))) s4 s5 s6 (.sh false (bW p).d) (.own false (cW hs))) (.v 3)=.ok ⟨.lst (aT hs),false,false,[]⟩:=aI 3 rfl
 have cp:ev pg (call pg (n+41)) (hoF ns xs (.own false (aB bs)) (.sh false (.lst (aT hs))) s4 s5 s6 (.sh false (bW p).d) (.own false (cW hs))) (.comp 1 [] (.n 0) (.seq (.v 3)) .nil (.tup (.cons (.c (.str "yes")) .nil)))=.ok ⟨.lst (kG hs),true,false,[]⟩:=fY (ts:=hs) (al:=[]) (λh=>Vl.mk (.lst (aX h)) false false []) (λ_=>Cn.yes.d) (λ_=>rfl) (hwk _ _ _ w3) (by unfold lim;omega) λh _=>⟨[.sh false (.lst (aX h))],rfl,bK (aF (aC _) bB)⟩
 have bw:(bW p).wf bs.length true/\(bW p).sz<=31:=by
  cases p with
  | true=>exact⟨trivial,by decide⟩
  | false=>exact⟨⟨by show 0<bs.length;omega,by decide,by decide⟩,by decide⟩
 exact⟨bs,hb,p,hs,ho,aH (F:=f48) rfl rfl (v:=.cl (aR bs (bW p) hs)) (cs k0 ((kb _).trans (cs k3 (cs ef (cs k7 (cs k8 (bD (oM (bI 2 rfl) (aI 7 rfl) w3 cp (bI 8 rfl) (uO n hb bw.1 bw.2 ho)))))))))⟩
theorem aGp(n d k:Nat):sIx n d (some (k:Int))=min k n:=by
 show(if (k:Int)<0 then ((k:Int)+(n:Int)).toNat else min (k:Int).toNat n)=_
 rw[if_neg (by omega)]
 rfl
theorem aIC{α:Type}(xs:List α)(k:Nat):cut xs none (some (k:Int))=xs.take k:=by
 unfold cut
 rw[aGp]
 show(xs.drop 0).take (min k xs.length-0)=_
 rw[List.drop_zero,Nat.sub_zero]
 by_cases h:k<=xs.length
 . rw[Nat.min_eq_left h]
 . rw[Nat.min_eq_right (by omega),List.take_of_length_le (Nat.le_refl _),List.take_of_length_le (by omega)]
theorem aEe{α:Type}(xs:List α)(k:Nat):cut xs (some (k:Int)) none=xs.drop k:=by
 unfold cut
 rw[aGp]
 show(xs.drop (min k xs.length)).take (xs.length-min k xs.length)=_
 rw[List.take_of_length_le (by rw[List.length_drop];omega)]
 by_cases h:k<=xs.length
 . rw[Nat.min_eq_left h]
 . rw[Nat.min_eq_right (by omega),List.drop_of_length_le (Nat.le_refl _),List.drop_of_length_le (by omega)]
section
variable {P:Pg} {cl:Caller} {σ:Sg}
theorem aID{ds:List D}(h:noLs ds=true)(lo hi:Option Int):eG (.cl (.tup ds)) lo hi=.ok (.cl (.tup (cut ds lo hi))):=by
 show R.ok (Vl.mk (.tup (cut ds lo hi)) false (false&&!noLs ds) (if noLs ds=true then [] else []))=_
 rw[h];rfl
theorem aIE{a b:E}{is:List Int}{k:Nat}(h:ev P cl σ a=.ok (.cl (aM is)))(hb:ev P cl σ b=.ok (.cl (.int (k:Int))))(hk:k<=1000000):ev P cl σ (.sli a .nil (.cons b .nil))=.ok (.cl (aM (is.take k))):=by
 rw[aFt,h,aA,hb,aA]
 show R.iff (aL (k:Int)) (eG (.cl (.tup (is.map D.int))) none (some (k:Int)))=_
 rw[lP hk,aID (eJ is),aIC,<-List.map_take]
 rfl
theorem aIF{a b:E}{is:List Int}{k:Nat}(h:ev P cl σ a=.ok (.cl (aM is)))(hb:ev P cl σ b=.ok (.cl (.int (k:Int))))(hk:k<=1000000):ev P cl σ (.sli a (.cons b .nil) .nil)=.ok (.cl (aM (is.drop k))):=by
 have e1:evs P cl σ (.cons b .nil)=.ok [.cl (.int (k:Int))]:=by rw[aG,hb];rfl
 show(ev P cl σ a >>= λx=>evs P cl σ (.cons b .nil) >>= λl=>evs P cl σ .nil >>= λh=>_)=_
 rw[h,aA,e1,aA,bG,aA]
 show R.iff (aL (k:Int)) (eG (.cl (.tup (is.map D.int))) (some (k:Int)) none)=_
 rw[lP hk,aID (eJ is),aEe,<-List.map_drop]
 rfl
theorem aLl(a b:List Int)(h:a.length+b.length<=1000):opD .Add (.cl (aM a)) (.cl (aM b))=.ok (.cl (aM (a++b))):=by
 show R.iff (decide ((a.map D.int).length+(b.map D.int).length<=lim)) (.ok (Vl.mk (.tup (a.map D.int++b.map D.int)) false (false||false) ([]++[])))=_
 rw[lM,lM,decide_eq_true (by unfold lim;omega),<-List.map_append]
 rfl
end
variable {bs:List (Str×Int)} {g:Cn} {hs:List (List (List Way))}
section
variable {P:Pg} {cl:Caller} {σ:Sg} {i:Nat}
theorem nG(h:σ[i]? = some (.sh true (aR bs g hs))):ev P cl σ (.v i)=.ok ⟨aR bs g hs,false,true,[]⟩:=by
 show bZ σ i=_
 unfold bZ
 rw[h]
 rfl
theorem aIG(h:σ[i]? = some (.sh true (aR bs g hs))):ev P cl σ (.idx (.v i) (.c (.int 0)))=.ok ⟨.lst (aB bs),false,true,[]⟩:=bE (nG h) (aC _) rfl
theorem aLm(h:σ[i]? = some (.sh true (aR bs g hs))):ev P cl σ (.idx (.v i) (.c (.int 1)))=.ok (.cl g.d):=bE (nG h) (aC _) (congrArg R.ok (cJ g.noL))
theorem aBO(h:σ[i]? = some (.sh true (aR bs g hs))):ev P cl σ (.idx (.v i) (.c (.int 2)))=.ok ⟨.lst (aT hs),false,true,[]⟩:=bE (nG h) (aC _) rfl
theorem aEf(h:σ[i]? = some (.sh true (aR bs g hs))):ev P cl σ (.bi .len (.cons (.idx (.v i) (.c (.int 2))) .nil))=.ok (.cl (.int hs.length)):=by
 have:=dU (aBO (P:=P) (cl:=cl) h) rfl
 rwa [lM] at this
end
theorem mH{k:Nat}{h:List (List Way)}(hk:hs[k]? = some h):eA ⟨.lst (aT hs),false,true,[]⟩ (.cl (.int (k:Int)))=.ok ⟨.lst (aX h),false,true,[]⟩:=wX (f:=λh=>D.lst (aX h)) (v:=⟨.lst (aT hs),false,true,[]⟩) rfl hk
theorem uP{h:List (List Way)}{p:Nat}{ws:List Way}(hp:h[p]? = some ws):eA ⟨.lst (aX h),false,true,[]⟩ (.cl (.int (p:Int)))=.ok ⟨eU ws,false,true,[]⟩:=wX (f:=eU) (v:=⟨.lst (aX h),false,true,[]⟩) rfl hp
theorem qP(n:Nat)(h:List (List Way)){p:Nat}{ws:List Way}(hp:h[p]? = some ws):call pg (n+1) 28 [.lst (aX h),.int p]=.ok (eU ws,false,true):=by
 have v0:=aK (P:=pg) (cl:=call pg n) (σ:=[.sh true (.lst (aX h)),.sh true (.int p)]) 0 rfl
 have v1:=aP (P:=pg) (cl:=call pg n) (σ:=[.sh true (.lst (aX h)),.sh true (.int p)]) 1 rfl rfl
 have hl:=dU v0 rfl
 rw[lM] at hl
 have hlt:=(List.getElem?_eq_some_iff.mp hp).1
 exact aH (F:=f28) rfl rfl (v:=⟨eU ws,false,true,[]⟩) (bD (aAA (xC (k:=true) (aC (.int 0)) v1 hl (by omega) (decide_eq_true (by omega))) (bE v0 v1 (uP hp))))
theorem xL(n:Nat)(h:List (List Way)):call pg (n+1) 28 [.lst (aX h),.int h.length]=.ok (.lst [],true,false):=by
 have v0:=aK (P:=pg) (cl:=call pg n) (σ:=[.sh true (.lst (aX h)),.sh true (.int h.length)]) 0 rfl
 have v1:=aP (P:=pg) (cl:=call pg n) (σ:=[.sh true (.lst (aX h)),.sh true (.int h.length)]) 1 rfl rfl
 have hl:=dU v0 rfl
 rw[lM] at hl
 exact aH (F:=f28) rfl rfl (v:=⟨.lst [],true,false,[]⟩) (bD (aAA (xC (k:=false) (aC (.int 0)) v1 hl (by omega) (decide_eq_false (by omega))) rfl))
abbrev St:=List Int×List Int
def aO(s:St):D:=.tup [aM s.1,aM s.2]
def aLn:Option St->D
 | none=>.non
 | some s=>aO s
theorem iB(s:St):noL (aO s)=true:=uF (aS _) (aS _)
abbrev aN(p:Nat×Nat):D:=.tup [aD p.1,aD p.2]
def cM(hs:List (List (List Way)))(s:St)(h:Nat):List Way:=(hs.getD h []).getD (s.2.getD h 0).toNat []
def goneF(bs:List (Str×Int))(hs:List (List (List Way)))(s:St)(p:Nat×Nat):Option St:=
 if p.2<(cM hs s p.1).length then (behF bs (gL (cM hs s p.1) p.2) s.1).map λst=>(st,s.2.take p.1++[(gL (cM hs s p.1) p.2).nx]++s.2.drop (p.1+1)) else none
structure SOk (m:Nat) (hs:List (List (List Way))) (s:St):Prop where
 st:s.1.length=m
 pl:s.2.length=hs.length
 rg:∀k,k<hs.length->0<=s.2.getD k 0/\s.2.getD k 0<=(hs.getD k []).length
abbrev goF(bs:List (Str×Int))(g:Cn)(hs:List (List (List Way)))(s:St)(p:Nat×Nat)(s3 s4 s5 s6 s7 s8:Sl):Sg:=[.sh true (aR bs g hs),.sh true (aO s),.sh true (aN p),s3,s4,s5,s6,s7,s8]
theorem eE{α:Type}{l:List α}{k:Nat}(d:α)(h:k<l.length):l[k]? = some (l.getD k d):=by rw[List.getD_eq_getElem?_getD,List.getElem?_eq_getElem h];rfl
theorem qQ(n:Nat)(hb4:bs.length<=4)(o:gB bs.length hs){s:St}(so:SOk bs.length hs s){p:Nat×Nat}(hp:p.1<hs.length):call pg (n+33) 35 [aR bs g hs,aO s,aN p]=.ok (aLn (goneF bs hs s p),false,false):=by
 obtain⟨l2,l3⟩:=jM o
 let τ:=goF bs g hs s p
 have v1:∀s3 s4 s5 s6 s7 s8,ev pg (call pg (n+32)) (τ s3 s4 s5 s6 s7 s8) (.v 1)=.ok (.cl (aO s)):=λ_ _ _ _ _ _=>aP 1 rfl (iB s)
 have v2:∀s3 s4 s5 s6 s7 s8,ev pg (call pg (n+32)) (τ s3 s4 s5 s6 s7 s8) (.v 2)=.ok (.cl (aN p)):=λ_ _ _ _ _ _=>aP 2 rfl rfl
 have i21:∀s3 s4 s5 s6 s7 s8,ev pg (call pg (n+32)) (τ s3 s4 s5 s6 s7 s8) (.idx (.v 2) (.c (.int 1)))=.ok (.cl (aD p.2)):=λ_ _ _ _ _ _=>bE (v2 _ _ _ _ _ _) (aC _) (gA _ _ _ rfl)
 have k1:ex pg (call pg (n+32)) (τ .dead .dead .dead .dead .dead .dead) (hdS f35.body)=.next (τ (.sh false (aD p.1)) .dead .dead .dead .dead .dead):=aZ (bE (v2 _ _ _ _ _ _) (aC _) (fZ _ _ rfl))
 have v3:∀s4 s5 s6 s7 s8,ev pg (call pg (n+32)) (τ (.sh false (aD p.1)) s4 s5 s6 s7 s8) (.v 3)=.ok (.cl (aD p.1)):=λ_ _ _ _ _=>aI 3 rfl
 have k2:ex pg (call pg (n+32)) (τ (.sh false (aD p.1)) .dead .dead .dead .dead .dead) (hdS (drp 1 f35.body))=.next (τ (.sh false (aD p.1)) .dead .dead .dead .dead .dead):=cA (dQ (xC (k:=true) (aC _) (v3 _ _ _ _ _) (aEf rfl) (by omega) (decide_eq_true (by omega))))
 have k3:ex pg (call pg (n+32)) (τ (.sh false (aD p.1)) .dead .dead .dead .dead .dead) (hdS (drp 2 f35.body))=.next (τ (.sh false (aD p.1)) (.sh false (aM s.1)) .dead .dead .dead .dead):=aZ (bE (v1 _ _ _ _ _ _) (aC _) (fZ _ _ (aS _)))
 have k4:ex pg (call pg (n+32)) (τ (.sh false (aD p.1)) (.sh false (aM s.1)) .dead .dead .dead .dead) (hdS (drp 3 f35.body))=.next (τ (.sh false (aD p.1)) (.sh false (aM s.1)) (.sh false (aM s.2)) .dead .dead .dead):=aZ (bE (v1 _ _ _ _ _ _) (aC _) (gA _ _ _ (aS _)))
 let μ:Sl->Sl->Sl->Sg:=λs6 s7 s8=>τ (.sh false (aD p.1)) (.sh false (aM s.1)) (.sh false (aM s.2)) s6 s7 s8
 have w5:∀s6 s7 s8,ev pg (call pg (n+32)) (μ s6 s7 s8) (.v 5)=.ok (.cl (aM s.2)):=λ_ _ _=>aI 5 rfl
 obtain⟨r0,r1⟩:=so.rg p.1 hp
 obtain⟨q,eq⟩:∃q:Nat,s.2.getD p.1 0=(q:Int):=⟨_,(Int.toNat_of_nonneg r0).symm⟩
 have hq:q<=(hs.getD p.1 []).length:=by omega
 have i5:∀s6 s7 s8,ev pg (call pg (n+32)) (μ s6 s7 s8) (.idx (.v 5) (.v 3))=.ok (.cl (.int (q:Int))):=λs6 s7 s8=>by
  have:=bE (w5 s6 s7 s8) (v3 _ _ _ _ _) (lU (is:=s.2) (k:=p.1) (by rw[so.pl];exact hp))
  rw[eq] at this
  exact this
 have ih:∀s6 s7 s8,ev pg (call pg (n+32)) (μ s6 s7 s8) (.idx (.idx (.v 0) (.c (.int 2))) (.v 3))=.ok ⟨.lst (aX (hs.getD p.1 [])),false,true,[]⟩:=λs6 s7 s8=>bE (aBO rfl) (v3 _ _ _ _ _) (mH (eE [] hp))
 have ro:cM hs s p.1=(hs.getD p.1 []).getD q []:=by unfold cM;rw[eq];rfl
 have pre:∀{v:Vl},exs pg (call pg (n+32)) (μ .dead .dead .dead) (drp 4 f35.body)=.ret v->exs pg (call pg (n+32)) (τ .dead .dead .dead .dead .dead .dead) f35.body=.ret v:=λe=>cs k1 (cs k2 (cs k3 (cs k4 e)))
 by_cases hql:q<(hs.getD p.1 []).length
 . have hrow:(hs.getD p.1 [])[q]? = some (cM hs s p.1):=by rw[ro];exact eE [] hql
   have k5:ex pg (call pg (n+32)) (μ .dead .dead .dead) (hdS (drp 4 f35.body))=.next (μ (.sh true (eU (cM hs s p.1))) .dead .dead):=aIz (wZ (ih _ _ _) (i5 _ _ _) (qP (n+31) _ hrow) rfl rfl)
   have v6:∀s7 s8,ev pg (call pg (n+32)) (μ (.sh true (eU (cM hs s p.1))) s7 s8) (.v 6)=.ok ⟨eU (cM hs s p.1),false,true,[]⟩:=λ_ _=>aK 6 rfl
   have hl6:=dU (v6 .dead .dead) rfl
   rw[lM] at hl6
   have t6:=xC (P:=pg) (cl:=call pg (n+32)) (k:=decide (p.2<(cM hs s p.1).length)) (aC (.int 0)) (i21 (.sh false (aD p.1)) (.sh false (aM s.1)) (.sh false (aM s.2)) (.sh true (eU (cM hs s p.1))) .dead .dead) hl6 (by omega) (by simp)
   by_cases hw:p.2<(cM hs s p.1).length
   . rw[decide_eq_true hw] at t6
     have hm:=aAG hw
     have wo:=((o.ok _ (mG (eE [] hp))).ok _ (mG hrow)).ok _ hm.1
     let w:=gL (cM hs s p.1) p.2
     have k7:ex pg (call pg (n+32)) (μ (.sh true (eU (cM hs s p.1))) .dead .dead) (hdS (drp 6 f35.body))=.next (μ (.sh true (eU (cM hs s p.1))) (.sh false w.d) .dead):=aZ (xF (f:=Way.d) (v6 _ _) rfl (i21 _ _ _ _ _ _) hm.2 (eT _))
     have w7:∀s8,ev pg (call pg (n+32)) (μ (.sh true (eU (cM hs s p.1))) (.sh false w.d) s8) (.v 7)=.ok (.cl w.d):=λ_=>aI 7 rfl
     have k8:ex pg (call pg (n+32)) (μ (.sh true (eU (cM hs s p.1))) (.sh false w.d) .dead) (hdS (drp 7 f35.body))=.next (μ (.sh true (eU (cM hs s p.1))) (.sh false w.d) (.sh false (stD (behF bs w s.1)))):=aZ (bO (aIG rfl) (w7 _) (aI 4 rfl) (zK n so.st (by omega) wo.1))
     have w8:ev pg (call pg (n+32)) (μ (.sh true (eU (cM hs s p.1))) (.sh false w.d) (.sh false (stD (behF bs w s.1)))) (.v 8)=.ok (.cl (stD (behF bs w s.1))):=aI 8 rfl
     have t9:tst pg (call pg (n+32)) (μ (.sh true (eU (cM hs s p.1))) (.sh false w.d) (.sh false (stD (behF bs w s.1)))) (.cmp .Is (.v 8) (.c .non))=.ok (behF bs w s.1).isNone:=cQ w8 (aC _) (by cases behF bs w s.1 <;> rfl)
     have gf:goneF bs hs s p=(behF bs w s.1).map λst=>(st,s.2.take p.1++[w.nx]++s.2.drop (p.1+1)):=if_pos hw
     cases q9:behF bs w s.1 with
     | none=>
      rw[q9] at t9 gf
      rw[gf]
      rw[q9] at k8
      exact aH (F:=f35) rfl rfl (v:=.cl .non) (pre (cs k5 (cs (cA (dQ t6)) (cs k7 (cs k8 (fX t9 (bD (aC _))))))))
     | some st=>
      rw[q9] at t9 gf w8 k8
      rw[gf]
      have sl:=s.2.length
      have hpl:=so.pl
      have e10:=nD w8 (fI (o:=.Add) (fI (o:=.Add) (aIE (w5 _ _ _) (v3 _ _ _ _ _) (by omega)) (bK (aF (bE (w7 _) (aC (.int 2)) (zJ _ _ _ _ rfl)) bB)) (aLl (s.2.take p.1) [w.nx] (by rw[List.length_take];simp;omega))) (aIF (k:=p.1+1) (w5 _ _ _) (eD (v3 _ _ _ _ _) (aC (.int 1))) (by omega)) (aLl _ (s.2.drop (p.1+1)) (by rw[lA,List.length_take,List.length_drop];simp;omega)))
      exact aH (F:=f35) rfl rfl (v:=.cl (aO (st,s.2.take p.1++[w.nx]++s.2.drop (p.1+1)))) (pre (cs k5 (cs (cA (dQ t6)) (cs k7 (cs k8 (cs (cA t9) (bD e10)))))))
   . rw[decide_eq_false hw] at t6
     rw[show goneF bs hs s p=none from if_neg hw]
     exact aH (F:=f35) rfl rfl (v:=.cl .non) (pre (cs k5 (fX (dQ t6) (bD (aC _)))))
 . have hqe:q=(hs.getD p.1 []).length:=by omega
   have rn:cM hs s p.1=[]:=by rw[ro,List.getD_eq_getElem?_getD,List.getElem?_eq_none (by omega)];rfl
   have k5:ex pg (call pg (n+32)) (μ .dead .dead .dead) (hdS (drp 4 f35.body))=.next (μ (.own false []) .dead .dead):=bV (dO (ih _ _ _) (i5 _ _ _) (by rw[hqe];exact xL (n+31) _))
   have t6:=xC (P:=pg) (cl:=call pg (n+32)) (k:=false) (aC (.int 0)) (i21 (.sh false (aD p.1)) (.sh false (aM s.1)) (.sh false (aM s.2)) (.own false []) .dead .dead) (dU (bI 6 rfl) rfl) (by omega) (decide_eq_false (by simp))
   rw[show goneF bs hs s p=none from if_neg (by rw[rn];simp)]
   exact aH (F:=f35) rfl rfl (v:=.cl .non) (pre (cs k5 (fX (dQ t6) (bD (aC _)))))
variable {bs:List (Str×Int)} {g:Cn} {hs:List (List (List Way))}
theorem xM{st:List Int}:∀(ps:List (Nat×Sm)) (acc r:List Int),putF bs st acc ps=some r->r.length=acc.length
 | [],acc,r,h=>by cases h;rfl
 | p::ps,acc,r,h=>by
  unfold putF at h
  split at h
  . have:=xM ps _ r h
    rw[this,List.length_set]
  . cases h
theorem aEg{w:Way}{st r:List Int}(h:behF bs w st=some r):r.length=st.length:=by
 unfold behF at h
 split at h
 . exact xM _ _ _ h
 . cases h
theorem SOk.go(o:gB bs.length hs){s s':St}(so:SOk bs.length hs s){p:Nat×Nat}(hp:p.1<hs.length)(h:goneF bs hs s p=some s'):SOk bs.length hs s':=by
 unfold goneF at h
 split at h
 . rename_i hw
   obtain⟨st,h1,rfl⟩:=Option.map_eq_some_iff.mp h
   have hm:=aAG hw
   have hpl:=so.pl
   have hh:=eE (l:=hs) [] hp
   have hq:(s.2.getD p.1 0).toNat<(hs.getD p.1 []).length:=by
    by_cases z:(s.2.getD p.1 0).toNat<(hs.getD p.1 []).length
    . exact z
    . have e:cM hs s p.1=[]:=by unfold cM;rw[List.getD_eq_getElem?_getD (l:=hs.getD p.1 []),List.getElem?_eq_none (by omega)];rfl
      rw[e] at hw
      exact absurd hw (Nat.not_lt_zero _)
   have wo:=((o.ok _ (mG hh)).ok _ (mG (eE [] hq))).ok (gL (cM hs s p.1) p.2) hm.1
   refine⟨by rw[aEg h1];exact so.st,by simp only[lA,List.length_take,List.length_drop,List.length_singleton];omega,λk hk=>?_⟩
   show 0<=(s.2.take p.1++[(gL (cM hs s p.1) p.2).nx]++s.2.drop (p.1+1)).getD k 0/\(s.2.take p.1++[(gL (cM hs s p.1) p.2).nx]++s.2.drop (p.1+1)).getD k 0<=_
   have tl:(s.2.take p.1).length=p.1:=by rw[List.length_take];omega
   by_cases h1:k<p.1
   . have:(s.2.take p.1++[(gL (cM hs s p.1) p.2).nx]++s.2.drop (p.1+1)).getD k 0=s.2.getD k 0:=by
      rw[List.getD_eq_getElem?_getD,List.append_assoc,List.getElem?_append_left (by omega),List.getElem?_take,if_pos h1,List.getD_eq_getElem?_getD]
     rw[this]
     exact so.rg k hk
   . by_cases h2:k=p.1
     . subst h2
       have:(s.2.take p.1++[(gL (cM hs s p.1) p.2).nx]++s.2.drop (p.1+1)).getD p.1 0=(gL (cM hs s p.1) p.2).nx:=by
        rw[List.getD_eq_getElem?_getD,List.append_assoc,List.getElem?_append_right (by omega),tl,Nat.sub_self];rfl
       rw[this]
       have:=wo.2
       omega
     . have:(s.2.take p.1++[(gL (cM hs s p.1) p.2).nx]++s.2.drop (p.1+1)).getD k 0=s.2.getD k 0:=by
        have l1:(s.2.take p.1++[(gL (cM hs s p.1) p.2).nx]).length=p.1+1:=by rw[lA,tl];rfl
        rw[List.getD_eq_getElem?_getD,List.getElem?_append_right (by omega),l1,List.getElem?_drop,List.getD_eq_getElem?_getD]
        congr 2
        omega
       rw[this]
       exact so.rg k hk
 . cases h
theorem uQ(n:Nat)(hb:bs∈boxSet){st:List Int}(h:st∈standsL bs):call pg (n+3) 8 [.lst (aB bs),aM st]=.ok (.bl true,false,false):=by
 obtain⟨hl,hr⟩:=mD h
 obtain⟨l3,l4⟩:=fO hb
 have v0:=aK (P:=pg) (cl:=call pg (n+2)) (σ:=[.sh true (.lst (aB bs)),.sh true (aM st)]) 0 rfl
 have v1:=aP (P:=pg) (cl:=call pg (n+2)) (σ:=[.sh true (.lst (aB bs)),.sh true (aM st)]) 1 rfl (aS st)
 have n0:=dU v0 rfl
 have n1:=eS (b:=.len) v1 (gJ _)
 rw[show(aB bs).length=bs.length from lM _] at n0
 rw[lM] at n1
 have k1:=cA (a:=.cons (.ret (.c (.bl false))) .nil) (fD (dQ (eC (cs:=[.tTuple]) (k:=true) v1 rfl)) (cQ (o:=.NotEq) (k:=false) n1 n0 (by
  show(some ((st.length:Int)==(bs.length:Int))).map (!·)=_
  rw[hl,beq_self_eq_true];rfl)))
 have hz:eX (aB bs) (st.map D.int)=(bs.zip st).map λx=>.tup [box x.1,.int x.2]:=by
  clear hl hr k1 v1 n1
  have:∀(bs:List (Str×Int)) (st:List Int),eX (bs.map box) (st.map D.int)=(bs.zip st).map λx=>.tup [box x.1,.int x.2]:=λbs=>by
   induction bs with
   | nil=>intro st;cases st <;> rfl
   | cons b bs ih=>
    intro st
    cases st with
    | nil=>rfl
    | cons i st=>
     show .tup [box b,.int i]::eX (bs.map box) (st.map D.int)=_
     rw[ih st];rfl
  exact this bs st
 have hc:ev pg (call pg (n+2)) [.sh true (.lst (aB bs)),.sh true (aM st)] (.comp 2 [] (.t [0,1]) (.zip (.v 0) (.v 1)) .nil (.call 15 (.cons (.v 1) (.cons (.c (.int 0)) (.cons (.idx (.v 0) (.c (.int 1))) .nil)))))=.ok ⟨.lst ((bs.zip st).map λ_=>.bl true),true,false,[]⟩:=by
  refine fY (ts:=bs.zip st) (al:=[]) (λx=>Vl.cl (.tup [box x.1,.int x.2])) (λ_=>.bl true) (λ_=>rfl) ?_ (by rw[List.length_zip];unfold lim;omega) λx hx=>?_
  . rw[jF,v0,aA,v1,aA]
    show R.ok (items _ (eX (aB bs) (st.map D.int)),[])=_
    rw[hz,cF (g:=λx:(Str×Int)×Int=>D.tup [box x.1,.int x.2]) (λ_=>rfl)]
  . obtain⟨i,hi⟩:=List.getElem?_of_mem hx
    rw[List.getElem?_zip_eq_some] at hi
    have:=hr i x.2 x.1 hi.2 hi.1
    exact⟨[.sh false (box x.1),.sh false (.int x.2)],qM _ rfl rfl,bO (aI 1 rfl) (aC _) (bE (aI 0 rfl) (aC (.int 1)) (gA _ _ _ rfl)) (gX (P:=pg) (wh:=14) (wi:=15) rfl rfl n x.2 0 x.1.2 this.1 this.2)⟩
 refine aH (F:=f8) rfl rfl (v:=.cl (.bl true)) (cs k1 (bD (eS hc ?_)))
 have:cE ((bs.zip st).map λ_=>D.bl true)=some ((bs.zip st).map λ_=>true):=by
  induction (bs.zip st) with
  | nil=>rfl
  | cons x r ih=>rw[mC];unfold cE;rw[ih];rfl
 show(match cE ((bs.zip st).map λ_=>D.bl true) with|some bs=>R.ok (Vl.cl (.bl (bs.all id)))|none=>.bad)=_
 rw[this]
 show R.ok (Vl.cl (.bl (((bs.zip st).map λ_=>true).all id)))=_
 rw[List.all_map]
 exact congrArg (λz=>R.ok (Vl.cl (.bl z))) (List.all_eq_true.mpr λ_ _=>rfl)
theorem rE(n:Nat)(hb:bs∈boxSet){q:Cn}(w:q.wf bs.length true)(z:q.sz<=31):call pg (n+32) 9 [.lst (aB bs),q.d]=.ok (.lst (((standsL bs).filter λst=>q.hold st st).map aM),true,false):=by
 have h24:(standsL bs).length<=24:=by
  have:=aGk (xI hb) bs.length (Nat.le_refl _)
  rwa [List.take_length] at this
 refine aH (F:=f9) rfl rfl (v:=⟨.lst (((standsL bs).filter λst=>q.hold st st).map aM),true,false,[]⟩) (bD (aIv (ts:=standsL bs) (al:=[]) (λst=>Vl.cl (aM st)) aM (λst=>q.hold st st) aS ?_ (by unfold lim;omega) λst hst=>⟨[.sh false (aM st),.sh true q.d],rfl,mB (aP 1 rfl q.noL) (aI 0 rfl) (aC _) (qL n (mD hst).1 w z),aI 0 rfl⟩))
 rw[bM,cR (aK 0 rfl) (aBD (P:=pg) (f:=7) rfl (n+30) (xI hb)),aA]
 show R.ok (items _ ((standsL bs).map aM),[])=_
 rw[cF aS]
theorem xN(hb:bs∈boxSet)(p:Bool):(bW p).wf bs.length true/\(bW p).sz<=31:=by
 have:=fO hb
 cases p with
 | true=>exact⟨trivial,by decide⟩
 | false=>exact⟨⟨by show 0<bs.length;omega,by decide,by decide⟩,by decide⟩
theorem aBP(hb:bs∈boxSet)(p:Bool):1<=((standsL bs).filter λst=>(bW p).hold st st).length:=by
 rcases box_six hb with rfl|rfl|rfl|rfl|rfl|rfl <;> cases p <;> decide +kernel
theorem aBQ(n:Nat)(hb:bs∈boxSet){ns:List Int}(hn:ns.length<=63)(p:Bool):∃st∈standsL bs,(bW p).hold st st=true/\call pg (n+33) 49 [.lst (ns.map D.int),aR bs (bW p) hs]=.ok (aM st,false,false):=by
 obtain⟨w,z⟩:=xN hb p
 have k1:ex pg (call pg (n+32)) [.sh true (.lst (ns.map D.int)),.sh true (aR bs (bW p) hs),.dead] (hdS f49.body)=.next [.sh true (.lst (ns.map D.int)),.sh true (aR bs (bW p) hs),.own false (((standsL bs).filter λst=>(bW p).hold st st).map aM)]:=bV (dO (aIG rfl) (aLm rfl) (rE n hb w z))
 let xs:=nA ((ns++[0]).getD 0 0) 10
 have e43:ev pg (call pg (n+32)) [.sh true (.lst (ns.map D.int)),.sh true (aR bs (bW p) hs),.own false (((standsL bs).filter λst=>(bW p).hold st st).map aM)] (.call 43 (.cons (.idx (.op .Add (.v 0) (.lst (.cons (.c (.int 0)) .nil))) (.c (.int 0))) (.cons (.c (.int 10)) .nil)))=.ok ⟨.lst (xs.map D.int),true,false,[]⟩:=dO (mF (ms:=[0]) (k:=0) hn (by decide) rfl (aF (aC _) bB) (aC _) (by simp)) (aC (.int 10)) (fP (P:=pg) (f:=43) rfl (n+31) _ (m:=10) (by decide))
 obtain⟨st,hst,e⟩:=nF (P:=pg) (cl:=call pg (n+32)) (f:=aM) (bI 2 rfl) rfl (fE (k:=9) e43 rfl (aC _) (by rw[gU];decide)) (aBP hb p) aS
 rw[List.mem_filter] at hst
 exact⟨st,hst.1,hst.2,aH (F:=f49) rfl rfl (v:=.cl (aM st)) (cs k1 (bD e))⟩
variable {bs:List (Str×Int)} {g:Cn} {hs:List (List (List Way))}
abbrev cN(hs:List (List (List Way))):List Int:=List.replicate hs.length 0
theorem aFL(o:gB bs.length hs){st:List Int}(h:st.length=bs.length):SOk bs.length hs (st,cN hs):=⟨h,List.length_replicate,λk hk=>by
 have:(cN hs).getD k 0=0:=by
  rw[List.getD_eq_getElem?_getD,List.getElem?_replicate,if_pos hk];rfl
 show 0<=(cN hs).getD k 0/\(cN hs).getD k 0<=_
 rw[this]
 omega⟩
theorem xO{P:Pg}{cl:Caller}{σ:Sg}{i:Nat}(h3:hs.length<=3)(h:σ[i]? = some (.sh true (aR bs g hs))):ev P cl σ (.bi .tuple (.cons (.comp 1 [] (.n 0) (.seq (.idx (.v i) (.c (.int 2)))) .nil (.c (.int 0))) .nil))=.ok (.cl (aM (cN hs))):=by
 have hc:ev P cl σ (.comp 1 [] (.n 0) (.seq (.idx (.v i) (.c (.int 2)))) .nil (.c (.int 0)))=.ok ⟨.lst (hs.map λ_=>.int 0),true,false,[]⟩:=by
  refine fY (ts:=hs) (al:=[]) (λh=>Vl.mk (.lst (aX h)) false true []) (λ_=>.int 0) (λ_=>rfl) ?_ (by unfold lim;omega) λh _=>⟨[.sh true (.lst (aX h))],rfl,aC _⟩
  rw[bM,aBO h,aA]
  show R.ok (items _ (aT hs),[])=_
  unfold items
  rw[List.map_map]
  rfl
 have e:(hs.map λ_=>D.int 0)=(cN hs).map D.int:=by
  show _=(List.replicate hs.length (0:Int)).map D.int
  rw[List.map_replicate]
  exact List.map_const' ..
 rw[e] at hc
 refine eS hc ?_
 show R.ok (Vl.mk (.tup ((cN hs).map D.int)) false (false&&!noLs ((cN hs).map D.int)) (if noLs ((cN hs).map D.int)=true then [] else []))=_
 rw[eJ];rfl
theorem aBR(n:Nat)(h3:hs.length<=3)(st:List Int):call pg (n+1) 37 [aR bs g hs,aM st]=.ok (aO (st,cN hs),false,false):=
 aH (F:=f37) rfl rfl (v:=.cl (aO (st,cN hs))) (bD (nD (aP 1 rfl (aS st)) (xO h3 rfl)))
structure Wov (bs:List (Str×Int)) (hs:List (List (List Way))) (s0:St) (ps:List (Nat×Nat)) (ss:List St):Prop where
 len:ss.length=ps.length+1
 z:ss.getD 0 s0=s0
 go:∀i,i<ps.length->goneF bs hs (ss.getD i s0) (ps.getD i (0,0))=some (ss.getD (i+1) s0)
 hd:∀p∈ps,p.1<hs.length
 ok:∀i,SOk bs.length hs (ss.getD i s0)
theorem iC{α:Type}(l r:List α)(d:α){i:Nat}(h:i<l.length):(l++r).getD i d=l.getD i d:=by
 rw[List.getD_eq_getElem?_getD,List.getD_eq_getElem?_getD,List.getElem?_append_left h]
theorem jY{α:Type}(l:List α)(x d:α):(l++[x]).getD l.length d=x:=by
 rw[List.getD_eq_getElem?_getD,List.getElem?_append_right (Nat.le_refl _),Nat.sub_self];rfl
theorem Wov.nil{s0:St}(so:SOk bs.length hs s0):Wov bs hs s0 [] [s0]:=⟨rfl,rfl,λi h=>absurd h (Nat.not_lt_zero _),λ_ h=>absurd h List.not_mem_nil,λi=>by
 cases i with
 | zero=>exact so
 | succ i=>exact so⟩
theorem Wov.snoc(o:gB bs.length hs){s0 s':St}{ps:List (Nat×Nat)}{ss:List St}(W:Wov bs hs s0 ps ss){p:Nat×Nat}(hp:p.1<hs.length)(h:goneF bs hs (ss.getD ps.length s0) p=some s'):Wov bs hs s0 (ps++[p]) (ss++[s']):=by
 have hl:=W.len
 have so':=(W.ok ps.length).go o hp h
 refine⟨by rw[lA,lA,hl];rfl,by rw[iC _ _ _ (by omega)];exact W.z,λi hi=>?_,λq hq=>?_,λi=>?_⟩
 . rw[lA,List.length_singleton] at hi
   by_cases hlt:i<ps.length
   . rw[iC ss _ _ (by omega),iC ps _ _ hlt,iC ss _ _ (by omega)]
     exact W.go i hlt
   . have:i=ps.length:=by omega
     subst this
     rw[iC ss _ _ (by omega),jY]
     have e:=jY ss s' s0
     rw[hl] at e
     rw[e]
     exact h
 . rcases List.mem_append.mp hq with z|z
   . exact W.hd q z
   . rw[List.mem_singleton.mp z];exact hp
 . by_cases hlt:i<ss.length
   . rw[iC ss _ _ hlt];exact W.ok i
   . by_cases he:i=ss.length
     . subst he;rw[jY];exact so'
     . rw[List.getD_eq_getElem?_getD,List.getElem?_eq_none (by simp;omega)]
       have:=W.ok 0
       rw[W.z] at this
       exact this
theorem kH{α β:Type}(f:α->β)(l:List α)(d:α){i:Nat}(h:i<l.length):(l.take (i+1)).map f=(l.take i).map f++[f (l.getD i d)]:=by
 rw[List.take_succ,List.map_append,List.getElem?_eq_getElem h,List.getD_eq_getElem?_getD,List.getElem?_eq_getElem h]
 rfl
theorem xP{α:Type}(f:α->D)(d0:α):∀(xs:List α) (a:Nat),gC (a:Int) (xs.map f)=(List.range xs.length).map λi=>.tup [aD (a+i),f (xs.getD i d0)]
 | [],_=>rfl
 | x::xs,a=>by
  rw[lC,List.range_succ_eq_map,mC,mC,List.map_map]
  show .tup [.int (a:Int),f x]::gC ((a:Int)+1) (xs.map f)=_
  rw[show((a:Int)+1)=((a+1:Nat):Int) by omega,xP f d0 xs (a+1)]
  refine congrArg _ (List.map_congr_left λi _=>?_)
  show D.tup [aD (a+1+i),_]=D.tup [aD (a+(i+1)),_]
  rw[show a+1+i=a+(i+1) by omega]
  rfl
theorem sL(n:Nat)(hb:bs∈boxSet)(o:gB bs.length hs)(gw:g.wf bs.length true)(gz:g.sz<=31){st:List Int}(hst:st∈standsL bs)(hg:g.hold st st=true){ps:List (Nat×Nat)}{ss:List St}(W:Wov bs hs (st,cN hs) ps ss)(hp:ps.length<=100) :
 call pg (n+34) 36 [aR bs g hs,aM st,.lst (ps.map aN)]=.ok (.lst (ss.map aO),true,false):=by
 obtain⟨l3,l4⟩:=fO hb
 obtain⟨h2,h3⟩:=jM o
 let s0:St:=(st,cN hs)
 let τ:Sl->Sl->Sl->Sl->Sg:=λs3 s4 s5 s6=>[.sh true (aR bs g hs),.sh true (aM st),.sh true (.lst (ps.map aN)),s3,s4,s5,s6]
 have v1:∀s3 s4 s5 s6,ev pg (call pg (n+33)) (τ s3 s4 s5 s6) (.v 1)=.ok (.cl (aM st)):=λ_ _ _ _=>aP 1 rfl (aS st)
 have k1:ex pg (call pg (n+33)) (τ .dead .dead .dead .dead) (hdS f36.body)=.next (τ .dead .dead .dead .dead):=cA (fD (dQ (by
  have e:evs pg (call pg (n+33)) (τ .dead .dead .dead .dead) (.cons (.idx (.v 0) (.c (.int 0))) (.cons (.v 1) .nil))=.ok [⟨.lst (aB bs),false,true,[]⟩,.cl (aM st)]:=by rw[aG,aIG rfl,aA,aG,v1,aA,bG];rfl
  rw[gR,e,aA]
  show(call pg (n+33) 8 [.lst (aB bs),aM st] >>= λr=>fS (gQ _ r))=_
  rw[uQ (n+30) hb hst]
  rfl)) (dQ (mB (aLm rfl) (v1 _ _ _ _) (aC _) (by
  have:=qL (n+2) (mD hst).1 gw gz
  rw[hg] at this
  exact this))))
 have k2:ex pg (call pg (n+33)) (τ .dead .dead .dead .dead) (hdS (drp 1 f36.body))=.next (τ (.sh false (aO s0)) .dead .dead .dead):=aZ (dR (nG rfl) (v1 _ _ _ _) (aBR (n+32) h3 st))
 have k3:ex pg (call pg (n+33)) (τ (.sh false (aO s0)) .dead .dead .dead) (hdS (drp 2 f36.body))=.next (τ (.sh false (aO (ss.getD 0 s0))) (.own false ((ss.take 1).map aO)) .dead .dead):=by
  rw[kH aO ss s0 (i:=0) (by rw[W.len];omega),show ss.getD 0 s0=s0 from W.z]
  exact bV (dZ (aF (aI 3 rfl) bB))
 have hw:walk pg (call pg (n+33)) (τ (.sh false (aO (ss.getD 0 s0))) (.own false ((ss.take 1).map aO)) .dead .dead) (.enum (.v 2))=.ok ((List.range ps.length).map (λi=>Vl.cl (.tup [aD i,aN (ps.getD i (0,0))])),[]):=by
  rw[aFD (aK 2 (ds:=ps.map aN) rfl) rfl]
  have:=xP aN (0,0) ps 0
  rw[show((0:Nat):Int)=0 from rfl] at this
  rw[this]
  refine congrArg R.ok (congrArg (·,[]) ((cF (g:=λi=>D.tup [aD (0+i),aN (ps.getD i (0,0))]) (λi=>rfl) _).trans (List.map_congr_left λi _=>?_)))
  rw[Nat.zero_add]
 obtain⟨σ',ef,s5,s6,rfl⟩:=cI (P:=pg) (cl:=call pg (n+33)) (t:=.t [5,6]) (b:=match hdS (drp 3 f36.body) with|.for _ _ b=>b|_=>.nil) (λi σ=>∃s5 s6,σ=τ (.sh false (aO (ss.getD i s0))) (.own false ((ss.take (i+1)).map aO)) s5 s6) hw ⟨_,_,rfl⟩ λi hi σ ⟨s5,s6,hσ⟩=>by
  have hi':i<ps.length:=by simpa using hi
  subst hσ
  have hl:=W.len
  have hpi:=W.hd (ps.getD i (0,0)) (mG (eE (0,0) hi'))
  have gr:=qQ (g:=g) n l4 o (W.ok i) hpi
  rw[W.go i hi'] at gr
  have m1:ex pg (call pg (n+33)) (τ (.sh false (aO (ss.getD i s0))) (.own false ((ss.take (i+1)).map aO)) (.sh false (aD i)) (.sh false (aN (ps.getD i (0,0))))) (.set (.n 3) (.call 35 (.cons (.v 0) (.cons (.v 3) (.cons (.v 6) .nil)))))=.next (τ (.sh false (aO (ss.getD (i+1) s0))) (.own false ((ss.take (i+1)).map aO)) (.sh false (aD i)) (.sh false (aN (ps.getD i (0,0))))):=aZ (bO (nG rfl) (aI 3 rfl) (aI 6 rfl) gr)
  have w3:ev pg (call pg (n+33)) (τ (.sh false (aO (ss.getD (i+1) s0))) (.own false ((ss.take (i+1)).map aO)) (.sh false (aD i)) (.sh false (aN (ps.getD i (0,0))))) (.v 3)=.ok (.cl (aO (ss.getD (i+1) s0))):=aI 3 rfl
  refine⟨τ (.sh false (aO (ss.getD i s0))) (.own false ((ss.take (i+1)).map aO)) (.sh false (aD i)) (.sh false (aN (ps.getD i (0,0)))),_,?_,cs m1 (cs (cA (cQ w3 (aC _) rfl)) (cC (fJ w3 rfl (by rw[lM,List.length_take];unfold lim;omega) rfl (kH aO ss s0 (i:=i+1) (by omega))))),_,_,rfl⟩
  rw[List.getElem_map,List.getElem_range]
  exact qM _ rfl rfl
 have hfin:(ss.take ((List.range ps.length).map (λi=>Vl.cl (.tup [aD i,aN (ps.getD i (0,0))]))).length.succ)=ss:=by
  rw[lM,List.length_range]
  exact List.take_of_length_le (by rw[W.len];exact Nat.le_refl _)
 refine aH (F:=f36) rfl rfl (v:=⟨.lst (ss.map aO),true,false,[]⟩) (cs k1 (cs k2 (cs k3 (cs ef (nY ?_)))))
 show O.ret ⟨.lst ((ss.take ((List.range ps.length).map (λi=>Vl.cl (.tup [aD i,aN (ps.getD i (0,0))]))).length.succ).map aO),true,false,[]⟩=_
 rw[hfin]
def qR(ps:List (Nat×Nat))(ss:List St)(s0:St)(i:Nat):D:=.tup [aD (ps.getD i (0,0)).1,.int ((ss.getD i s0).2.getD (ps.getD i (0,0)).1 0),aD (ps.getD i (0,0)).2]
theorem sM{α β:Type}(f:α->D)(h:β->D)(a0:α)(b0:β):∀(xs:List α) (ys:List β),xs.length<=ys.length->eX (xs.map f) (ys.map h)=(List.range xs.length).map λi=>.tup [f (xs.getD i a0),h (ys.getD i b0)]
 | [],ys,_=>by cases ys <;> rfl
 | x::xs,[],hl=>by simp at hl
 | x::xs,y::ys,hl=>by
  rw[lC,List.range_succ_eq_map,mC,mC,mC,List.map_map]
  show .tup [f x,h y]::eX (xs.map f) (ys.map h)=_
  rw[sM f h a0 b0 xs ys (by simpa using hl)]
  rfl
theorem zT(n:Nat)(hb:bs∈boxSet)(o:gB bs.length hs)(gw:g.wf bs.length true)(gz:g.sz<=31){st:List Int}(hst:st∈standsL bs)(hg:g.hold st st=true){ps:List (Nat×Nat)}{ss:List St}(W:Wov bs hs (st,cN hs) ps ss)(hp:ps.length<=100) :
 call pg (n+35) 38 [aR bs g hs,aM st,.lst (ps.map aN)]=.ok (.lst ((List.range ps.length).map (qR ps ss (st,cN hs))),true,false):=by
 let s0:St:=(st,cN hs)
 have k1:ex pg (call pg (n+34)) [.sh true (aR bs g hs),.sh true (aM st),.sh true (.lst (ps.map aN)),.dead] (hdS f38.body)=.next [.sh true (aR bs g hs),.sh true (aM st),.sh true (.lst (ps.map aN)),.own false (ss.map aO)]:=bV (hX (nG rfl) (aP 1 rfl (aS st)) (aK 2 rfl) (sL n hb o gw gz hst hg W hp))
 have hc:ev pg (call pg (n+34)) [.sh true (aR bs g hs),.sh true (aM st),.sh true (.lst (ps.map aN)),.own false (ss.map aO)] (match hdS (drp 1 f38.body) with|.ret e=>e|_=>.c .non)=.ok ⟨.lst ((List.range ps.length).map (qR ps ss s0)),true,false,[]⟩:=by
  refine fY (ts:=List.range ps.length) (al:=[3]) (λi=>Vl.cl (.tup [aN (ps.getD i (0,0)),aO (ss.getD i s0)])) (qR ps ss s0) (λ_=>rfl) ?_ (by rw[List.length_range];unfold lim;omega) λi hi=>?_
  . rw[jF,aK 2 (ds:=ps.map aN) rfl,aA,bI 3 (ds:=ss.map aO) rfl,aA]
    show R.ok (items _ (eX (ps.map aN) (ss.map aO)),[3])=_
    rw[sM aN aO (0,0) s0 ps ss (by rw[W.len];omega),cF (g:=λi=>D.tup [aN (ps.getD i (0,0)),aO (ss.getD i s0)]) (λi=>uF rfl (iB _))]
  . have hi':=List.mem_range.mp hi
    have hpi:=W.hd (ps.getD i (0,0)) (mG (eE (0,0) hi'))
    have v0:=aI (P:=pg) (cl:=call pg (n+34)) (σ:=[.sh false (aN (ps.getD i (0,0))),.sh false (aO (ss.getD i s0))]) 0 (d:=aN (ps.getD i (0,0))) rfl
    have v1:=aI (P:=pg) (cl:=call pg (n+34)) (σ:=[.sh false (aN (ps.getD i (0,0))),.sh false (aO (ss.getD i s0))]) 1 (d:=aO (ss.getD i s0)) rfl
    have i0:=bE v0 (aC (.int 0)) (fZ _ _ rfl)
    exact⟨[.sh false (aN (ps.getD i (0,0))),.sh false (aO (ss.getD i s0))],qM _ rfl (iB _),uI i0 (bE (bE v1 (aC (.int 1)) (gA _ _ _ (aS _))) i0 (lU (by rw[(W.ok i).pl];exact hpi))) (bE v0 (aC (.int 1)) (gA _ _ _ rfl))⟩
 exact aH (F:=f38) rfl rfl (v:=⟨.lst ((List.range ps.length).map (qR ps ss s0)),true,false,[]⟩) (cs k1 (bD hc))
variable {bs:List (Str×Int)} {g:Cn} {hs:List (List (List Way))}
abbrev gsF(bs:List (Str×Int))(g:Cn)(hs:List (List (List Way)))(s:St)(gl:List (Nat×Nat))(s3 s4:Sl):Sg:=[.sh true (aR bs g hs),.sh true (aO s),.own false (gl.map aN),s3,s4]
abbrev gsB:Ss:=match hdS (drp 1 f50.body) with|.for _ _ b=>b|_=>.nil
abbrev gsI:Ss:=match hdS gsB with|.for _ _ b=>b|_=>.nil
theorem aBS(n:Nat)(hb4:bs.length<=4)(o:gB bs.length hs){s:St}(so:SOk bs.length hs s):∃gl:List (Nat×Nat),(∀p∈gl,p.1<hs.length/\(goneF bs hs s p).isSome=true)/\gl.length<=12/\call pg (n+34) 50 [aR bs g hs,aO s]=.ok (.lst (gl.map aN),true,false):=by
 obtain⟨h2,h3⟩:=jM o
 obtain⟨σ',ef,gl,s3,s4,g1,g2,rfl⟩:=cI (P:=pg) (cl:=call pg (n+33)) (σ:=gsF bs g hs s [] .dead .dead) (t:=.n 3) (b:=gsB) (λi σ=>∃(gl:List (Nat×Nat)) (s3 s4:Sl),(∀p∈gl,p.1<hs.length/\(goneF bs hs s p).isSome=true)/\gl.length<=4*i/\σ=gsF bs g hs s gl s3 s4) (bX (aEf (i:=0) (bs:=bs) (g:=g) (hs:=hs) rfl) rfl (by omega)) ⟨[],_,_,λ_ z=>absurd z List.not_mem_nil,Nat.le_refl _,rfl⟩ λi hi σ ⟨gl,s3,s4,g1,g2,hσ⟩=>by
  have hi':i<hs.length:=by simpa using hi
  subst hσ
  obtain⟨σ2,e2,gl2,t4,q1,q2,rfl⟩:=cI (P:=pg) (cl:=call pg (n+33)) (σ:=gsF bs g hs s gl (.sh false (aD i)) s4) (t:=.n 4) (b:=gsI) (λj σ=>∃(gl:List (Nat×Nat)) (s4:Sl),(∀p∈gl,p.1<hs.length/\(goneF bs hs s p).isSome=true)/\gl.length<=4*i+j/\σ=gsF bs g hs s gl (.sh false (aD i)) s4) (bX (n:=4) (aC (.int 4)) rfl (by decide)) ⟨gl,_,g1,g2,rfl⟩ λj hj σ ⟨gl,t4,q1,q2,hσ⟩=>by
   have hj':j<4:=by simpa using hj
   subst hσ
   let σ2:=gsF bs g hs s gl (.sh false (aD i)) (.sh false (aD j))
   have tp:ev pg (call pg (n+33)) σ2 (.tup (.cons (.v 3) (.cons (.v 4) .nil)))=.ok (.cl (aN (i,j))):=nD (aI 3 rfl) (aI 4 rfl)
   have t:=cQ (o:=.IsNot) (k:=(goneF bs hs s (i,j)).isSome) (bO (nG (P:=pg) (cl:=call pg (n+33)) (σ:=σ2) (i:=0) rfl) (aP 1 (d:=aO s) rfl (iB s)) tp (qQ n hb4 o so hi')) (aC .non) (by cases goneF bs hs s (i,j) <;> rfl)
   cases q:(goneF bs hs s (i,j)).isSome with
   | true=>
    rw[q] at t
    refine⟨σ2,gsF bs g hs s (gl++[(i,j)]) (.sh false (aD i)) (.sh false (aD j)),?_,cC (wY t (cC (fJ tp rfl (by rw[lM];unfold lim;omega) rfl (by rw[List.map_append];rfl)))),_,_,hZ q1 ⟨hi',q⟩,by rw[lA];simp;omega,rfl⟩
    rw[List.getElem_map,List.getElem_range,cY];rfl
   | false=>
    rw[q] at t
    refine⟨σ2,σ2,?_,cC (cA t),gl,_,q1,by omega,rfl⟩
    rw[List.getElem_map,List.getElem_range,cY];rfl
  refine⟨gsF bs g hs s gl (.sh false (aD i)) s4,_,?_,cC e2,gl2,_,_,q1,by simp at q2;omega,rfl⟩
  rw[List.getElem_map,List.getElem_range,cY];rfl
 refine⟨gl,g1,by simp at g2;omega,aH (F:=f50) rfl rfl (v:=⟨.lst (gl.map aN),true,false,[]⟩) (cs (σ':=gsF bs g hs s [] .dead .dead) rfl (cs ef (nY rfl)))⟩
abbrev spF(ns:List Int)(bs:List (Str×Int))(g:Cn)(hs:List (List (List Way)))(st:List Int)(at' m:Nat)(s:St)(ps:List (Nat×Nat))(s7 s8 s9 s10:Sl):Sg:=[.sh true (.lst (ns.map D.int)),.sh true (aR bs g hs),.sh true (aM st),.sh true (.int at'),.sh true (.int m),.sh false (aO s),.own false (ps.map aN),s7,s8,s9,s10]
abbrev spB:Ss:=match hdS (drp 2 f51.body) with|.for _ _ b=>b|_=>.nil
theorem zU(n:Nat)(hb4:bs.length<=4)(o:gB bs.length hs){ns:List Int}(hn:ns.length<=63){st:List Int}{a m i:Nat}(ha:a<=10)(hi:i<=100){ps:List (Nat×Nat)}{ss:List St}(W:Wov bs hs (st,cN hs) ps ss)(pl:ps.length<=i)(s8 s9 s10:Sl) :
 ∃(ps':List (Nat×Nat)) (ss':List St) (t8 t9 t10:Sl),Wov bs hs (st,cN hs) ps' ss'/\ps'.length<=i+1/\exs pg (call pg (n+34)) (spF ns bs g hs st a m (ss.getD ps.length (st,cN hs)) ps (.sh false (aD i)) s8 s9 s10) spB=.next (spF ns bs g hs st a m (ss'.getD ps'.length (st,cN hs)) ps' (.sh false (aD i)) t8 t9 t10):=by
 let s:=ss.getD ps.length (st,cN hs)
 have so:SOk bs.length hs s:=W.ok _
 obtain⟨gl,g1,g2,g3⟩:=aBS (g:=g) n hb4 o so
 let τ:St->List (Nat×Nat)->Sl->Sl->Sl->Sg:=λs ps s8 s9 s10=>spF ns bs g hs st a m s ps (.sh false (aD i)) s8 s9 s10
 have v5:∀s ps s8 s9 s10,ev pg (call pg (n+34)) (τ s ps s8 s9 s10) (.v 5)=.ok (.cl (aO s)):=λ_ _ _ _ _=>aI 5 rfl
 have v0:∀s ps s8 s9 s10,ev pg (call pg (n+34)) (τ s ps s8 s9 s10) (.v 0)=.ok ⟨.lst (ns.map D.int),false,true,[]⟩:=λ_ _ _ _ _=>aK 0 rfl
 have v7:∀s ps s8 s9 s10,ev pg (call pg (n+34)) (τ s ps s8 s9 s10) (.v 7)=.ok (.cl (aD i)):=λ_ _ _ _ _=>aI 7 rfl
 have k1:ex pg (call pg (n+34)) (τ s ps s8 s9 s10) (hdS spB)=.next (τ s ps (.own false (gl.map aN)) s9 s10):=bV (dO (nG rfl) (v5 _ _ _ _ _) g3)
 have v8:∀s ps s9 s10,ev pg (call pg (n+34)) (τ s ps (.own false (gl.map aN)) s9 s10) (.v 8)=.ok ⟨.lst (gl.map aN),false,false,[8]⟩:=λ_ _ _ _=>bI 8 rfl
 cases hg:gl with
 | nil=>
  have t1:tst pg (call pg (n+34)) (τ s ps (.own false (gl.map aN)) s9 s10) (.cmp .NotEq (.v 8) (.lst .nil))=.ok false:=cQ (v8 _ _ _ _) rfl (by rw[hg];rfl)
  exact⟨ps,ss,_,_,_,W,by omega,cs k1 (cC (cA t1))⟩
 | cons p0 gr=>
  have hne:1<=gl.length:=by rw[hg];simp
  have t1:tst pg (call pg (n+34)) (τ s ps (.own false (gl.map aN)) s9 s10) (.cmp .NotEq (.v 8) (.lst .nil))=.ok true:=cQ (v8 _ _ _ _) rfl (by
   have e:eqD (.lst (gl.map aN)) (.lst [])=some false:=by
    show(if (gl.map aN).length=([]:List D).length then _ else some false)=_
    rw[if_neg (by rw[lM,lN];omega)]
   show(eqD (.lst (gl.map aN)) (.lst [])).map (!·)=_
   rw[e];rfl)
  have c11:opD .Mult (.cl (.int 11)) (.cl (.int (i:Int)))=.ok (.cl (.int (11*i))):=mul_int (by
   unfold gP
   rw[decide_eq_true (by omega),decide_eq_true (by omega)]
   rfl)
  have hlen:∀s9,ev pg (call pg (n+34)) (τ s ps (.own false (gl.map aN)) s9 s10) (.bi .len (.cons (.v 0) .nil))=.ok (.cl (.int ns.length)):=λs9=>by
   have:=dU (v0 s ps (.own false (gl.map aN)) s9 s10) rfl
   rwa [lM] at this
  have m1:ex pg (call pg (n+34)) (τ s ps (.own false (gl.map aN)) s9 s10) (.set (.n 9) (.op .Add (.op .Mult (.c (.int 11)) (.v 7)) (.bi .len (.cons (.v 0) .nil))))=.next (τ s ps (.own false (gl.map aN)) (.sh false (.int (11*(i:Int)+ns.length))) s10):=aZ (eD (fI (aC (.int 11)) (v7 _ _ _ _ _) c11) (hlen _))
  have ai:∀s9,ev pg (call pg (n+34)) (τ s ps (.own false (gl.map aN)) s9 s10) (.op .Add (.v 3) (.v 7))=.ok (.cl (.int ((a+i:Nat):Int))):=λs9=>by
   have:=eD (aP (P:=pg) (cl:=call pg (n+34)) (σ:=τ s ps (.own false (gl.map aN)) s9 s10) 3 (d:=.int a) rfl rfl) (v7 _ _ _ _ _)
   rw[show(a:Int)+(i:Int)=((a+i:Nat):Int) by omega] at this
   exact this
  have m2:∃x:Int,ex pg (call pg (n+34)) (τ s ps (.own false (gl.map aN)) (.sh false (.int (11*(i:Int)+ns.length))) s10) (.iff (.cmp .Lt (.op .Add (.v 3) (.v 7)) (.bi .len (.cons (.v 0) .nil))) (.cons (.set (.n 9) (.idx (.v 0) (.op .Add (.v 3) (.v 7)))) .nil) .nil)=.next (τ s ps (.own false (gl.map aN)) (.sh false (.int x)) s10):=by
   have t:=cQ (o:=.Lt) (k:=decide (((a+i:Nat):Int)<(ns.length:Int))) (ai (.sh false (.int (11*(i:Int)+ns.length)))) (hlen _) rfl
   by_cases hlt:a+i<ns.length
   . rw[decide_eq_true (by omega)] at t
     exact⟨ns.getD (a+i) 0,wY t (cC (aZ (fE (v0 _ _ _ _ _) rfl (ai _) hlt)))⟩
   . rw[decide_eq_false (by omega)] at t
     exact⟨_,cA t⟩
  obtain⟨x,m2⟩:=m2
  have e43:ev pg (call pg (n+34)) (τ s ps (.own false (gl.map aN)) (.sh false (.int x)) s10) (.call 43 (.cons (.v 9) (.cons (.c (.int 1)) .nil)))=.ok ⟨.lst ((nA x 1).map D.int),true,false,[]⟩:=dO (aI 9 rfl) (aC (.int 1)) (fP (P:=pg) (f:=43) rfl (n+33) x (m:=1) (by decide))
  obtain⟨p,hp,e10⟩:=nF (f:=aN) (v8 s ps (.sh false (.int x)) s10) rfl (fE (k:=0) e43 rfl (aC _) (by rw[gU];decide)) hne (λ_=>rfl)
  obtain⟨hp1,hp2⟩:=g1 p hp
  obtain⟨s',es⟩:=Option.isSome_iff_exists.mp hp2
  have m3:ex pg (call pg (n+34)) (τ s ps (.own false (gl.map aN)) (.sh false (.int x)) s10) (.set (.n 10) (.idx (.v 8) (.op .Mod (.idx (.call 43 (.cons (.v 9) (.cons (.c (.int 1)) .nil))) (.c (.int 0))) (.bi .len (.cons (.v 8) .nil)))))=.next (τ s ps (.own false (gl.map aN)) (.sh false (.int x)) (.sh false (aN p))):=aZ e10
  have m4:ex pg (call pg (n+34)) (τ s ps (.own false (gl.map aN)) (.sh false (.int x)) (.sh false (aN p))) (.app 6 (.v 10))=.next (τ s (ps++[p]) (.own false (gl.map aN)) (.sh false (.int x)) (.sh false (aN p))):=fJ (aI 10 rfl) rfl (by rw[lM];unfold lim;omega) rfl (by rw[List.map_append];rfl)
  have gr':=qQ (g:=g) (n+1) hb4 o so hp1
  rw[es] at gr'
  have m5:ex pg (call pg (n+34)) (τ s (ps++[p]) (.own false (gl.map aN)) (.sh false (.int x)) (.sh false (aN p))) (.set (.n 5) (.call 35 (.cons (.v 1) (.cons (.v 5) (.cons (.v 10) .nil)))))=.next (τ s' (ps++[p]) (.own false (gl.map aN)) (.sh false (.int x)) (.sh false (aN p))):=aZ (bO (nG rfl) (v5 _ _ _ _ _) (aI 10 rfl) gr')
  have hl:=W.len
  have hs':(ss++[s']).getD (ps++[p]).length (st,cN hs)=s':=by
   rw[show(ps++[p]).length=ss.length by rw[lA,hl];rfl]
   exact jY _ _ _
  refine⟨ps++[p],ss++[s'],.own false (gl.map aN),.sh false (.int x),.sh false (aN p),W.snoc o hp1 es,by rw[lA,List.length_singleton];omega,?_⟩
  rw[hs']
  exact cs k1 (cC (wY t1 (cs m1 (cs m2 (cs m3 (cs m4 (cC m5)))))))
theorem aBT(n:Nat)(hb:bs∈boxSet)(o:gB bs.length hs){ns:List Int}(hn:ns.length<=63){st:List Int}(hst:st∈standsL bs){a m:Nat}(ha:a<=10)(hm:m<=100):∃(ps:List (Nat×Nat)) (ss:List St),Wov bs hs (st,cN hs) ps ss/\ps.length<=m/\call pg (n+35) 51 [.lst (ns.map D.int),aR bs g hs,aM st,.int a,.int m]=.ok (.lst (ps.map aN),true,false):=by
 obtain⟨l3,l4⟩:=fO hb
 obtain⟨h2,h3⟩:=jM o
 have k1:ex pg (call pg (n+34)) [.sh true (.lst (ns.map D.int)),.sh true (aR bs g hs),.sh true (aM st),.sh true (.int a),.sh true (.int m),.dead,.dead,.dead,.dead,.dead,.dead] (hdS f51.body)=.next [.sh true (.lst (ns.map D.int)),.sh true (aR bs g hs),.sh true (aM st),.sh true (.int a),.sh true (.int m),.sh false (aO (st,cN hs)),.dead,.dead,.dead,.dead,.dead]:=aZ (nD (aP 2 rfl (aS st)) (xO h3 rfl))
 obtain⟨σ',ef,ps,ss,s7,s8,s9,s10,W,pl,rfl⟩:=cI (P:=pg) (cl:=call pg (n+34)) (σ:=spF ns bs g hs st a m (st,cN hs) [] .dead .dead .dead .dead) (t:=.n 7) (b:=spB) (λi σ=>∃(ps:List (Nat×Nat)) (ss:List St) (s7 s8 s9 s10:Sl),Wov bs hs (st,cN hs) ps ss/\ps.length<=i/\σ=spF ns bs g hs st a m (ss.getD ps.length (st,cN hs)) ps s7 s8 s9 s10) (bX (aP 4 (d:=.int m) rfl rfl) rfl (by omega)) ⟨[],[(st,cN hs)],_,_,_,_,Wov.nil (aFL o (mD hst).1),Nat.le_refl _,rfl⟩ λi hi σ ⟨ps,ss,s7,s8,s9,s10,W,pl,hσ⟩=>by
  have hi':i<m:=by simpa using hi
  subst hσ
  obtain⟨ps',ss',t8,t9,t10,W',pl',e⟩:=zU (g:=g) n l4 o hn (a:=a) (m:=m) (i:=i) ha (by omega) W pl s8 s9 s10
  refine⟨spF ns bs g hs st a m (ss.getD ps.length (st,cN hs)) ps (.sh false (aD i)) s8 s9 s10,_,?_,e,ps',ss',_,_,_,_,W',pl',rfl⟩
  rw[List.getElem_map,List.getElem_range,cY];rfl
 exact⟨ps,ss,W,by simpa using pl,aH (F:=f51) rfl rfl (v:=⟨.lst (ps.map aN),true,false,[]⟩) (cs k1 (cs (σ':=spF ns bs g hs st a m (st,cN hs) [] .dead .dead .dead .dead) rfl (cs ef (nY rfl))))⟩
inductive Px where
 | s (x:Sm)|c (x:Cn)
def Px.d:Px->D
 | .s x=>x.d
 | .c x=>x.d
def Px.sz:Px->Nat
 | .s x=>x.sz
 | .c x=>x.sz
def Px.word:Px->Str
 | .s (.num _) => "number"
 | .s (.box _) => "box"
 | .s (.aft _) => "after"
 | .s (.two p _ _)=>zI p
 | .c .yes => "yes"
 | .c (.cmp i _ _)=>nX i
 | .c (.nt _) => "not"
 | .c (.two p _ _)=>kE p
def Px.items:Px->List (Int ⊕ Px)
 | .s (.num k)=>[.inl k]
 | .s (.box k)=>[.inl k]
 | .s (.aft k)=>[.inl k]
 | .s (.two _ a b)=>[.inr (.s a),.inr (.s b)]
 | .c .yes=>[]
 | .c (.cmp _ a b)=>[.inr (.s a),.inr (.s b)]
 | .c (.nt x)=>[.inr (.c x)]
 | .c (.two _ a b)=>[.inr (.c a),.inr (.c b)]
def itD:Int ⊕ Px->D
 | .inl k=>.int k
 | .inr p=>p.d
theorem Px.noL:∀p:Px,Hp.noL p.d=true
 | .s x=>x.noL
 | .c x=>x.noL
theorem aIH:∀t,noL (itD t)=true
 | .inl _=>rfl
 | .inr p=>p.noL
theorem Px.d_eq:∀p:Px,p.d=.tup (.str p.word::p.items.map itD)
 | .s (.num _)=>rfl
 | .s (.box _)=>rfl
 | .s (.aft _)=>rfl
 | .s (.two _ _ _)=>rfl
 | .c .yes=>rfl
 | .c (.cmp _ _ _)=>rfl
 | .c (.nt _)=>rfl
 | .c (.two _ _ _)=>rfl
theorem uR:∀(p q:Px),Sum.inr q∈p.items->q.sz+1<=p.sz:=λp q h=>by
 cases p with
 | s x=>cases x with
  | two t a b=>
   simp only[Px.items,List.mem_cons,Sum.inr.injEq,List.not_mem_nil,or_false] at h
   rcases h with rfl|rfl <;> simp only[Px.sz,Sm.sz] <;> omega
  | num _=>simp[Px.items] at h
  | box _=>simp[Px.items] at h
  | aft _=>simp[Px.items] at h
 | c x=>cases x with
  | yes=>simp[Px.items] at h
  | cmp t a b=>
   simp only[Px.items,List.mem_cons,Sum.inr.injEq,List.not_mem_nil,or_false] at h
   rcases h with rfl|rfl <;> simp only[Px.sz,Cn.sz] <;> omega
  | nt y=>
   simp only[Px.items,List.mem_cons,Sum.inr.injEq,List.not_mem_nil,or_false] at h
   subst h
   simp only[Px.sz,Cn.sz];omega
  | two t a b=>
   simp only[Px.items,List.mem_cons,Sum.inr.injEq,List.not_mem_nil,or_false] at h
   rcases h with rfl|rfl <;> simp only[Px.sz,Cn.sz] <;> omega
theorem Px.pos:∀p:Px,1<=p.sz
 | .s x=>x.sz_pos
 | .c x=>x.sz_pos
def rdS:Sm->List Nat
 | .box k=>[k]
 | .two _ a b=>rdS a++rdS b
 | _=>[]
def rdC:Cn->List Nat
 | .yes=>[]
 | .cmp _ a b=>rdS a++rdS b
 | .nt c=>rdC c
 | .two _ a b=>rdC a++rdC b
def Px.rd:Px->List Nat
 | .s x=>rdS x
 | .c x=>rdC x
def rdT:Int ⊕ Px->List Nat
 | .inl _=>[]
 | .inr p=>p.rd
def Px.bx:Px->Option Nat
 | .s (.box k)=>some k
 | _=>none
theorem aLo:∀i,(nX i == "box")=false:=by decide +kernel
theorem aLp:∀i,(kE i == "box")=false:=by decide +kernel
theorem aAI:∀p:Px,(p.word == "box")=p.bx.isSome
 | .s (.num _)=>by show(("number" : Str) == "box")=false;decide +kernel
 | .s (.box _)=>by show(("box" : Str) == "box")=true;decide +kernel
 | .s (.aft _)=>by show(("after" : Str) == "box")=false;decide +kernel
 | .s (.two p _ _)=>aLc p
 | .c .yes=>by show(("yes" : Str) == "box")=false;decide +kernel
 | .c (.cmp i _ _)=>aLo i
 | .c (.nt _)=>by show(("not" : Str) == "box")=false;decide +kernel
 | .c (.two p _ _)=>aLp p
theorem aAJ{p:Px}{k:Nat}(h:p.bx=some k):p=.s (.box k):=by
 cases p with
 | s x=>cases x <;> cases h;rfl
 | c x=>cases h
theorem aEh{p:Px}(h:p.bx=none):p.rd=(p.items.map rdT).flatten:=by
 cases p with
 | s x=>cases x with
  | box k=>cases h
  | num _=>rfl
  | aft _=>rfl
  | two _ a b=>simp[Px.rd,Px.items,rdT,rdS]
 | c x=>cases x with
  | yes=>rfl
  | cmp _ a b=>simp[Px.rd,Px.items,rdT,rdC]
  | nt y=>simp[Px.rd,Px.items,rdT,rdC]
  | two _ a b=>simp[Px.rd,Px.items,rdT,rdC]
def prS:Sm->List Px
 | .two p a b=>.s (.two p a b)::(prS a++prS b)
 | x=>[.s x]
def prC:Cn->List Px
 | .yes=>[.c .yes]
 | .cmp i a b=>.c (.cmp i a b)::(prS a++prS b)
 | .nt x=>.c (.nt x)::prC x
 | .two p a b=>.c (.two p a b)::(prC a++prC b)
def Px.pr:Px->List Px
 | .s x=>prS x
 | .c x=>prC x
def prT:Int ⊕ Px->List Px
 | .inl _=>[]
 | .inr p=>p.pr
theorem aEi(p:Px):p.pr=p::(p.items.map prT).flatten:=by
 cases p with
 | s x=>cases x with
  | box k=>rfl
  | num _=>rfl
  | aft _=>rfl
  | two _ a b=>simp[Px.pr,Px.items,prT,prS]
 | c x=>cases x with
  | yes=>rfl
  | cmp _ a b=>simp[Px.pr,Px.items,prT,prC]
  | nt y=>simp[Px.pr,Px.items,prT,prC]
  | two _ a b=>simp[Px.pr,Px.items,prT,prC]
theorem qS:∀x:Sm,(prS x).filterMap Px.bx=rdS x
 | .num _=>rfl
 | .box _=>rfl
 | .aft _=>rfl
 | .two p a b=>by
  show(List.filterMap Px.bx (.s (.two p a b)::(prS a++prS b)))=_
  rw[List.filterMap_cons_none rfl,List.filterMap_append,qS a,qS b];rfl
theorem uS:∀x:Cn,(prC x).filterMap Px.bx=rdC x
 | .yes=>rfl
 | .cmp i a b=>by
  show(List.filterMap Px.bx (.c (.cmp i a b)::(prS a++prS b)))=_
  rw[List.filterMap_cons_none rfl,List.filterMap_append,qS a,qS b];rfl
 | .nt x=>by
  show(List.filterMap Px.bx (.c (.nt x)::prC x))=_
  rw[List.filterMap_cons_none rfl,uS x];rfl
 | .two p a b=>by
  show(List.filterMap Px.bx (.c (.two p a b)::(prC a++prC b)))=_
  rw[List.filterMap_cons_none rfl,List.filterMap_append,uS a,uS b];rfl
theorem aGq:∀p:Px,p.pr.filterMap Px.bx=p.rd
 | .s x=>qS x
 | .c x=>uS x
theorem mI:∀x:Sm,(prS x).length=x.sz
 | .num _=>rfl
 | .box _=>rfl
 | .aft _=>rfl
 | .two p a b=>by
  show(prS a++prS b).length+1=1+a.sz+b.sz
  rw[lA,mI a,mI b];omega
theorem oP:∀x:Cn,(prC x).length=x.sz
 | .yes=>rfl
 | .cmp i a b=>by
  show(prS a++prS b).length+1=1+a.sz+b.sz
  rw[lA,mI a,mI b];omega
 | .nt x=>by
  show(prC x).length+1=1+x.sz
  rw[oP x];omega
 | .two p a b=>by
  show(prC a++prC b).length+1=1+a.sz+b.sz
  rw[lA,oP a,oP b];omega
theorem zV:∀p:Px,p.pr.length=p.sz
 | .s x=>mI x
 | .c x=>oP x
theorem uT(p:Px):p.rd.length<=p.sz:=by rw[<-aGq,<-zV];exact List.length_filterMap_le _ _
theorem kY{m:Nat}:∀x:Sm,x.wf m true->∀k∈rdS x,k<m
 | .num _,_,_,h=>by cases h
 | .box j,w,k,h=>by rw[List.mem_singleton.mp h];exact w
 | .aft _,_,_,h=>by cases h
 | .two _ a b,w,k,h=>by
  rcases List.mem_append.mp h with z|z
  . exact kY a w.1 k z
  . exact kY b w.2 k z
theorem qT{m:Nat}:∀x:Cn,x.wf m true->∀k∈rdC x,k<m
 | .yes,_,_,h=>by cases h
 | .cmp _ a b,w,k,h=>by
  rcases List.mem_append.mp h with z|z
  . exact kY a w.1 k z
  . exact kY b w.2 k z
 | .nt x,w,k,h=>qT x w k h
 | .two _ a b,w,k,h=>by
  rcases List.mem_append.mp h with z|z
  . exact qT a w.1 k z
  . exact qT b w.2 k z
section
variable {P:Pg} {cl:Caller} {σ:Sg}
theorem qU{p:Px}{i:Nat}(h:σ[i]? = some (.sh true p.d)):walk P cl σ (.seq (.sli (.v i) (.cons (.c (.int 1)) .nil) .nil))=.ok (p.items.map (λt=>Vl.cl (itD t)),[]):=by
 have nl:noLs (.str p.word::p.items.map itD)=true:=by
  have:=p.noL
  rw[p.d_eq] at this
  exact this
 have v:ev P cl σ (.v i)=.ok (.cl (.tup (.str p.word::p.items.map itD))):=by
  rw[<-p.d_eq]
  exact aP i h p.noL
 have e:ev P cl σ (.sli (.v i) (.cons (.c (.int 1)) .nil) .nil)=.ok (.cl (.tup (p.items.map itD))):=by
  have e1:evs P cl σ (.cons (.c (.int 1)) .nil)=.ok [.cl (.int ((1:Nat):Int))]:=rfl
  show(ev P cl σ (.v i) >>= λx=>evs P cl σ (.cons (.c (.int 1)) .nil) >>= λl=>evs P cl σ .nil >>= λh=>_)=_
  rw[v,aA,e1,aA,bG,aA]
  show R.iff (aL ((1:Nat):Int)) (eG (.cl (.tup (.str p.word::p.items.map itD))) (some ((1:Nat):Int)) none)=_
  rw[lP (by decide),aID nl,aEe]
  rfl
 rw[bM,e,aA]
 show R.ok (items _ (p.items.map itD),[])=_
 rw[cF aIH]
end
theorem aBU:∀p:Px,p.items.length<=2
 | .s (.num _)=>by simp[Px.items]
 | .s (.box _)=>by simp[Px.items]
 | .s (.aft _)=>by simp[Px.items]
 | .s (.two _ _ _)=>by simp[Px.items]
 | .c .yes=>by simp[Px.items]
 | .c (.cmp _ _ _)=>by simp[Px.items]
 | .c (.nt _)=>by simp[Px.items]
 | .c (.two _ _ _)=>by simp[Px.items]
theorem fB{α β:Type}(f:α->List β)(l:List α){i:Nat}(h:i<l.length):((l.take (i+1)).map f).flatten=((l.take i).map f).flatten++f l[i]:=by
 rw[List.take_succ,List.getElem?_eq_getElem h,List.map_append,List.flatten_append]
 simp
theorem oF{p:Px}{α:Type}(f:Int ⊕ Px->List α)(hf:∀t∈p.items,(f t).length<=100):∀i,((p.items.take i).map f).flatten.length<=200:=λi=>by
 have h2:=aBU p
 have:∀l:List (Int ⊕ Px),(∀t∈l,(f t).length<=100)->(l.map f).flatten.length<=100*l.length:=λl=>by
  induction l with
  | nil=>intro _;exact Nat.le_refl _
  | cons t l ih=>
   intro h
   rw[mC,List.flatten_cons,lA,lC]
   have:=ih λx hx=>h x (List.mem_cons_of_mem _ hx)
   have:=h t List.mem_cons_self
   omega
 have h1:=this (p.items.take i) λt ht=>hf t (List.mem_of_mem_take ht)
 have:(p.items.take i).length<=2:=by rw[List.length_take];omega
 omega
theorem nH:∀(N:Nat) (p:Px),p.sz<=N->p.sz<=50->∀n,call pg (n+N) 52 [p.d]=.ok (.lst (p.rd.map aD),true,false)
 | 0,p,h,_,_=>absurd h (by have:=p.pos;omega)
 | N+1,p,h,h50,n=>by
  have v0:∀s1 s2,ev pg (call pg (n+N)) [.sh true p.d,s1,s2] (.idx (.v 0) (.c (.int 0)))=.ok (.cl (.str p.word)):=λs1 s2=>by
   refine bE (aP 0 rfl p.noL) (aC _) ?_
   rw[p.d_eq]
   exact fZ _ _ rfl
  have t0:=dF (v0 .dead .dead) (aAI p)
  cases hb:p.bx with
  | some k=>
   have e:=aAJ hb
   subst e
   exact aH (F:=f52) rfl rfl (v:=⟨.lst [aD k],true,false,[]⟩) (fX t0 (bD (dZ (aF (bE (aP 0 rfl rfl) (aC (.int 1)) (gA _ _ _ rfl)) bB))))
  | none=>
   rw[hb] at t0
   let τ:Nat->Sl->Sg:=λi s2=>[.sh true p.d,.own false ((((p.items.take i).map rdT).flatten).map aD),s2]
   obtain⟨σ',ef,s2,rfl⟩:=cI (P:=pg) (cl:=call pg (n+N)) (σ:=τ 0 .dead) (t:=.n 2) (b:=match hdS (drp 2 f52.body) with|.for _ _ b=>b|_=>.nil) (λi σ=>∃s2,σ=τ i s2) (qU (i:=0) rfl) ⟨_,rfl⟩ λi hi σ ⟨s2,hσ⟩=>by
    have hi':i<p.items.length:=by simpa using hi
    subst hσ
    have w2:ev pg (call pg (n+N)) (τ i (.sh false (itD p.items[i]))) (.v 2)=.ok (.cl (itD p.items[i])):=aI 2 rfl
    have hm:=List.getElem_mem hi'
    cases hq:p.items[i] with
    | inl k=>
     rw[hq] at w2
     refine⟨τ i (.sh false (itD p.items[i])),τ (i+1) (.sh false (itD p.items[i])),?_,?_,_,rfl⟩
     . rw[List.getElem_map,cY];rfl
     . have:τ (i+1) (.sh false (itD p.items[i]))=τ i (.sh false (itD p.items[i])):=by
        show [_,_,_]=[_,_,_]
        rw[fB rdT p.items hi',hq]
        simp[rdT]
       rw[this,hq]
       exact cC (cA (eC w2 rfl))
    | inr q=>
     rw[hq] at w2 hm
     have qs:=uR p q hm
     have ih:=nH N q (by omega) (by omega) n
     have fl:=oF (p:=p) rdT (λt ht=>by
      cases t with
      | inl _=>exact Nat.zero_le _
      | inr q=>have:=uT q;have:=uR p q ht;show q.rd.length<=100;omega) i
     refine⟨τ i (.sh false (itD p.items[i])),τ (i+1) (.sh false (itD p.items[i])),?_,?_,_,rfl⟩
     . rw[List.getElem_map,cY];rfl
     . rw[hq]
       refine cC (wY (eC w2 (by show isI [.tTuple] pg q.d=some true;rw[q.d_eq];rfl)) (cC ?_))
       have e:=bV (i:=1) (fI (o:=.Add) (bI (P:=pg) (cl:=call pg (n+N)) (σ:=τ i (.sh false (itD (.inr q)))) 1 rfl) (cR w2 ih) (xG rfl rfl (bR cP _) (bR cP _) (by
        rw[lM,lM]
        have:=uT q
        unfold lim
        omega)))
       refine e.trans ?_
       show O.next [_,_,_]=O.next [_,_,_]
       rw[fB rdT p.items hi',hq,List.map_append]
       rfl
   have hfin:((p.items.take (p.items.map λt=>Vl.cl (itD t)).length).map rdT).flatten=p.rd:=by
    rw[lM,List.take_length,aEh hb]
   refine aH (F:=f52) rfl rfl (v:=⟨.lst (p.rd.map aD),true,false,[]⟩) (cs (cA t0) (cs (σ':=τ 0 .dead) rfl (cs ef (nY ?_))))
   show O.ret ⟨.lst ((((p.items.take (p.items.map λt=>Vl.cl (itD t)).length).map rdT).flatten).map aD),true,false,[]⟩=_
   rw[hfin]
section
variable {P:Pg} {cl:Caller} {σ:Sg}
theorem aGr{i:Nat}{e:E}{ds ds' r:List D}(h:ev P cl σ e=.ok ⟨.lst ds',true,false,[]⟩)(n:noLs ds'=true)(hi:σ[i]? = some (.own false ds))(hl:r.length<=lim)(he:r=ds++ds'):ex P cl σ (.ext i e)=.next (σ.set i (.own false r)):=by
 subst he
 have s:pA (⟨.lst ds',true,false,[]⟩:Vl)=some (.cl .non,ds'):=by
  show some (Vl.mk .non false (false&&!noLs ds') (if noLs ds'=true then [] else []),ds')=_
  rw[n];rfl
 rw[aDH,h,bH,s]
 show put σ i (.cl .non) (λds=>some (ds++ds'))=_
 unfold put lE
 rw[gG,cO,hi]
 show(if (ds++ds').length<=lim then O.next _ else .bad)=_
 rw[if_pos hl]
 rfl
theorem uU{k:Nat}{caps al:List Nat}{T:T}{it:It}{c elt:E}{α:Type}{ts:List α}(f:α->Vl)(g:α->D)(p:α->Bool)(ng:∀t,noL (g t)=true)(hw:walk P cl σ it=.ok (ts.map f,al))(hl:ts.length<=lim)
 (hb:∀t∈ts,∃σ1,cH (List.replicate k .dead++caps.map λi=>((freeze σ al)[i]?).getD .dead) (f t) T=.ok σ1/\tst P cl σ1 c=.ok (p t)/\(p t=true->ev P cl σ1 elt=.ok (.cl (g t)))):ev P cl σ (.comp k caps T it (.cons c .nil) elt)=.ok ⟨.lst ((ts.filter p).map g),true,false,[]⟩:=by
 rw[oD,hw,aA,lT (f:=f) (g:=g) (p:=p) λt ht=>by
  obtain⟨σ1,e1,e2,e3⟩:=hb t ht
  show(cH _ (f t) T >>= λσ1=>_)=_
  rw[e1]
  show(tsts P cl σ1 (.cons c .nil) >>= λk=>if k then (ev P cl σ1 elt >>= λy=>R.ok (some y)) else R.ok none)=_
  rw[sH,e2,aA]
  cases hp:p t with
  | false=>rfl
  | true=>
   show(ev P cl σ1 elt >>= λy=>R.ok (some y))=_
   rw[e3 hp]
   rfl]
 show R.iff (decide (((ts.filter p).map λt=>Vl.cl (g t)).length<=lim)) (R.ok (fK k caps al _))=_
 rw[uE ng,decide_eq_true (by rw[lM];exact Nat.le_trans (List.length_filter_le _ _) hl)]
 rfl
end
theorem sN:∀(N:Nat) (p:Px),p.sz<=N->p.sz<=50->∀n,call pg (n+N) 11 [p.d]=.ok (.lst (p.pr.map Px.d),true,false)
 | 0,p,h,_,_=>absurd h (by have:=p.pos;omega)
 | N+1,p,h,h50,n=>by
  let τ:Nat->Sl->Sg:=λi s2=>[.sh true p.d,.own false ((p::((p.items.take i).map prT).flatten).map Px.d),s2]
  obtain⟨σ',ef,s2,rfl⟩:=cI (P:=pg) (cl:=call pg (n+N)) (σ:=τ 0 .dead) (t:=.n 2) (b:=match hdS (drp 1 f11.body) with|.for _ _ b=>b|_=>.nil) (λi σ=>∃s2,σ=τ i s2) (qU (i:=0) rfl) ⟨_,rfl⟩ λi hi σ ⟨s2,hσ⟩=>by
   have hi':i<p.items.length:=by simpa using hi
   subst hσ
   have w2:ev pg (call pg (n+N)) (τ i (.sh false (itD p.items[i]))) (.v 2)=.ok (.cl (itD p.items[i])):=aI 2 rfl
   have hm:=List.getElem_mem hi'
   cases hq:p.items[i] with
   | inl k=>
    rw[hq] at w2
    refine⟨τ i (.sh false (itD p.items[i])),τ (i+1) (.sh false (itD p.items[i])),?_,?_,_,rfl⟩
    . rw[List.getElem_map,cY];rfl
    . have:τ (i+1) (.sh false (itD p.items[i]))=τ i (.sh false (itD p.items[i])):=by
       show [_,_,_]=[_,_,_]
       rw[fB prT p.items hi',hq]
       simp[prT]
      rw[this,hq]
      exact cC (cA (eC w2 rfl))
   | inr q=>
    rw[hq] at w2 hm
    have qs:=uR p q hm
    have ih:=sN N q (by omega) (by omega) n
    have fl:=oF (p:=p) prT (λt ht=>by
     cases t with
     | inl _=>exact Nat.zero_le _
     | inr q=>have:=zV q;have:=uR p q ht;show q.pr.length<=100;omega) (i+1)
    refine⟨τ i (.sh false (itD p.items[i])),τ (i+1) (.sh false (itD p.items[i])),?_,?_,_,rfl⟩
    . rw[List.getElem_map,cY];rfl
    . rw[hq]
      exact cC (wY (eC w2 (by show isI [.tTuple] pg q.d=some true;rw[q.d_eq];rfl)) (cC (aGr (cR w2 ih) (bR Px.noL _) rfl (by
       rw[lM,lC]
       unfold lim
       omega) (by rw[fB prT p.items hi',hq,<-List.map_append];rfl))))
  have hfin:p::((p.items.take (p.items.map λt=>Vl.cl (itD t)).length).map prT).flatten=p.pr:=by
   rw[lM,List.take_length,<-aEi]
  refine aH (F:=f11) rfl rfl (v:=⟨.lst (p.pr.map Px.d),true,false,[]⟩) (cs (σ':=τ 0 .dead) (bV (dZ (aF (aP 0 rfl p.noL) bB))) (cs ef (nY ?_)))
  show O.ret ⟨.lst ((p::((p.items.take (p.items.map λt=>Vl.cl (itD t)).length).map prT).flatten).map Px.d),true,false,[]⟩=_
  rw[hfin]
abbrev cS(ks:List Nat):D:=.lst (ks.map aD)
theorem sO:∀{ks:List Nat},(∀k∈ks,k<4)->oZ (ks.map aD)=some ks
 | [],_=>rfl
 | k::ks,h=>by
  have h1:=h k List.mem_cons_self
  have ih:=sO (ks:=ks) λj hj=>h j (List.mem_cons_of_mem _ hj)
  show(if 0<=(k:Int)/\(k:Int)<=3 then (match oZ (ks.map aD) with|some r=>some ((k:Int).toNat::r)|none=>none) else none)=_
  rw[if_pos (by omega),ih,Int.toNat_natCast]
theorem mJ{ks:List Nat}(h:∀k∈ks,k<4)(k:Nat):k∈dW ks↔k∈ks:=by
 unfold dW
 rw[List.mem_filter,List.mem_range,decide_eq_true_eq]
 exact⟨λz=>z.2,λz=>⟨h k z,z⟩⟩
theorem aAK{ks:List Nat}(k:Nat)(h:k∈dW ks):k<4:=List.mem_range.mp (List.mem_filter.mp h).1
theorem qV(ks:List Nat):(dW ks).length<=4:=Nat.le_trans (List.length_filter_le _ _) (by decide)
theorem aEj{P:Pg}{cl:Caller}{σ:Sg}{a:E}{v:Vl}{ks:List Nat}(h:ev P cl σ a=.ok v)(hv:v.d=cS ks)(hk:∀k∈ks,k<4):ev P cl σ (.sset a)=.ok ⟨cS (dW ks),true,false,[]⟩:=by
 show(ev P cl σ a >>= λx=>_)=_
 rw[h,aA]
 show(match v.d with|.lst ds=>(match oZ ds with|some ns=>R.ok (⟨.lst ((dW ns).map λ(k:Nat)=>.int (k:Int)),true,false,[]⟩:Vl)|none=>.bad)|_=>.bad)=_
 rw[hv]
 show(match oZ (ks.map aD) with|some ns=>R.ok (⟨.lst ((dW ns).map λ(k:Nat)=>.int (k:Int)),true,false,[]⟩:Vl)|none=>.bad)=_
 rw[sO hk]
def Px.wf(m:Nat):Px->Prop
 | .s x=>x.wf m true
 | .c x=>x.wf m true
theorem Px.rd_lt{m:Nat}:∀{p:Px},p.wf m->∀k∈p.rd,k<m
 | .s x,w=>kY x w
 | .c x,w=>qT x w
theorem xQ{α β:Type}(f:α->Option β)(d:β):∀l:List α,((l.filter λa=>(f a).isSome).map λa=>(f a).getD d)=l.filterMap f
 | []=>rfl
 | a::l=>by
  have ih:=xQ f d l
  cases h:f a with
  | none=>rw[List.filterMap_cons_none h,<-ih,List.filter_cons_of_neg (by rw[h];exact bN)]
  | some b=>rw[List.filterMap_cons_some h,<-ih,List.filter_cons_of_pos (by rw[h];rfl),mC,h];rfl
theorem sP(n:Nat){p:Px}{N m:Nat}(w:p.wf m)(hm:m<=4)(hN:p.sz<=N)(h50:p.sz<=50):call pg (n+N+1) 10 [p.d]=.ok (cS (dW p.rd),true,false):=by
 have hw:walk pg (call pg (n+N)) [.sh true p.d] (.seq (.call 11 (.cons (.v 0) .nil)))=.ok (p.pr.map (λq=>Vl.cl q.d),[]):=by
  rw[bM,cR (aP 0 rfl p.noL) (sN N p hN h50 n),aA]
  show R.ok (items _ (p.pr.map Px.d),[])=_
  rw[cF Px.noL]
 have hc:ev pg (call pg (n+N)) [.sh true p.d] (.comp 1 [] (.n 0) (.seq (.call 11 (.cons (.v 0) .nil))) (.cons (.cmp .Eq (.idx (.v 0) (.c (.int 0))) (.c (.str "box"))) .nil) (.idx (.v 0) (.c (.int 1))))=.ok ⟨.lst ((p.pr.filter λq=>q.bx.isSome).map λq=>aD (q.bx.getD 0)),true,false,[]⟩:=by
  refine uU (ts:=p.pr) (al:=[]) (λq=>Vl.cl q.d) (λq=>aD (q.bx.getD 0)) (λq=>q.bx.isSome) (λ_=>rfl) hw (by rw[zV];unfold lim;omega) λq _=>⟨[.sh false q.d],cY _,?_,λh=>?_⟩
  . refine dF (bE (aI 0 rfl) (aC _) ?_) (aAI q)
    rw[q.d_eq]
    exact fZ _ _ rfl
  . obtain⟨k,hk⟩:=Option.isSome_iff_exists.mp h
    have e:=aAJ hk
    subst e
    exact bE (aI 0 rfl) (aC (.int 1)) (gA _ _ _ rfl)
 have e:((p.pr.filter λq=>q.bx.isSome).map λq=>aD (q.bx.getD 0))=p.rd.map aD:=by
  rw[<-aGq,<-xQ Px.bx 0,List.map_map];rfl
 rw[e] at hc
 exact aH (F:=f10) rfl rfl (v:=⟨cS (dW p.rd),true,false,[]⟩) (bD (aEj hc rfl λk hk=>Nat.lt_of_lt_of_le (Px.rd_lt w k hk) hm))
def Way.wr(w:Way):List Nat:=w.ps.map (·.1)
def Way.rdl(w:Way):List Nat:=rdC w.g++(w.ps.map λp=>rdS p.2).flatten
def Way.rds(w:Way):List Nat:=dW (dW (rdC w.g)++(w.ps.map λp=>dW (rdS p.2)).flatten)
theorem qW{α:Type}{f:α->List Nat}{l:List α}{k:Nat}:k∈(l.map f).flatten↔∃a∈l,k∈f a:=by
 rw[List.mem_flatten]
 constructor
 . rintro ⟨r,hr,hk⟩
   obtain⟨a,ha,rfl⟩:=List.mem_map.mp hr
   exact⟨a,ha,hk⟩
 . rintro ⟨a,ha,hk⟩
   exact⟨_,List.mem_map.mpr ⟨a,ha,rfl⟩,hk⟩
variable {m:Nat}
theorem aGs(hm:m<=4){w:Way}(o:eK m w):∀k∈dW (rdC w.g)++(w.ps.map λp=>dW (rdS p.2)).flatten,k<4:=λk hk=>by
 rcases List.mem_append.mp hk with z|z
 . exact aAK k z
 . obtain⟨p,_,hp⟩:=qW.mp z
   exact aAK k hp
theorem aAL(hm:m<=4){w:Way}(o:eK m w)(k:Nat):k∈w.rds↔k∈w.rdl:=by
 unfold Way.rds Way.rdl
 rw[mJ (aGs hm o),List.mem_append,List.mem_append,mJ λk h=>Nat.lt_of_lt_of_le (qT _ o.g k h) hm,qW,qW]
 refine or_congr Iff.rfl ⟨λ⟨p,hp,h⟩=>⟨p,hp,?_⟩,λ⟨p,hp,h⟩=>⟨p,hp,?_⟩⟩
 . exact(mJ (λk h=>Nat.lt_of_lt_of_le (kY _ (o.ps p hp).wf k h) hm) k).mp h
 . exact(mJ (λk h=>Nat.lt_of_lt_of_le (kY _ (o.ps p hp).wf k h) hm) k).mpr h
theorem aEk:∀{ps:List (Nat×Sm)} {a:Nat},Up ps->(∀p∈ps,a<=p.1/\p.1<m)->a<=m->ps.length+a<=m
 | [],a,_,_,h=>by simpa using h
 | p::ps,a,u,h,_=>by
  have hp:=h p List.mem_cons_self
  have u':=List.pairwise_cons.mp u
  have:=aEk (ps:=ps) (a:=p.1+1) u'.2 (λq hq=>⟨u'.1 q hq,(h q (List.mem_cons_of_mem _ hq)).2⟩) hp.2
  rw[lC]
  omega
theorem nI{w:Way}(o:eK m w):w.ps.length<=m:=by
 have:=aEk (a:=0) o.up (λp hp=>⟨Nat.zero_le _,(o.ps p hp).box⟩) (Nat.zero_le _)
 omega
theorem qX{α:Type}{f:α->List Nat}{b:Nat}:∀{l:List α},(∀a∈l,(f a).length<=b)->(l.map f).flatten.length<=b*l.length
 | [],_=>Nat.le_refl _
 | a::l,h=>by
  have:=qX (l:=l) λx hx=>h x (List.mem_cons_of_mem _ hx)
  have:=h a List.mem_cons_self
  rw[mC,List.flatten_cons,lA,lC,Nat.mul_add,Nat.mul_one]
  omega
section
variable {P:Pg} {cl:Caller} {σ:Sg} {w:Way}
theorem w_g{e:E}(h:ev P cl σ e=.ok (.cl w.d)):ev P cl σ (.idx e (.c (.int 0)))=.ok (.cl w.g.d):=bE h (aC _) (fZ _ _ w.g.noL)
theorem aII{e:E}(h:ev P cl σ e=.ok (.cl w.d)):walk P cl σ (.seq (.idx e (.c (.int 1))))=.ok (w.ps.map (λp=>Vl.cl (dG p)),[]):=by
 have hp:noL (.tup (w.ps.map dG))=true:=fQ w.ps
 rw[bM,bE h (aC _) (gA _ _ _ hp),aA]
 show R.ok (items _ (w.ps.map dG),[])=_
 rw[kX]
theorem aLq{e:E}(h:ev P cl σ e=.ok (.cl w.d))(hm:m<=4)(o:eK m w):ev P cl σ (.comp 2 [] (.t [0,1]) (.seq (.idx e (.c (.int 1)))) .nil (.v 0))=.ok ⟨cS w.wr,true,false,[]⟩:=by
 have:=fY (k:=2) (caps:=[]) (T:=.t [0,1]) (elt:=.v 0) (ts:=w.ps) (al:=[]) (λp=>Vl.cl (dG p)) (λp=>aD p.1) (λ_=>rfl) (aII h) (by have:=nI o;unfold lim;omega) λp _=>⟨[.sh false (aD p.1),.sh false p.2.d],qM _ rfl p.2.noL,aI 0 rfl⟩
 rw[this]
 unfold Way.wr
 rw[cS,List.map_map]
 rfl
end
theorem zW(n:Nat)(hm:m<=4){w:Way}(o:eK m w):call pg (n+1) 13 [w.d]=.ok (cS w.wr,true,false):=
 aH (F:=f13) rfl rfl (v:=⟨cS w.wr,true,false,[]⟩) (bD (aLq (aP 0 rfl (eT w)) hm o))
theorem aBV(n:Nat)(hm:m<=4){w:Way}(o:eK m w):call pg (n+33) 12 [w.d]=.ok (cS w.rds,true,false):=by
 let τ:Nat->Sl->Sl->Sg:=λi s2 s3=>[.sh true w.d,.own false ((dW (rdC w.g)++((w.ps.take i).map λp=>dW (rdS p.2)).flatten).map aD),s2,s3]
 have pl:=nI o
 have v0:ev pg (call pg (n+32)) [.sh true w.d,.dead,.dead,.dead] (.v 0)=.ok (.cl w.d):=aP 0 rfl (eT w)
 have k1:ex pg (call pg (n+32)) [.sh true w.d,.dead,.dead,.dead] (hdS f12.body)=.next (τ 0 .dead .dead):=by
  have:=bV (i:=1) (cR (w_g v0) (sP n (p:=.c w.g) (N:=31) o.g hm o.gs (Nat.le_trans o.gs (by decide))))
  refine this.trans ?_
  show O.next [_,_,_,_]=O.next [_,_,_,_]
  rw[List.take_zero,mN,List.flatten_nil,List.append_nil]
  rfl
 obtain⟨σ',ef,s2,s3,rfl⟩:=cI (P:=pg) (cl:=call pg (n+32)) (σ:=τ 0 .dead .dead) (t:=.t [2,3]) (b:=match hdS (drp 1 f12.body) with|.for _ _ b=>b|_=>.nil) (λi σ=>∃s2 s3,σ=τ i s2 s3) (aII (aP 0 rfl (eT w))) ⟨_,_,rfl⟩ λi hi σ ⟨s2,s3,hσ⟩=>by
  have hi':i<w.ps.length:=by simpa using hi
  subst hσ
  have op:=o.ps _ (List.getElem_mem hi')
  have ff:=qX (f:=λp:Nat×Sm=>dW (rdS p.2)) (b:=4) (l:=w.ps.take (i+1)) λ_ _=>qV _
  have:=qV (rdC w.g)
  have tl:(w.ps.take (i+1)).length<=4:=by rw[List.length_take];omega
  refine⟨τ i (.sh false (aD w.ps[i].1)) (.sh false w.ps[i].2.d),τ (i+1) (.sh false (aD w.ps[i].1)) (.sh false w.ps[i].2.d),?_,cC (aGr (cR (aI 3 rfl) (sP (n+28) (p:=.s w.ps[i].2) (N:=3) op.wf hm op.sz (Nat.le_trans op.sz (by decide)))) (bR cP _) rfl (by
   rw[lM,lA]
   unfold lim
   omega) (by rw[fB (λp:Nat×Sm=>dW (rdS p.2)) w.ps hi',<-List.map_append,List.append_assoc];rfl)),_,_,rfl⟩
  rw[List.getElem_map]
  exact qM _ rfl w.ps[i].2.noL
 refine aH (F:=f12) rfl rfl (v:=⟨cS w.rds,true,false,[]⟩) (cs k1 (cs ef (bD (aEj (bI 1 rfl) ?_ (aGs hm o)))))
 show D.lst (List.map aD (dW (rdC w.g)++((w.ps.take (w.ps.map λp=>Vl.cl (dG p)).length).map λp=>dW (rdS p.2)).flatten))=_
 rw[lM,List.take_length]
def kI(hs:List (List (List Way)))(h p j:Nat)(w:Way):Prop:=∃hd ws,hs[h]? = some hd/\hd[p]? = some ws/\ws[j]? = some w
theorem kI.ok{hs:List (List (List Way))}{h p j:Nat}{w:Way}(a:kI hs h p j w)(o:gB m hs):eK m w:=by
 obtain⟨hd,ws,h1,h2,h3⟩:=a
 exact(((o.ok hd (mG h1)).ok ws (mG h2)).ok w (mG h3)).1
abbrev tkD(h p j:Nat):D:=.tup [aD h,aD p,aD j]
def iO(h:Nat)(w:Way):D:=.tup [aD h,cS w.wr,cS (w.rds++w.wr)]
section
variable {P:Pg} {cl:Caller} {σ:Sg} {h p j:Nat}
theorem aEl{e:E}(a:ev P cl σ e=.ok (.cl (tkD h p j))):ev P cl σ (.idx e (.c (.int 0)))=.ok (.cl (aD h)):=bE a (aC _) (fZ _ _ rfl)
theorem aLr{e:E}(a:ev P cl σ e=.ok (.cl (tkD h p j))):ev P cl σ (.idx e (.c (.int 1)))=.ok (.cl (aD p)):=bE a (aC _) (gA _ _ _ rfl)
theorem aLs{e:E}(a:ev P cl σ e=.ok (.cl (tkD h p j))):ev P cl σ (.idx e (.c (.int 2)))=.ok (.cl (aD j)):=bE a (aC _) (aLj _ _ _ rfl)
end
variable {bs:List (Str×Int)} {g:Cn} {hs:List (List (List Way))}
theorem sQ(n:Nat)(hb4:bs.length<=4)(o:gB bs.length hs){h p j:Nat}{w:Way}(a:kI hs h p j w):call pg (n+34) 40 [aR bs g hs,tkD h p j]=.ok (iO h w,false,false):=by
 have wo:=a.ok o
 obtain⟨hd,ws,h1,h2,h3⟩:=a
 have pl:=nI wo
 let τ:Sl->Sg:=λs=>[.sh true (aR bs g hs),.sh true (tkD h p j),s]
 have v1:∀s,ev pg (call pg (n+33)) (τ s) (.v 1)=.ok (.cl (tkD h p j)):=λs=>aP 1 rfl rfl
 have k1:ex pg (call pg (n+33)) (τ .dead) (hdS f40.body)=.next (τ (.sh false w.d)):=aZ (bE (wZ (bE (aBO rfl) (aEl (v1 _)) (mH h1)) (aLr (v1 _)) (qP (n+32) hd h2) rfl rfl) (aLs (v1 _)) (by
  rw[wX (f:=Way.d) (v:=⟨eU ws,false,true,[]⟩) rfl h3]
  exact congrArg R.ok (cJ (eT w))))
 have v2:ev pg (call pg (n+33)) (τ (.sh false w.d)) (.v 2)=.ok (.cl w.d):=aI 2 rfl
 have cw:=cR v2 (zW (n+32) hb4 wo)
 have cr:=fI (o:=.Add) (cR v2 (aBV n hb4 wo)) cw (xG rfl rfl (bR cP _) (bR cP _) (by
  have:=qV (dW (rdC w.g)++(w.ps.map λp=>dW (rdS p.2)).flatten)
  rw[lM,lM]
  unfold Way.rds Way.wr lim
  rw[lM]
  omega))
 have e:evs pg (call pg (n+33)) (τ (.sh false w.d)) (.cons (.idx (.v 1) (.c (.int 0))) (.cons (.call 13 (.cons (.v 2) .nil)) (.cons (.op .Add (.call 12 (.cons (.v 2) .nil)) (.call 13 (.cons (.v 2) .nil))) .nil)))=.ok [.cl (aD h),⟨cS w.wr,true,false,[]⟩,⟨.lst (w.rds.map aD++w.wr.map aD),true,false,[]⟩]:=by
  rw[aG,aEl (v1 _),aA,aG,cw,aA,aG,cr,aA,bG];rfl
 refine aH (F:=f40) rfl rfl (v:=.cl (iO h w)) (cs k1 (bD ?_))
 show ev pg (call pg (n+33)) (τ (.sh false w.d)) (.tup _)=_
 rw[qC,e,aA,<-List.map_append]
 rfl
theorem aEm(a b:Nat):((a:Int)==(b:Int))=(a==b):=by
 by_cases h:a=b
 . subst h;simp
 . rw[beq_eq_false_iff_ne.mpr h,beq_eq_false_iff_ne.mpr (by omega)]
theorem xR(k:Nat):∀ks:List Nat,oW (aD k) (ks.map aD)=some (decide (k∈ks))
 | []=>rfl
 | a::ks=>by
  have ih:=xR k ks
  show(match eqD (aD a) (aD k),oW (aD k) (ks.map aD) with|some a,some b=>some (a||b)|_,_=>none)=_
  rw[ih,gH,aEm]
  by_cases h:a=k
  . subst h;simp
  . rw[beq_eq_false_iff_ne.mpr h]
    show some (false||decide (k∈ks))=_
    rw[Bool.false_or]
    congr 1
    simp only[List.mem_cons,show ¬ k=a from λe=>h e.symm,false_or]
theorem aAM:∀ks:List Nat,noDics (ks.map aD)=true
 | []=>rfl
 | k::ks=>aAM ks
theorem uV(k:Nat)(ks:List Nat):cG .In (aD k) (cS ks)=some (decide (k∈ks)):=by
 show(if noDics (ks.map aD)=true then oW (aD k) (ks.map aD) else none)=_
 rw[if_pos (aAM ks),xR]
theorem sR{α:Type}(f:α->Bool):∀l:List α,cE (l.map λa=>D.bl (f a))=some (l.map f)
 | []=>rfl
 | a::l=>by
  show(match cE (l.map λa=>D.bl (f a)) with|some bs=>some (f a::bs)|none=>none)=_
  rw[sR f l];rfl
theorem xS(n:Nat){as cs:List Nat}(ha:as.length<=100):call pg (n+1) 42 [cS as,cS cs]=.ok (.bl (as.any λk=>decide (k∈cs)),false,false):=by
 have hc:ev pg (call pg n) [.sh true (cS as),.sh true (cS cs)] (.comp 1 [1] (.n 0) (.seq (.v 0)) .nil (.cmp .In (.v 0) (.v 1)))=.ok ⟨.lst (as.map λk=>D.bl (decide (k∈cs))),true,false,[]⟩:=by
  refine fY (ts:=as) (al:=[]) (λk=>Vl.cl (aD k)) (λk=>D.bl (decide (k∈cs))) (λ_=>rfl) ?_ (by unfold lim;omega) λk _=>⟨[.sh false (aD k),.sh true (cS cs)],cY _,qJ (aI 0 rfl) (aK 1 rfl) (uV k cs)⟩
  rw[bM,aK 0 (ds:=as.map aD) rfl,aA]
  show R.ok (items _ (as.map aD),[])=_
  rw[cF cP]
 refine aH (F:=f42) rfl rfl (v:=.cl (.bl (as.any λk=>decide (k∈cs)))) (bD (eS hc ?_))
 show(match cE (as.map λk=>D.bl (decide (k∈cs))) with|some bs=>R.ok (Vl.cl (.bl (bs.any id)))|none=>.bad)=_
 rw[sR]
 show R.ok (Vl.cl (.bl ((as.map λk=>decide (k∈cs)).any id)))=_
 rw[List.any_map]
 rfl
def aprt(h h':Nat)(w w':Way):Bool:=!(h==h')&&(!(w.wr.any λk=>decide (k∈w'.rds++w'.wr))&&!(w'.wr.any λk=>decide (k∈w.rds++w.wr)))
section
variable {P:Pg} {cl:Caller} {σ:Sg} {h:Nat} {w:Way}
theorem aIJ{i:Nat}(a:σ[i]? = some (.sh true (iO h w))):ev P cl σ (.v i)=.ok ⟨iO h w,false,true,[]⟩:=by
 show bZ σ i=_
 unfold bZ
 rw[a]
 rfl
theorem aLt{i:Nat}(a:σ[i]? = some (.sh true (iO h w))):ev P cl σ (.idx (.v i) (.c (.int 0)))=.ok (.cl (aD h)):=bE (aIJ a) (aC _) rfl
theorem aLu{i:Nat}(a:σ[i]? = some (.sh true (iO h w))):ev P cl σ (.idx (.v i) (.c (.int 1)))=.ok ⟨cS w.wr,false,true,[]⟩:=bE (aIJ a) (aC _) rfl
theorem aLv{i:Nat}(a:σ[i]? = some (.sh true (iO h w))):ev P cl σ (.idx (.v i) (.c (.int 2)))=.ok ⟨cS (w.rds++w.wr),false,true,[]⟩:=bE (aIJ a) (aC _) rfl
end
theorem aEn(a b:Nat):cG .NotEq (aD a) (aD b)=some (!(a==b)):=by rw[qH,gH,aEm];rfl
theorem aBW(n:Nat)(hm:m<=4){h h':Nat}{w w':Way}(o:eK m w)(o':eK m w'):call pg (n+2) 41 [iO h w,iO h' w']=.ok (.bl (aprt h h' w w'),false,false):=by
 have l:∀{w:Way},eK m w->w.wr.length<=100:=λ{w} o=>by have:=nI o;unfold Way.wr;rw[lM];omega
 exact aH (F:=f41) rfl rfl (v:=.cl (.bl (aprt h h' w w'))) (bD (aFx (qJ (aLt rfl) (aLt rfl) (aEn h h')) (aFx (aIu (dR (aLu rfl) (aLv rfl) (xS n (l o)))) (aIu (dR (aLu rfl) (aLv rfl) (xS n (l o')))))))
theorem aEo(n:Nat)(hb4:bs.length<=4)(o:gB bs.length hs){h p j h' p' j':Nat}{w w':Way}(a:kI hs h p j w)(a':kI hs h' p' j' w'):call pg (n+35) 39 [aR bs g hs,tkD h p j,tkD h' p' j']=.ok (.bl (aprt h h' w w'),false,false):=
 aH (F:=f39) rfl rfl (v:=.cl (.bl (aprt h h' w w'))) (bD (dR (dR (nG rfl) (aP 1 rfl rfl) (sQ n hb4 o a)) (dR (nG rfl) (aP 2 rfl rfl) (sQ n hb4 o a')) (aBW (n+32) hb4 (a.ok o) (a'.ok o))))
variable {m:Nat} {bs:List (Str×Int)} {g:Cn} {hs:List (List (List Way))}
def bL(w:Way):D:=.tup [cS w.rdl,cS w.wr]
theorem aAN{w:Way}(hm:m<=4)(o:eK m w):∀i,(rdC w.g++((w.ps.take i).map λp=>rdS p.2).flatten).length<=100:=λi=>by
 have pl:=nI o
 have h1:(rdC w.g).length<=31:=Nat.le_trans (uT (.c w.g)) o.gs
 have ff:=qX (f:=λp:Nat×Sm=>rdS p.2) (b:=3) (l:=w.ps.take i) λp hp=>Nat.le_trans (uT (.s p.2)) (o.ps p (List.mem_of_mem_take hp)).sz
 have tl:(w.ps.take i).length<=4:=by rw[List.length_take];omega
 rw[lA]
 omega
theorem aIK{P:Pg}{cl:Caller}{σ:Sg}{h p j:Nat}{w:Way}(a:kI hs h p j w){i:Nat}{e:E}(hi:σ[i]? = some (.sh true (aR bs g hs)))(he:ev P cl σ e=.ok (.cl (tkD h p j))):ev P cl σ (.idx (.idx (.idx (.idx (.v i) (.c (.int 2))) (.idx e (.c (.int 0)))) (.idx e (.c (.int 1)))) (.idx e (.c (.int 2))))=.ok (.cl w.d):=by
 obtain⟨hd,ws,h1,h2,h3⟩:=a
 refine bE (bE (bE (aBO hi) (aEl he) (mH h1)) (aLr he) (uP h2)) (aLs he) ?_
 rw[wX (f:=Way.d) (v:=⟨eU ws,false,true,[]⟩) rfl h3]
 exact congrArg R.ok (cJ (eT w))
theorem qY(n:Nat)(hb4:bs.length<=4)(o:gB bs.length hs){h p j:Nat}{w:Way}(a:kI hs h p j w):call pg (n+32) 53 [aR bs g hs,tkD h p j]=.ok (bL w,false,false):=by
 have wo:=a.ok o
 let τ:Nat->Sl->Sl->Sg:=λi s4 s5=>[.sh true (aR bs g hs),.sh true (tkD h p j),.sh false w.d,.own false ((rdC w.g++((w.ps.take i).map λp=>rdS p.2).flatten).map aD),s4,s5]
 let ρ:Sl->Sl->Sg:=λs2 s3=>[.sh true (aR bs g hs),.sh true (tkD h p j),s2,s3,.dead,.dead]
 have k1:ex pg (call pg (n+31)) (ρ .dead .dead) (hdS f53.body)=.next (ρ (.sh false w.d) .dead):=aZ (aIK a rfl (aP 1 rfl rfl))
 have k2:ex pg (call pg (n+31)) (ρ (.sh false w.d) .dead) (hdS (drp 1 f53.body))=.next (τ 0 .dead .dead):=by
  have:=bV (i:=3) (cR (w_g (aI (P:=pg) (cl:=call pg (n+31)) (σ:=ρ (.sh false w.d) .dead) 2 rfl)) (nH 31 (.c w.g) wo.gs (Nat.le_trans wo.gs (by decide)) n))
  refine this.trans ?_
  show O.next [_,_,_,_,_,_]=O.next [_,_,_,_,_,_]
  rw[List.take_zero,mN,List.flatten_nil,List.append_nil]
  rfl
 obtain⟨σ',ef,s4,s5,rfl⟩:=cI (P:=pg) (cl:=call pg (n+31)) (σ:=τ 0 .dead .dead) (t:=.t [4,5]) (b:=match hdS (drp 2 f53.body) with|.for _ _ b=>b|_=>.nil) (λi σ=>∃s4 s5,σ=τ i s4 s5) (aII (aI 2 rfl)) ⟨_,_,rfl⟩ λi hi σ ⟨s4,s5,hσ⟩=>by
  have hi':i<w.ps.length:=by simpa using hi
  subst hσ
  have op:=wo.ps _ (List.getElem_mem hi')
  have ll:=aAN hb4 wo (i+1)
  rw[fB (λp:Nat×Sm=>rdS p.2) w.ps hi',<-List.append_assoc,lA] at ll
  refine⟨τ i (.sh false (aD w.ps[i].1)) (.sh false w.ps[i].2.d),τ (i+1) (.sh false (aD w.ps[i].1)) (.sh false w.ps[i].2.d),?_,cC ?_,_,_,rfl⟩
  . rw[List.getElem_map]
    exact qM _ rfl w.ps[i].2.noL
  . have:=bV (i:=3) (fI (o:=.Add) (bI (P:=pg) (cl:=call pg (n+31)) (σ:=τ i (.sh false (aD w.ps[i].1)) (.sh false w.ps[i].2.d)) 3 rfl) (cR (aI 5 rfl) (nH 3 (.s w.ps[i].2) op.sz (Nat.le_trans op.sz (by decide)) (n+28))) (xG rfl rfl (bR cP _) (bR cP _) (by
     rw[lM,lM]
     show _+(rdS w.ps[i].2).length<=lim
     unfold lim
     omega)))
    refine this.trans ?_
    show O.next [_,_,_,_,_,_]=O.next [_,_,_,_,_,_]
    rw[fB (λp:Nat×Sm=>rdS p.2) w.ps hi',<-List.append_assoc,<-List.map_append]
    rfl
 have hfin:rdC w.g++((w.ps.take (w.ps.map λp=>Vl.cl (dG p)).length).map λp=>rdS p.2).flatten=w.rdl:=by
  rw[lM,List.take_length];rfl
 let ω:Sg:=[.sh true (aR bs g hs),.sh true (tkD h p j),.sh false w.d,.own false (w.rdl.map aD),s4,s5]
 have hω:τ (w.ps.map λp=>Vl.cl (dG p)).length s4 s5=ω:=by
  show [_,_,_,Sl.own false ((rdC w.g++((w.ps.take (w.ps.map λp=>Vl.cl (dG p)).length).map λp=>rdS p.2).flatten).map aD),_,_]=_
  rw[hfin]
 have e:evs pg (call pg (n+31)) ω (.cons (.v 3) (.cons (.comp 2 [] (.t [0,1]) (.seq (.idx (.v 2) (.c (.int 1)))) .nil (.v 0)) .nil))=.ok [⟨cS w.rdl,false,false,[3]⟩,⟨cS w.wr,true,false,[]⟩]:=by
  rw[aG,bI 3 (pa:=false) (ds:=w.rdl.map aD) rfl,aA,aG,aLq (w:=w) (aI 2 rfl) hb4 wo,aA,bG];rfl
 have hr:ev pg (call pg (n+31)) ω (.tup (.cons (.v 3) (.cons (.comp 2 [] (.t [0,1]) (.seq (.idx (.v 2) (.c (.int 1)))) .nil (.v 0)) .nil)))=.ok ⟨bL w,false,false,[3]⟩:=by
  rw[qC,e,aA];rfl
 exact aH (F:=f53) rfl rfl (v:=⟨bL w,false,false,[3]⟩) (cs k1 (cs k2 (cs (ef.trans (congrArg O.next hω)) (bD hr))))
def aBX(w w':Way):List Nat:=(w.wr.filter λk=>decide (k∈w'.rdl++w'.wr))++(w'.wr.filter λk=>decide (k∈w.rdl))
theorem aAO{as cs:List Nat}:(!(as.any λk=>decide (k∈cs)))=true↔∀k∈as,k∉cs:=by
 rw[Bool.not_eq_true',List.any_eq_false]
 simp
theorem aIL(hm:m<=4){w w':Way}(o:eK m w)(o':eK m w'):(!(w.wr.any λk=>decide (k∈w'.rds++w'.wr))&&!(w'.wr.any λk=>decide (k∈w.rds++w.wr)))=(aBX w w').isEmpty:=by
 rw[Bool.eq_iff_iff,bA,aAO,aAO,List.isEmpty_iff]
 unfold aBX
 rw[List.append_eq_nil_iff,List.filter_eq_nil_iff,List.filter_eq_nil_iff]
 simp only[decide_eq_true_eq,List.mem_append,aAL hm o,aAL hm o']
 constructor
 . rintro ⟨h1,h2⟩
   exact⟨h1,λk hk z=>h2 k hk (.inl z)⟩
 . rintro ⟨h1,h2⟩
   refine⟨h1,λk hk z=>?_⟩
   rcases z with z|z
   . exact h2 k hk z
   . exact h1 k z (.inr hk)
theorem aIM(ks:List Nat):cG .Eq (cS ks) (.lst [])=some ks.isEmpty:=by
 cases ks <;> rfl
section
variable {P:Pg} {cl:Caller} {σ:Sg} {w:Way}
theorem aLw{i:Nat}(a:σ[i]? = some (.sh false (bL w))):ev P cl σ (.idx (.v i) (.c (.int 0)))=.ok (.cl (cS w.rdl)):=bE (aI i a) (aC _) rfl
theorem aLx{i:Nat}(a:σ[i]? = some (.sh false (bL w))):ev P cl σ (.idx (.v i) (.c (.int 1)))=.ok (.cl (cS w.wr)):=bE (aI i a) (aC _) rfl
theorem aLy{i:Nat}(a:σ[i]? = some (.sh false (bL w))):walk P cl σ (.seq (.idx (.v i) (.c (.int 1))))=.ok (w.wr.map (λk=>Vl.cl (aD k)),[]):=by
 rw[bM,aLx a,aA]
 show R.ok (items _ (w.wr.map aD),[])=_
 rw[cF cP]
end
theorem aEp{w:Way}(hm:m<=4)(o:eK m w):w.wr.length<=4:=by have:=nI o;unfold Way.wr;rw[lM];omega
theorem aBY(n:Nat)(hb4:bs.length<=4)(o:gB bs.length hs){h p j h' p' j':Nat}{w w':Way}(a:kI hs h p j w)(a':kI hs h' p' j' w'):call pg (n+33) 54 [aR bs g hs,tkD h p j,tkD h' p' j']=.ok (.bl (aprt h h' w w'),false,false):=by
 have wo:=a.ok o
 have wo':=a'.ok o
 let τ:Sl->Sl->Sl->Sg:=λs3 s4 s5=>[.sh true (aR bs g hs),.sh true (tkD h p j),.sh true (tkD h' p' j'),s3,s4,s5]
 have l1:=aEp hb4 wo
 have l2:=aEp hb4 wo'
 have l3:=aAN hb4 wo' w'.ps.length
 rw[List.take_length] at l3
 have hF:=List.length_filter_le (λk=>decide (k∈w'.rdl++w'.wr)) w.wr
 have hF':=List.length_filter_le (λk=>decide (k∈w.rdl)) w'.wr
 have k1:ex pg (call pg (n+32)) (τ .dead .dead .dead) (hdS f54.body)=.next (τ (.sh false (bL w)) .dead .dead):=aZ (dR (nG rfl) (aP 1 rfl rfl) (qY n hb4 o a))
 have k2:ex pg (call pg (n+32)) (τ (.sh false (bL w)) .dead .dead) (hdS (drp 1 f54.body))=.next (τ (.sh false (bL w)) (.sh false (bL w')) .dead):=aZ (dR (nG rfl) (aP 2 rfl rfl) (qY n hb4 o a'))
 have k3:ex pg (call pg (n+32)) (τ (.sh false (bL w)) (.sh false (bL w')) .dead) (hdS (drp 2 f54.body))=.next (τ (.sh false (bL w)) (.sh false (bL w')) (.own false ((w.wr.filter λk=>decide (k∈w'.rdl++w'.wr)).map aD))):=by
  refine bV (uU (ts:=w.wr) (al:=[]) (λk=>Vl.cl (aD k)) aD (λk=>decide (k∈w'.rdl++w'.wr)) (λ_=>rfl) (aLy rfl) (by unfold lim;omega) λk _=>⟨[.sh false (aD k),.sh false (bL w')],cY _,cQ (aI 0 rfl) (fI (o:=.Add) (aLw rfl) (aLx rfl) (xG rfl rfl (bR cP _) (bR cP _) (by
   rw[lM,lM]
   show(rdC w'.g++_).length+_<=lim
   unfold lim
   omega))) ?_,λ_=>aI 0 rfl⟩)
  rw[<-List.map_append]
  exact uV k _
 have k4:ex pg (call pg (n+32)) (τ (.sh false (bL w)) (.sh false (bL w')) (.own false ((w.wr.filter λk=>decide (k∈w'.rdl++w'.wr)).map aD))) (hdS (drp 3 f54.body))=.next (τ (.sh false (bL w)) (.sh false (bL w')) (.own false ((aBX w w').map aD))):=by
  have:=bV (i:=5) (fI (o:=.Add) (bI (P:=pg) (cl:=call pg (n+32)) (σ:=τ (.sh false (bL w)) (.sh false (bL w')) (.own false ((w.wr.filter λk=>decide (k∈w'.rdl++w'.wr)).map aD))) 5 rfl) (uU (k:=1) (caps:=[3]) (T:=.n 0) (c:=.cmp .In (.v 0) (.idx (.v 1) (.c (.int 0)))) (elt:=.v 0) (ts:=w'.wr) (al:=[]) (λk=>Vl.cl (aD k)) aD (λk=>decide (k∈w.rdl)) (λ_=>rfl) (aLy (i:=4) rfl) (by unfold lim;omega) λk _=>⟨[.sh false (aD k),.sh false (bL w)],cY _,cQ (aI 0 rfl) (aLw rfl) (uV k _),λ_=>aI 0 rfl⟩) (xG rfl rfl (bR cP _) (bR cP _) (by
   rw[lM,lM]
   unfold lim
   omega)))
  refine this.trans ?_
  rw[<-List.map_append]
  rfl
 have e5:=qJ (bI (P:=pg) (cl:=call pg (n+32)) (σ:=τ (.sh false (bL w)) (.sh false (bL w')) (.own false ((aBX w w').map aD))) 5 rfl) (dZ bB) (aIM (aBX w w'))
 refine aH (F:=f54) rfl rfl (v:=.cl (.bl (aprt h h' w w'))) (cs k1 (cs k2 (cs k3 (cs k4 (bD ?_)))))
 have:=aFx (qJ (aEl (aP (P:=pg) (cl:=call pg (n+32)) (σ:=τ (.sh false (bL w)) (.sh false (bL w')) (.own false ((aBX w w').map aD))) 1 rfl rfl)) (aEl (aP 2 rfl rfl)) (aEn h h')) e5
 refine this.trans ?_
 unfold aprt
 rw[aIL hb4 wo wo']
variable {bs:List (Str×Int)} {g:Cn} {hs:List (List (List Way))}
abbrev tk(t:Nat×Nat×Nat):D:=tkD t.1 t.2.1 t.2.2
def aFM(hs:List (List (List Way)))(t:Nat×Nat×Nat):Prop:=∃w,kI hs t.1 t.2.1 t.2.2 w
abbrev alF(bs:List (Str×Int))(g:Cn)(hs:List (List (List Way)))(ts:List (Nat×Nat×Nat))(s2 s3 s4:Sl):Sg:=[.sh true (aR bs g hs),.own false (ts.map tk),s2,s3,s4]
abbrev alA:Ss:=match hdS (drp 1 f55.body) with|.for _ _ b=>b|_=>.nil
abbrev alB:Ss:=match hdS alA with|.for _ _ b=>b|_=>.nil
abbrev alC:Ss:=match hdS alB with|.for _ _ b=>b|_=>.nil
theorem aFN(n:Nat)(o:gB bs.length hs):∃ts:List (Nat×Nat×Nat),(∀t∈ts,aFM hs t)/\ts.length<=100/\call pg (n+1) 55 [aR bs g hs]=.ok (.lst (ts.map tk),true,false):=by
 obtain⟨h2,h3⟩:=jM o
 obtain⟨σ',ef,ts,s2,s3,s4,t1,t2,rfl⟩:=cI (P:=pg) (cl:=call pg n) (σ:=alF bs g hs [] .dead .dead .dead) (t:=.n 2) (b:=alA) (λi σ=>∃ts s2 s3 s4,(∀t∈ts,aFM hs t)/\ts.length<=32*i/\σ=alF bs g hs ts s2 s3 s4) (bX (aEf (i:=0) (bs:=bs) (g:=g) (hs:=hs) rfl) rfl (by omega)) ⟨[],_,_,_,λ_ z=>absurd z List.not_mem_nil,Nat.le_refl _,rfl⟩ λi hi σ ⟨ts,s2,s3,s4,t1,t2,hσ⟩=>by
  have hi':i<hs.length:=by simpa using hi
  subst hσ
  obtain⟨hd,hhd⟩:∃hd,hs[i]? = some hd:=⟨hs[i],List.getElem?_eq_getElem hi'⟩
  have ho:=o.ok hd (mG hhd)
  have vh:∀ts s3 s4,ev pg (call pg n) (alF bs g hs ts (.sh false (aD i)) s3 s4) (.idx (.idx (.v 0) (.c (.int 2))) (.v 2))=.ok ⟨.lst (aX hd),false,true,[]⟩:=λts s3 s4=>bE (aBO rfl) (aI 2 rfl) (mH hhd)
  have lh:ev pg (call pg n) (alF bs g hs ts (.sh false (aD i)) s3 s4) (.bi .len (.cons (.idx (.idx (.v 0) (.c (.int 2))) (.v 2)) .nil))=.ok (.cl (.int hd.length)):=by
   have:=dU (vh ts s3 s4) rfl
   rw[lM] at this
   exact this
  obtain⟨σ2,e2,ts2,u3,u4,q1,q2,rfl⟩:=cI (P:=pg) (cl:=call pg n) (σ:=alF bs g hs ts (.sh false (aD i)) s3 s4) (t:=.n 3) (b:=alB) (λk σ=>∃ts s3 s4,(∀t∈ts,aFM hs t)/\ts.length<=32*i+4*k/\σ=alF bs g hs ts (.sh false (aD i)) s3 s4) (bX lh rfl (by have:=ho.few;omega)) ⟨ts,_,_,t1,t2,rfl⟩ λk hk σ ⟨ts,s3,s4,t1,t2,hσ⟩=>by
   have hk':k<hd.length:=by simpa using hk
   subst hσ
   obtain⟨ws,hws⟩:∃ws,hd[k]? = some ws:=⟨hd[k],List.getElem?_eq_getElem hk'⟩
   have ro:=ho.ok ws (mG hws)
   have lw:ev pg (call pg n) (alF bs g hs ts (.sh false (aD i)) (.sh false (aD k)) s4) (.bi .len (.cons (.idx (.idx (.idx (.v 0) (.c (.int 2))) (.v 2)) (.v 3)) .nil))=.ok (.cl (.int ws.length)):=by
    have:=dU (bE (vh ts (.sh false (aD k)) s4) (aI 3 rfl) (uP hws)) rfl
    rw[lM] at this
    exact this
   obtain⟨σ3,e3,ts3,v4,r1,r2,rfl⟩:=cI (P:=pg) (cl:=call pg n) (σ:=alF bs g hs ts (.sh false (aD i)) (.sh false (aD k)) s4) (t:=.n 4) (b:=alC) (λj σ=>∃ts s4,(∀t∈ts,aFM hs t)/\ts.length<=32*i+4*k+j/\σ=alF bs g hs ts (.sh false (aD i)) (.sh false (aD k)) s4) (bX lw rfl (by have:=ro.few;omega)) ⟨ts,_,t1,t2,rfl⟩ λj hj σ ⟨ts,s4,t1,t2,hσ⟩=>by
    have hj':j<ws.length:=by simpa using hj
    subst hσ
    have hf:=ho.few
    have rf:=ro.few
    refine⟨alF bs g hs ts (.sh false (aD i)) (.sh false (aD k)) (.sh false (aD j)),_,?_,cC (fJ (uI (aI 2 rfl) (aI 3 rfl) (aI 4 rfl)) rfl (by rw[lM];unfold lim;omega) rfl rfl),ts++[(i,k,j)],.sh false (aD j),hZ t1 ⟨ws[j],hd,ws,hhd,hws,List.getElem?_eq_getElem hj'⟩,by rw[lA,List.length_singleton];omega,?_⟩
    . rw[List.getElem_map,List.getElem_range,cY];rfl
    . show [_,_,_,_,_]=[_,_,_,_,_]
      rw[List.map_append]
      rfl
   rw[lM,List.length_range] at r2
   refine⟨alF bs g hs ts (.sh false (aD i)) (.sh false (aD k)) s4,_,?_,cC e3,ts3,_,_,r1,by have:=ro.few;omega,rfl⟩
   rw[List.getElem_map,List.getElem_range,cY];rfl
  rw[lM,List.length_range] at q2
  refine⟨alF bs g hs ts (.sh false (aD i)) s3 s4,_,?_,cC e2,ts2,_,_,_,q1,by have:=ho.few;omega,rfl⟩
  rw[List.getElem_map,List.getElem_range,cY];rfl
 rw[lM,List.length_range] at t2
 exact⟨ts,t1,by omega,aH (F:=f55) rfl rfl (v:=⟨.lst (ts.map tk),true,false,[]⟩) (cs (σ':=alF bs g hs [] .dead .dead .dead) rfl (cs ef (nY rfl)))⟩
abbrev tr3(t:Int×Int×Int):D:=.tup [.int t.1,.int t.2.1,.int t.2.2]
theorem aIN(n:Nat)(ts:List (Int×Int×Int)):okE (n+3) (.lst (ts.map tr3))=true:=by
 show(ts.map tr3).all (okE (n+2))=true
 rw[List.all_map,List.all_eq_true]
 intro t _
 rfl
theorem aEq(n:Nat)(ts:List (Int×Int×Int)):call pg (n+1) 56 [.lst (ts.map tr3),.lst (ts.map tr3)]=.ok (.bl true,false,false):=by
 let τ:Sl->Sg:=λs=>[.sh true (.lst (ts.map tr3)),.sh true (.lst (ts.map tr3)),s]
 have v0:ev pg (call pg n) (τ .dead) (.v 0)=.ok ⟨.lst (ts.map tr3),false,true,[]⟩:=aK 0 rfl
 have k1:ex pg (call pg n) (τ .dead) (hdS f56.body)=.next (τ .dead):=cA (fD (dQ (eC v0 rfl)) (cQ v0 (aK 1 rfl) (aGn (qN _ _ (aIN 117 ts)))))
 have hw:walk pg (call pg n) (τ .dead) (.seq (.v 0))=.ok (ts.map (λt=>Vl.cl (tr3 t)),[]):=by
  rw[bM,v0,aA]
  show R.ok (items _ (ts.map tr3),[])=_
  rw[cF λ_=>rfl]
 obtain⟨σ',ef,s2,rfl⟩:=cI (P:=pg) (cl:=call pg n) (σ:=τ .dead) (t:=.n 2) (b:=match hdS (drp 1 f56.body) with|.for _ _ b=>b|_=>.nil) (λi σ=>∃s,σ=τ s) hw ⟨_,rfl⟩ λi hi σ ⟨s,hσ⟩=>by
  have hi':i<ts.length:=by simpa using hi
  subst hσ
  have v2:ev pg (call pg n) (τ (.sh false (tr3 ts[i]))) (.v 2)=.ok (.cl (tr3 ts[i])):=aI 2 rfl
  have hc:ev pg (call pg n) (τ (.sh false (tr3 ts[i]))) (.comp 1 [] (.n 0) (.seq (.v 2)) (.cons (.orr (.nt (.isi (.v 0) [.tInt])) (.isi (.v 0) [.tBool])) .nil) (.v 0))=.ok ⟨.lst [],true,false,[]⟩:=by
   have:=uU (P:=pg) (cl:=call pg n) (σ:=τ (.sh false (tr3 ts[i]))) (k:=1) (caps:=[]) (T:=.n 0) (it:=.seq (.v 2)) (c:=.orr (.nt (.isi (.v 0) [.tInt])) (.isi (.v 0) [.tBool])) (elt:=.v 0) (ts:=[ts[i].1,ts[i].2.1,ts[i].2.2]) (al:=[]) (λk=>Vl.cl (.int k)) (λk=>D.int k) (λ_=>false) (λ_=>rfl) (by rw[bM,v2,aA];rfl) (by unfold lim;simp) λk _=>⟨[.sh false (.int k)],cY _,fD (dQ (k:=true) (eC (aI 0 rfl) rfl)) (eC (aI 0 rfl) rfl),λh=>absurd h bN⟩
   exact this
  refine⟨τ (.sh false (tr3 ts[i])),_,?_,cs (cA (dQ (eC v2 rfl))) (cC (cA (cQ (dU hc rfl) (aC _) rfl))),_,rfl⟩
  rw[List.getElem_map,cY];rfl
 exact aH (F:=f56) rfl rfl (v:=.cl (.bl true)) (cs k1 (cs ef (bD (aC _))))
theorem aFO{P:Pg}{cl:Caller}{σ:Sg}{f:Nat}{a b:E}{x y:Vl}{k:Bool}(h1:ev P cl σ a=.ok x)(h2:ev P cl σ b=.ok y)(hc:cl f [x.d,y.d]=.ok (.bl k,false,false)):tst P cl σ (.call f (.cons a (.cons b .nil)))=.ok k:=by
 rw[gR,aG,h1,aA,aG,h2,aA,bG]
 show(cl f [x.d,y.d] >>= λr=>fS (gQ [x,y] r))=_
 rw[hc];rfl
theorem aEr(i:Nat){ds:List D}(h:noLs ds=true):biD .list [⟨.lst ds,false,false,[i]⟩]=.ok ⟨.lst ds,true,false,[]⟩:=by
 show R.ok (Vl.mk (.lst ds) true (false&&!noLs ds) (if noLs ds=true then [] else [i]))=_
 rw[h];rfl
def aNd(ps:List (Nat×Nat))(ss:List St)(s0:St)(i:Nat):Int×Int×Int:=((ps.getD i (0,0)).1,(ss.getD i s0).2.getD (ps.getD i (0,0)).1 0,(ps.getD i (0,0)).2)
theorem aBZ(n:Nat)(ps:List (Nat×Nat)):okE (n+3) (.lst (ps.map aN))=true:=by
 show(ps.map aN).all (okE (n+2))=true
 rw[List.all_map,List.all_eq_true]
 intro t _
 rfl
theorem pure(ns:List Int)(hn:ns.length<=63):∃fr pa,call pg 60 57 [.lst (ns.map D.int)]=.ok (.bl true,fr,pa):=by
 refine⟨false,false,aH (F:=f57) rfl rfl (v:=.cl (.bl true)) ?_⟩
 show exs pg (call pg 59) [.sh true (.lst (ns.map D.int)),.dead,.dead,.dead,.dead,.dead,.dead,.dead,.dead,.dead,.dead,.dead,.dead,.dead,.dead] _=_
 obtain⟨bs,hb,p,hs,o,c48⟩:=zS 17 hn
 obtain⟨st,hst,hg,c49⟩:=aBQ (hs:=hs) 26 hb hn p
 obtain⟨l3,l4⟩:=fO hb
 obtain⟨gw,gz⟩:=xN hb p
 obtain⟨q,hq,hq17⟩:=aBG ((nA ((ns++[0]).getD 0 0) 11).getD 10 0) (n:=17) (by decide)
 obtain⟨ps,ss,W,pl,c51⟩:=aBT (g:=bW p) 24 hb o hn hst (a:=4) (m:=4+q) (by decide) (by omega)
 have hp:ps.length<=100:=by omega
 have c36:=sL (g:=bW p) 25 hb o gw gz hst hg W hp
 have c38:=zT (g:=bW p) 24 hb o gw gz hst hg W hp
 obtain⟨ts,ht,htl,c55⟩:=aFN (bs:=bs) (g:=bW p) 58 o
 let s0:St:=(st,cN hs)
 let H:D:=aR bs (bW p) hs
 let L:Sl->Sl->Sl->Sl->Sl->Sl->Sl->Sl->Sl->Sl->Sl->Sl->Sg:=λs3 s4 s5 s6 s7 s8 s9 s10 s11 s12 s13 s14=>[.sh true (.lst (ns.map D.int)),.sh false H,.sh false (aM st),s3,s4,s5,s6,s7,s8,s9,s10,s11,s12,s13,s14]
 let S:Sl:=.own false (ps.map aN)
 let A:Sl:=.own false (ss.map aO)
 let Tr:List D:=(List.range ps.length).map (qR ps ss s0)
 have hTr:Tr=((List.range ps.length).map (aNd ps ss s0)).map tr3:=by rw[List.map_map];rfl
 have v1:∀s3 s4 s5 s6 s7 s8 s9 s10 s11 s12 s13 s14,ev pg (call pg 59) (L s3 s4 s5 s6 s7 s8 s9 s10 s11 s12 s13 s14) (.v 1)=.ok (.cl H):=λ_ _ _ _ _ _ _ _ _ _ _ _=>aI 1 rfl
 have v2:∀s3 s4 s5 s6 s7 s8 s9 s10 s11 s12 s13 s14,ev pg (call pg 59) (L s3 s4 s5 s6 s7 s8 s9 s10 s11 s12 s13 s14) (.v 2)=.ok (.cl (aM st)):=λ_ _ _ _ _ _ _ _ _ _ _ _=>aI 2 rfl
 have v3:∀s4 s5 s6 s7 s8 s9 s10 s11 s12 s13 s14,ev pg (call pg 59) (L S s4 s5 s6 s7 s8 s9 s10 s11 s12 s13 s14) (.v 3)=.ok ⟨.lst (ps.map aN),false,false,[3]⟩:=λ_ _ _ _ _ _ _ _ _ _ _=>bI 3 rfl
 have k1:ex pg (call pg 59) [.sh true (.lst (ns.map D.int)),.dead,.dead,.dead,.dead,.dead,.dead,.dead,.dead,.dead,.dead,.dead,.dead,.dead,.dead] (hdS f57.body)=.next [.sh true (.lst (ns.map D.int)),.sh false H,.dead,.dead,.dead,.dead,.dead,.dead,.dead,.dead,.dead,.dead,.dead,.dead,.dead]:=aZ (cR (aK 0 rfl) c48)
 have k2:ex pg (call pg 59) [.sh true (.lst (ns.map D.int)),.sh false H,.dead,.dead,.dead,.dead,.dead,.dead,.dead,.dead,.dead,.dead,.dead,.dead,.dead] (hdS (drp 1 f57.body))=.next (L .dead .dead .dead .dead .dead .dead .dead .dead .dead .dead .dead .dead):=aZ (dR (aK 0 rfl) (aI 1 rfl) c49)
 have k3:ex pg (call pg 59) (L .dead .dead .dead .dead .dead .dead .dead .dead .dead .dead .dead .dead) (hdS (drp 2 f57.body))=.next (L S .dead .dead .dead .dead .dead .dead .dead .dead .dead .dead .dead):=by
  have e43:ev pg (call pg 59) (L .dead .dead .dead .dead .dead .dead .dead .dead .dead .dead .dead .dead) (.call 43 (.cons (.idx (.op .Add (.v 0) (.lst (.cons (.c (.int 0)) .nil))) (.c (.int 0))) (.cons (.c (.int 11)) .nil)))=.ok ⟨.lst ((nA ((ns++[0]).getD 0 0) 11).map D.int),true,false,[]⟩:=dO (mF (ms:=[0]) (k:=0) hn (by decide) rfl (aF (aC _) bB) (aC _) (by simp)) (aC (.int 11)) (fP (P:=pg) (f:=43) rfl 58 _ (m:=11) (by decide))
  have em:=eD (aC (.int 4)) (eW (fE (k:=10) e43 rfl (aC _) (by rw[gU];decide)) (aC (.int 17)) (by decide))
  rw[show(17:Int)=((17:Nat):Int) from rfl,hq,show(4:Int)+(q:Int)=((4+q:Nat):Int) by omega] at em
  exact bV (xK (aK 0 rfl) (v1 _ _ _ _ _ _ _ _ _ _ _ _) (v2 _ _ _ _ _ _ _ _ _ _ _ _) (aC (.int 4)) em c51)
 have k4:ex pg (call pg 59) (L S .dead .dead .dead .dead .dead .dead .dead .dead .dead .dead .dead) (hdS (drp 3 f57.body))=.next (L S A .dead .dead .dead .dead .dead .dead .dead .dead .dead .dead):=bV (hX (v1 _ _ _ _ _ _ _ _ _ _ _ _) (v2 _ _ _ _ _ _ _ _ _ _ _ _) (v3 _ _ _ _ _ _ _ _ _ _ _) c36)
 have lw:ev pg (call pg 59) (L S A (.own false []) .dead .dead .dead .dead .dead .dead .dead .dead .dead) (.bi .len (.cons (.v 3) .nil))=.ok (.cl (.int ps.length)):=by
  have:=dU (v3 A (.own false []) .dead .dead .dead .dead .dead .dead .dead .dead .dead) rfl
  rw[lM] at this
  exact this
 obtain⟨σ6,e6,s6,s7,s8,rfl⟩:=cI (P:=pg) (cl:=call pg 59) (σ:=L S A (.own false []) .dead .dead .dead .dead .dead .dead .dead .dead .dead) (t:=.n 6) (b:=match hdS (drp 5 f57.body) with|.for _ _ b=>b|_=>.nil) (λi σ=>∃s6 s7 s8,σ=L S A (.own false ((List.range i).map (qR ps ss s0))) s6 s7 s8 .dead .dead .dead .dead .dead .dead) (bX lw rfl (by omega)) ⟨_,_,_,rfl⟩ λi hi σ ⟨s6,s7,s8,hσ⟩=>by
  have hi':i<ps.length:=by simpa using hi
  subst hσ
  have hpi:=W.hd (ps.getD i (0,0)) (mG (eE (0,0) hi'))
  let τ:Sl->Sl->Sl->Sg:=λs5 s7 s8=>L S A s5 (.sh false (aD i)) s7 s8 .dead .dead .dead .dead .dead .dead
  have m1:ex pg (call pg 59) (τ (.own false ((List.range i).map (qR ps ss s0))) s7 s8) (.set (.t [7,8]) (.idx (.v 3) (.v 6)))=.next (τ (.own false ((List.range i).map (qR ps ss s0))) (.sh false (aD (ps.getD i (0,0)).1)) (.sh false (aD (ps.getD i (0,0)).2))):=aIy (xF (f:=aN) (v3 _ _ _ _ _ _ _ _ _ _ _) rfl (aI 6 rfl) (eE (0,0) hi') rfl) (qM _ rfl rfl)
  have v4:ev pg (call pg 59) (τ (.own false ((List.range i).map (qR ps ss s0))) (.sh false (aD (ps.getD i (0,0)).1)) (.sh false (aD (ps.getD i (0,0)).2))) (.idx (.v 4) (.v 6))=.ok (.cl (aO (ss.getD i s0))):=xF (f:=aO) (bI 4 rfl) rfl (aI 6 rfl) (eE s0 (by rw[W.len];omega)) (iB _)
  refine⟨τ (.own false ((List.range i).map (qR ps ss s0))) s7 s8,τ (.own false ((List.range (i+1)).map (qR ps ss s0))) (.sh false (aD (ps.getD i (0,0)).1)) (.sh false (aD (ps.getD i (0,0)).2)),?_,cs m1 (cC (fJ (uI (aI 7 rfl) (bE (bE v4 (aC (.int 1)) (gA _ _ _ (aS _))) (aI 7 rfl) (lU (by rw[(W.ok i).pl];exact hpi))) (aI 8 rfl)) rfl (by rw[lM,List.length_range];unfold lim;omega) rfl ?_)),_,_,_,rfl⟩
  . rw[List.getElem_map,List.getElem_range,cY];rfl
  . rw[List.range_succ,List.map_append];rfl
 rw[lM,List.length_range] at e6
 let B:Sl->Sl->Sl->Sl->Sl->Sl->Sg:=λs9 s10 s11 s12 s13 s14=>L S A (.own false Tr) s6 s7 s8 s9 s10 s11 s12 s13 s14
 let C:Sl:=.own false (ps.map aN)
 have k7:ex pg (call pg 59) (B .dead .dead .dead .dead .dead .dead) (hdS (drp 6 f57.body))=.next (B C .dead .dead .dead .dead .dead):=bV (eS (v3 _ _ _ _ _ _ _ _ _ _ _) (aEr 3 (bR (λ_=>rfl) _)))
 have v9:∀s10 s11 s12 s13 s14,ev pg (call pg 59) (B C s10 s11 s12 s13 s14) (.v 9)=.ok ⟨.lst (ps.map aN),false,false,[9]⟩:=λ_ _ _ _ _=>bI 9 rfl
 have v5:∀s9 s10 s11 s12 s13 s14,ev pg (call pg 59) (B s9 s10 s11 s12 s13 s14) (.v 5)=.ok ⟨.lst Tr,false,false,[5]⟩:=λ_ _ _ _ _ _=>bI 5 rfl
 have k8:ex pg (call pg 59) (B C .dead .dead .dead .dead .dead) (hdS (drp 7 f57.body))=.next (B C (.own false Tr) .dead .dead .dead .dead):=bV (hX (v1 _ _ _ _ _ _ _ _ _ _ _ _) (v2 _ _ _ _ _ _ _ _ _ _ _ _) (v9 _ _ _ _ _) c38)
 have tl:call pg 59 56 [.lst Tr,.lst Tr]=.ok (.bl true,false,false):=by rw[hTr];exact aEq 58 _
 have k9:ex pg (call pg 59) (B C (.own false Tr) .dead .dead .dead .dead) (hdS (drp 8 f57.body))=.next (B C (.own false Tr) .dead .dead .dead .dead):=cA (fD (dQ (k:=true) (aFO (bI 10 rfl) (v5 _ _ _ _ _ _) tl)) (cQ (v9 _ _ _ _ _) (v3 _ _ _ _ _ _ _ _ _ _ _) (aGn (qN _ _ (aBZ 117 ps)))))
 have k10:ex pg (call pg 59) (B C (.own false Tr) .dead .dead .dead .dead) (hdS (drp 9 f57.body))=.next (B C (.own false (Tr++[.non])) .dead .dead .dead .dead):=fJ (aC .non) rfl (by rw[lM,List.length_range];unfold lim;omega) rfl rfl
 let F:Sl:=.own false (Tr++[.non])
 have k11:ex pg (call pg 59) (B C F .dead .dead .dead .dead) (hdS (drp 10 f57.body))=.next (B C F (.own false (ts.map tk)) .dead .dead .dead):=bV (cR (v1 _ _ _ _ _ _ _ _ _ _ _ _) c55)
 let G:Sl:=.sh false (.lst (ts.map tk))
 have hi2:∀v:Vl,items v (ts.map tk)=ts.map λt=>Vl.cl (tk t):=λv=>cF (λ_=>rfl) ts
 obtain⟨σ12,e12,s12,s13,s14,rfl⟩:=cI (P:=pg) (cl:=call pg 59) (σ:=B C F (.own false (ts.map tk)) .dead .dead .dead) (t:=.n 12) (b:=match hdS (drp 11 f57.body) with|.for _ _ b=>b|_=>.nil) (xs:=ts.map λt=>Vl.cl (tk t)) (al:=[11]) (λi σ=>∃s12 s13 s14,σ=B C F G s12 s13 s14) (by
  rw[bM,bI 11 (pa:=false) (ds:=ts.map tk) rfl,aA]
  show R.ok (items _ (ts.map tk),[11])=_
  rw[hi2]) ⟨_,_,_,rfl⟩ λi hi σ ⟨s12,s13,s14,hσ⟩=>by
  have hi':i<ts.length:=by simpa using hi
  subst hσ
  obtain⟨w,hw⟩:=ht _ (List.getElem_mem hi')
  obtain⟨σ13,e13,t13,t14,rfl⟩:=cI (P:=pg) (cl:=call pg 59) (σ:=B C F G (.sh false (tk ts[i])) s13 s14) (t:=.n 13) (b:=match hdS (match hdS (drp 11 f57.body) with|.for _ _ b=>b|_=>.nil) with|.for _ _ b=>b|_=>.nil) (xs:=ts.map λt=>Vl.cl (tk t)) (al:=[]) (λj σ=>∃s13 s14,σ=B C F G (.sh false (tk ts[i])) s13 s14) (by
   rw[bM,aI 11 (d:=.lst (ts.map tk)) rfl,aA]
   show R.ok (items _ (ts.map tk),[])=_
   rw[hi2]) ⟨_,_,rfl⟩ λj hj σ ⟨s13,s14,hσ⟩=>by
   have hj':j<ts.length:=by simpa using hj
   subst hσ
   obtain⟨w',hw'⟩:=ht _ (List.getElem_mem hj')
   have ca:=aEo (g:=bW p) 24 l4 o hw hw'
   have cb:=aBY (g:=bW p) 26 l4 o hw hw'
   generalize aprt ts[i].1 ts[j].1 w w'=b at ca cb
   have u:∀s14,ev pg (call pg 59) (B C F G (.sh false (tk ts[i])) (.sh false (tk ts[j])) s14) (.v 12)=.ok (.cl (tk ts[i])):=λ_=>aI 12 rfl
   have u':∀s14,ev pg (call pg 59) (B C F G (.sh false (tk ts[i])) (.sh false (tk ts[j])) s14) (.v 13)=.ok (.cl (tk ts[j])):=λ_=>aI 13 rfl
   have u4:ev pg (call pg 59) (B C F G (.sh false (tk ts[i])) (.sh false (tk ts[j])) (.sh false (.bl b))) (.v 14)=.ok (.cl (.bl b)):=aI 14 rfl
   refine⟨B C F G (.sh false (tk ts[i])) (.sh false (tk ts[j])) s14,B C F G (.sh false (tk ts[i])) (.sh false (tk ts[j])) (.sh false (.bl b)),?_,cs (aZ (bO (v1 _ _ _ _ _ _ _ _ _ _ _ _) (u _) (u' _) ca)) (cs (cA (dQ (k:=true) (eC u4 rfl))) (cC (cA (cQ u4 (bO (v1 _ _ _ _ _ _ _ _ _ _ _ _) (u _) (u' _) cb) (by rw[qH,dE,aIt,beq_self_eq_true];rfl))))),_,_,rfl⟩
   rw[List.getElem_map,cY];rfl
  refine⟨B C F G (.sh false (tk ts[i])) s13 s14,_,?_,cC e13,_,_,_,rfl⟩
  rw[List.getElem_map,cY];rfl
 have k13:ev pg (call pg 59) (B C F G s12 s13 s14) (.call 56 (.cons (.call 38 (.cons (.v 1) (.cons (.v 2) (.cons (.v 9) .nil)))) (.cons (.v 5) .nil)))=.ok (.cl (.bl true)):=dR (hX (v1 _ _ _ _ _ _ _ _ _ _ _ _) (v2 _ _ _ _ _ _ _ _ _ _ _ _) (v9 _ _ _ _ _) c38) (v5 _ _ _ _ _ _) tl
 exact cs k1 (cs k2 (cs k3 (cs k4 (cs (σ':=L S A (.own false []) .dead .dead .dead .dead .dead .dead .dead .dead .dead) rfl (cs e6 (cs k7 (cs k8 (cs k9 (cs k10 (cs k11 (cs e12 (bD k13))))))))))))
end K65
end
noncomputable section
set_option maxRecDepth 100000
set_option maxHeartbeats 0
namespace K65
open PySem PySem.W L2 Hp Hh
def ix:List (Nat×List Str):=(34,["one", "ahead", "behind", "word", "left", "right"]) ::
 (35,["cond", "ahead", "behind", "word", "left", "right"]) ::
 (51,["boxes", "way", "stand", "held", "box", "one", "amount"]) ::
 (18,["rows", "boxes"]) ::
 (19,["row"]) ::
 (20,["thing"]) ::
 (21,["boxes", "count", "name", "top"]) ::
 (22,["boxes", "found", "name", "top", "longer", "begun"]) ::
 (23,["boxes", "thing"]) ::
 (36,["boxes", "cond"]) ::
 (37,["one"]) ::
 (38,["one", "found", "inner"]) ::
 (53,["way", "found", "box", "one"]) ::
 (54,["way"]) ::
 (10,["thing"]) ::
 (11,["thing", "least", "most"]) ::
 (29,["boxes", "thing", "plain"]) ::
 (30,["boxes", "thing", "plain"]) ::
 (31,["boxes", "kind", "thing", "plain", "seen", "form", "due", "inner"]) ::
 (32,["kind", "thing", "plain", "word", "form"]) ::
 (33,["boxes", "due", "thing", "most"]) ::
 (45,["boxes", "thing"]) ::
 (46,["boxes", "thing", "end"]) ::
 (47,["boxes", "thing", "end"]) ::
 (48,["boxes", "thing"]) ::
 (49,["boxes", "thing", "least", "put"]) ::
 (50,["boxes", "thing", "least"]) ::
 (61,["boxes", "begin", "hands", "promises", "notes", "own_boxes", "own_begin", "own_hands", "own_promises", "own_notes"]) ::
 (52,["hand", "place"]) ::
 (62,["boxes", "thing", "plain"]) ::
 (63,["boxes", "thing", "count", "plain"]) ::
 (64,["boxes", "thing"]) ::
 (65,["boxes", "thing", "hands"]) ::
 (66,["hand"]) ::
 (67,["boxes", "hands", "count", "hand"]) ::
 (69,["house", "state", "step", "hand", "stand", "places", "row", "way", "further"]) ::
 (70,["house", "start", "steps", "state", "states", "number", "step"]) ::
 (71,["house", "start"]) ::
 (73,["house", "start", "steps", "states"]) ::
 (74,["house", "one", "other"]) ::
 (75,["house", "track", "way"]) ::
 (76,["one", "other"]) ::
 (77,["one", "other"]) ::
 (79,["_law_cell", "_law_many", "_law_found", "_law_number", "_law_k"]) ::
 (80,["_law_x", "_law_hand_here", "_law_shape", "_law_count"]) ::
 (81,["_law_xs", "_law_boxes", "_law_zone_here", "_law_box", "_law_number", "_law_found", "_law_other", "_law_some", "_law_more"]) ::
 (82,["_law_xs", "_law_boxes", "_law_zone_here", "_law_puts_here", "_law_k", "_law_box", "_law_top", "_law_other", "_law_some"]) ::
 (83,["_law_cell", "_law_boxes", "_law_hand_here", "_law_rows", "_law_shape", "_law_xs", "_law_zone_here", "_law_found", "_law_k", "_law_row", "_law_j", "_law_ys", "_law_place", "_law_guard_here"]) ::
 (84,["_law_script", "_law_xs", "_law_boxes", "_law_hands", "_law_hand_here", "_law_rows", "_law_cell", "_law_begin", "_law_notes"]) ::
 (85,["_law_script", "_law_house_here", "_law_some"]) ::
 (86,["_law_house_here", "_law_state", "_law_found", "_law_hand_here", "_law_way"]) ::
 (87,["_law_script", "_law_house_here", "_law_start_here", "_law_at", "_law_many", "_law_state", "_law_steps_here", "_law_k", "_law_goers_here", "_law_number", "_law_step"]) ::
 (88,["_law_part", "_law_found", "_law_one"]) ::
 (89,["_law_house_here", "_law_track", "_law_way", "_law_seen", "_law_box", "_law_one"]) ::
 (90,["_law_house_here", "_law_one", "_law_other", "_law_first", "_law_second", "_law_met"]) ::
 (91,["_law_house_here", "_law_found", "_law_hand_here", "_law_place", "_law_way"]) ::
 (92,["_law_found", "_law_due", "_law_track"]) ::
 (93,["_law_script", "_law_house_here", "_law_start_here", "_law_steps_here", "_law_states", "_law_due", "_law_k", "_law_hand_here", "_law_way", "_law_handed", "_law_found", "_law_some", "_law_one", "_law_other", "_law_told_here"])::[]
def sn:Sn:=⟨[("MOST_BOXES",(.int 5)),("MOST_LETTERS",(.int 8)),("MOST_TOP",(.int 7)),("MOST_STANDS",(.int 24)),("LETTERS",(.str "abcdefghijklmnopqrstuvwxyz")),("MOST_PARTS",(.int 40)),("MOST_NUMBER",(.int 99)),("MOST_ROWS",(.int 8)),("MOST_WAYS",(.int 4)),("GUARD",(.int 0)),("PUTS",(.int 1)),("NEXT",(.int 2)),("MOST_HANDS",(.int 3)),("MOST_STATES",(.int 1000)),("BOXES",(.int 0)),("BEGIN",(.int 1)),("HANDS",(.int 2))],[("SUM_FORMS",[("number",["number"]),("box",["box"]),("after",["box"]),("plus",["sum", "sum"]),("minus",["sum", "sum"])]),("COND_FORMS",[("yes",[]),("is",["sum", "sum"]),("less",["sum", "sum"]),("not",["cond"]),("both",["cond", "cond"]),("either",["cond", "cond"])])]⟩
abbrev pw:=PySem.Challenge.pw_handpromise_k65_tracks_apart
theorem chk:jE ⟨[],[],(ix.map (nW pw)).map (·.x),sn.cns,[],true,sn.tbs.map (·.1)⟩ pg.fns (ix.map (nW pw))=true:=by decide +kernel
theorem tw0:(pw.main.body.length != 0)=true:=by k_qdec
theorem lft:LeftO pw (sG pw) (tX pw) (λ_=>true) (λs=>jW pw sn s.heap) (λw=>mY pw sn w) 100000:=aIh (by kernel_rfl) rfl (λ_=>by kernel_rfl) λw os=>byRow2 "special-get-raises" (P:=λw=>aKS pw (sG pw) (tX pw) (λs=>jW pw sn s.heap) 100000 w os=some (true,openGood (sG pw) (tX pw),mY pw sn w)) (λw=>by
 have _:=tw0;unfold pw;rw[PySem.W.Fast.te10826374293801187114];kernel_rfl) (λw=>by
 have _:=tw0;unfold pw;rw[PySem.W.Fast.te10826374293801187114];kernel_rfl) w
end K65
end
noncomputable section
open PySem PySem.W PyProof.Rows Hh
set_option maxRecDepth 100000 in
set_option maxHeartbeats 0 in
theorem PySem.Challenge.cw_handpromise_k65_tracks_apart_holds : PySem.Challenge.rw_handpromise_k65_tracks_apart.Holds := by
 w_on; o_law; rename_i said
 refine aIm (l := PySem.Challenge.rw_handpromise_k65_tracks_apart) (k := 59) (f := 57) (x := "_law_script") (sl := ["_law_house_here", "_law_start_here", "_law_steps_here", "_law_states", "_law_due", "_law_k", "_law_hand_here", "_law_way", "_law_handed", "_law_found", "_law_some", "_law_one", "_law_other", "_law_told_here"]) said K65.lft (by kernel_rfl) (by kernel_rfl) rfl rfl (by decide +kernel) ⟨rfl, rfl, rfl, rfl, rfl, by decide +kernel⟩ ?hw rfl rfl (by decide +kernel) (by decide +kernel) K65.chk rfl (by decide +kernel) ⟨rfl, rfl, by decide, by decide⟩ (by kernel_rfl) rfl K65.pure
 w_witness2
end
