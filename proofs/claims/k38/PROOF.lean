import PyProof.Rows.All
import Wide.All
import OpenK.AllK
import Wide.FinOn
import Lean
import PyProof.EqAt
import PyProof.EqKinds
import PyProof.TupleCall
import PySem.Challenge.RW_rootspan_k38_whole_power_sums
set_option Elab.async false
set_option linter.all false
set_option maxRecDepth 100000
local macro_rules | `(tactic|omega)=>`(tactic|first |lia |omega (splitDisjunctions:=true))
noncomputable section
namespace Al
def wE:=@List.length_map
def wF:=@List.length_append
def wG:=@Nat.le_refl
def wH:=@List.map_append
def wI:=@List.length_cons
def wJ:=@List.mem_map
def wK:=@List.length_pos_iff
def wL:=@Nat.zero_le
def wM:=@Int.pow_succ
def wN:=@List.length_range
def wO:=@List.map_map
def wP:=@List.mem_cons_of_mem
def wQ:=@List.mem_append
def wR:=@List.map_congr_left
def wS:=@List.nil_append
def wT:=@List.mem_cons_self
def wU:=@List.length_take
def wV:=@List.size_toArray
def wW:=@List.length_reverse
def wX:=@Nat.lt_of_lt_of_le
def wY:=@Nat.ne_of_lt
def wZ:=@List.mem_cons
def w4:=@List.append_assoc
def w5:=@List.mem_singleton
def w6:=@List.map_cons
def w8:=@List.length_replicate
def w9:=@Int.mul_zero
def xa:=@List.mem_range
def xb:=@Nat.le_trans
def xc:=@List.cons_append
def xf:=@Int.mul_ne_zero
def xg:=@Int.one_mul
def xh:=@Int.pow_zero
def xi:=@List.mem_append_right
def xj:=@List.range_succ
def xk:=@Int.add_zero
def xl:=@List.length_eq_zero_iff
def xm:=@List.getElem_map
def xn:=@Nat.lt_irrefl
def xo:=@List.take_add_one
def xp:=@List.length_nil
def xq:=@Nat.le_of_lt
def xr:=@Nat.le_of_not_lt
def xt:=@Int.zero_add
def xu:=@List.mem_reverse
def xv:=@List.length_drop
def xw:=@List.take_length
def xx:=@Nat.sub_self
def xy:=@Nat.sub_zero
def xz:=@List.replicate_succ
def xA:=@List.lookup_cons
def xB:=@Int.mul_comm
def xC:=@List.getElem_mem
def xD:=@Bool.false_ne_true
def xE:=@Int.mul_one
def xF:=@List.map_nil
def xG:=@List.length_singleton
def xH:=@Nat.lt_succ_self
def xI:=@Int.ofNat_dvd_left
def xJ:=@Nat.le_of_eq
def xK:=@List.not_mem_nil
def xL:=@Nat.mul_le_mul
def xM:=@Int.natCast_mul
def xN:=@Nat.dvd_trans
def xO:=@Nat.gcd_dvd_left
def xP:=@List.reverse_cons
def xQ:=@List.flatten_cons
def xR:=@List.reverse_reverse
def xS:=@Int.pow_ne_zero
def xT:=@Nat.min_eq_left
def xU:=@Nat.add_sub_cancel
def xV:=@Int.natAbs_natCast
def xW:=@List.take_of_length_le
def xX:=@List.mem_append_left
def xY:=@Nat.lt_of_le_of_lt
def xZ:=@Int.eq_of_mul_eq_mul_left
def x0:=@List.mem_iff_getElem
def x3:=@List.mem_of_mem_drop
def x4:=@List.getElem_range
def x5:=@Nat.mul_le_mul_left
end Al
open Al
namespace L2
open PySem PySem.Spec PyProof.Rows
abbrev Key:=Sum Int Str
noncomputable def my:Key->Value->Bool
 |.inl k,v=>Value.isInt k v
 |.inr x,v=>Value.isStrOf x v
noncomputable def sR(w:World):Key->Int
 |.inl k=>hashInt k
 |.inr x=>hashStr w x
theorem cD:∀{k:Key} {v:Value},my k v=true->(∃i t,k=Sum.inl i/\v=Value.int i t)\/(∃x t,k=Sum.inr x/\v=Value.str x t)
 |.inl i,v,h=>by obtain⟨t,e⟩:=Value.isInt_shape (k:=i) (v:=v) h;exact .inl ⟨i,t,rfl,e⟩
 |.inr x,v,h=>by obtain⟨t,e⟩:=Value.isStrOf_shape (x:=x) (v:=v) h;exact .inr ⟨x,t,rfl,e⟩
theorem sQ(a b:Int):decide ((Sum.inl a:Key)=Sum.inl b)=(a == b):=by
 by_cases e:a=b
 ·subst e;simp
 ·have h:¬(Sum.inl a:Key)=Sum.inl b:=λq=>e (Sum.inl.inj q)
  rw[decide_eq_false h];exact(beq_eq_false_iff_ne.mpr e).symm
theorem sM(a b:Str):decide ((Sum.inr a:Key)=Sum.inr b)=decide (a=b):=by
 by_cases e:a=b
 ·subst e;simp
 ·have h:¬(Sum.inr a:Key)=Sum.inr b:=λq=>e (Sum.inr.inj q)
  rw[decide_eq_false h,decide_eq_false e]
theorem sP(a:Int)(b:Str):decide ((Sum.inl a:Key)=Sum.inr b)=false:=decide_eq_false (λq=>nomatch q)
theorem sO(a:Str)(b:Int):decide ((Sum.inr a:Key)=Sum.inl b)=false:=decide_eq_false (λq=>nomatch q)
noncomputable def lX(prog:Program)(w:World):PySem.KeyKind prog w Key where
 is:=my
 hash:=sR w
 inj:=λv a b ha hb=>by
  rcases cD ha with⟨i,t,rfl,rfl⟩ |⟨x,t,rfl,rfl⟩
  ·rcases cD hb with⟨j,u,rfl,e⟩ |⟨y,u,rfl,e⟩
   ·injection e with e1 _;rw[e1]
   ·exact nomatch e
  ·rcases cD hb with⟨j,u,rfl,e⟩ |⟨y,u,rfl,e⟩
   ·exact nomatch e
   ·injection e with e1 _;rw[e1]
 byValue:=λk v h=>by rcases cD h with⟨i,t,rfl,rfl⟩ |⟨x,t,rfl,rfl⟩<;>rfl
 pyHash:=λhv h=>by
  rcases cD hv with⟨i,t,rfl,rfl⟩ |⟨x,t,rfl,rfl⟩
  ·exact wpAny_pyHash_int h
  ·exact wpAny_pyHash_str h
 eqBool:=λhu hv h=>by
  rcases cD hu with⟨i,t,rfl,rfl⟩ |⟨x,t,rfl,rfl⟩
  ·rcases cD hv with⟨j,u,rfl,rfl⟩ |⟨y,u,rfl,rfl⟩
   ·rw[sQ]at h;exact wpAny_eqBool_int h
   ·rw[sP]at h;exact SeqAt.EqAt.int_str i t y u _ _ _ _ h
  ·rcases cD hv with⟨j,u,rfl,rfl⟩ |⟨y,u,rfl,rfl⟩
   ·rw[sO]at h;exact SeqAt.EqAt.str_int x t j u _ _ _ _ h
   ·rw[sM]at h;exact wpAny_eqBool_str h
 «strs»:=λk x t v h=>by
  rcases cD h with⟨i,u,rfl,e⟩ |⟨y,u,rfl,e⟩
  ·exact nomatch e
  ·injection e with e1 _
   subst e1;cases v<;>rfl
inductive V where
 |non |bl (b:Bool) |int (i:Int) |str (x:Str) |byt (b:Array UInt8) |flt (b:UInt64) |ref (a:Addr) |ty (n:String)
 deriving DecidableEq
noncomputable def RelV:V->Value->Prop
 |.non,u=>u=Value.none
 |.bl b,u=>u=Value.bool b
 |.int i,u=>∃t,u=Value.int i t
 |.str x,u=>∃t,u=Value.str x t
 |.byt b,u=>∃t,u=Value.bytes b t
 |.flt b,u=>∃t,u=Value.float b t
 |.ref a,u=>u=Value.ref a
 |.ty n,u=>u=Value.type n
abbrev Vals:List V->List Value->Prop:=Paired RelV
theorem Vals.length{xs:List V}{us:List Value}(r:Vals xs us):xs.length=us.length:=Paired.length r
theorem Vals.get:∀{xs:List V} {us:List Value} {i:Nat} {x:V},Vals xs us->xs[i]?=some x->∃u,us[i]?=some u/\RelV x u
 |_,_,_,_,.nil,e=>by simp at e
 |_,_,0,_,.cons r _,e=>by simp at e;subst e;exact⟨_,rfl,r⟩
 |_,_,i+1,x,.cons _ t,e=>by obtain⟨u,h1,h2⟩:=Vals.get (i:=i) (x:=x) t (by simpa using e);exact⟨u,by simpa using h1,h2⟩
theorem Vals.set{x:V}{u:Value}(r:RelV x u):∀{xs:List V} {us:List Value} (i:Nat),Vals xs us->Vals (xs.set i x) (us.set i u)
 |_,_,_,.nil=>.nil
 |_,_,0,.cons _ t=>.cons r t
 |_,_,i+1,.cons q t=>.cons q (Vals.set r i t)
theorem Vals.append:∀{xs ys:List V} {us ws:List Value},Vals xs us->Vals ys ws->Vals (xs++ys) (us++ws)
 |_,_,_,_,.nil,s=>s
 |_,_,_,_,.cons r t,s=>.cons r (Vals.append t s)
theorem Vals.take:∀{xs:List V} {us:List Value} (n:Nat),Vals xs us->Vals (xs.take n) (us.take n)
 |_,_,0,_=>.nil
 |_,_,_+1,.nil=>.nil
 |_,_,n+1,.cons r t=>.cons r (Vals.take n t)
theorem Vals.drop:∀{xs:List V} {us:List Value} (n:Nat),Vals xs us->Vals (xs.drop n) (us.drop n)
 |_,_,0,r=>r
 |_,_,_+1,.nil=>.nil
 |_,_,n+1,.cons _ t=>Vals.drop n t
noncomputable def jL:Option V->Option Value->Prop
 |some v,some u=>RelV v u
 |none,none=>True
 |_,_=>False
noncomputable def KV{κ:Type}:List (κ×V)->List (κ×Value)->Prop:=Paired λ(p:κ×V) (q:κ×Value)=>p.1=q.1/\RelV p.2 q.2
noncomputable def kV:Key->V
 |.inl i=>.int i
 |.inr x=>.str x
inductive HO where
 |lst (xs:List V)
 |tup (xs:List V)
 |dK (kvs:List (Key×V)) |dT (kvs:List (List Key×V))
 |set (S:Int->Bool) (n:Nat)
 |ins (C dx:Addr) (fs:List (Str×V))
 |own (x:Addr)
 |xd (fs:List (Str×V))
 |met (f x:Addr)
 |rng (lo hi:Int)
 |frz (o:Obj) (u:HO)
 |tbl (ps:Array Value)
 |ext (φ:Heap->Prop)
abbrev Hp:=Addr->Option HO
noncomputable def upd(H:Hp)(a:Addr)(o:HO):Hp:=λb=>if b=a then some o else H b
theorem ai{H:Hp}{a:Addr}{o:HO}:upd H a o a=some o:=by unfold upd;rw[if_pos rfl]
theorem ar{H:Hp}{a b:Addr}{o:HO}(h:b≠a):upd H a o b=H b:=by unfold upd;rw[if_neg h]
theorem aN{H:Hp}{a b:Addr}{o:HO}(h:H a=some o)(h':H b=none):a≠b:=by intro e;subst e;rw[h]at h';cases h'
section
variable (P:Program)(w:World)
noncomputable def ObjOk(H:Hp)(h:Heap)(a:Addr):HO->Prop
 |.lst xs=>xs.length<=sizeLine/\∃(its:List Value) (n:Nat),Vals xs its/\h.get? a=some { cls:=.type "list",data:=.seq its.toArray n }
 |.tup xs=>xs.length<=sizeLine/\∃its:List Value,Vals xs its/\IsTup h a its.toArray
 |.dK kvs=>kvs.length<=sizeLine/\(a == sysModules)=false/\∃vs,KV kvs vs/\h.DictOf (lX P w) a vs
 |.dT kvs=>kvs.length<=sizeLine/\(a == sysModules)=false/\∃xs:List (List Key×Addr×Value),
  Paired (λ(p:List Key×V) (q:List Key×Addr×Value)=>p.1=q.1/\H q.2.1=some (.tup (p.1.map kV))/\RelV p.2 q.2.2) kvs xs /\
  ∃o es ep,h.get? a=some o/\o.ExactDict/\o.data=.dict es ep/\es.toList=xs.map (entryOfKey (tupleKind (lX P w)))/\(xs.map (·.1)).Nodup
 |.set S n=>h.SetOf (intKind P w) a S n
 |.ins C dx fs=>H dx=some (.own a)/\fs.length<=1000/\dx≠a/\h.get? a=some (PySem.W.instObj C dx) /\
  ∃mA,h.Ns1 dx mA/\(∀f,jL (fs.lookup f) (mA f))/\PySem.Within mA (fs.map (·.1))
 |.own _=>∃o,h.get? a=some o
 |.xd fs=>∃mA,h.Ns1 a mA/\∀f,jL (fs.lookup f) (mA f)
 |.rng lo hi=>∃t u v,h.get? a=some { cls:=.type "range",data:=.fields #[.int lo t,.int hi u,.int 1 v] }
 |.frz o u=>h.get? a=some o/\ObjOk H h a u
 |.tbl ps=>h.get? a=some { cls:=.none,data:=.fields ps }
 |.met f x=>h.get? a=some (PySem.W.methodObj (.ref f) (.ref x))
 |.ext φ=>φ h/\(∃o,h.get? a=some o)/\∀h1 h2:Heap,φ h1->(∀o,h1.get? a=some o->h2.get? a=some o)->φ h2
def HOk(H:Hp)(h:Heap):Prop:=∀a o,H a=some o->ObjOk P w H h a o
end
section
variable {P:Program}{w:World}{H H':Hp}{h h':Heap}{a:Addr}{o:HO}
theorem ObjOk.lt(x:ObjOk P w H h a o):a<h.objs.size:=by
 cases o with
 |lst xs=>obtain⟨_,_,_,_,e⟩:=x;exact Heap.lt_size e
 |tup xs=>obtain⟨_,_,_,p⟩:=x;exact p.lt
 |dK kvs=>obtain⟨_,_,_,_,o,_,_,e,_⟩:=x;exact Heap.lt_size e
 |dT kvs=>obtain⟨_,_,_,_,o,_,_,e,_⟩:=x;exact Heap.lt_size e
 |set S n=>obtain⟨o,_,_,_,e,_⟩:=x;exact Heap.lt_size e
 |ins C dx fs=>obtain⟨_,_,_,e,_⟩:=x;exact Heap.lt_size e
 |own y=>obtain⟨_,e⟩:=x;exact Heap.lt_size e
 |xd fs=>obtain⟨_,⟨_,_,_,e,_⟩,_⟩:=x;exact Heap.lt_size e
 |rng lo hi=>obtain⟨_,_,_,e⟩:=x;exact Heap.lt_size e
 |frz ob u=>obtain⟨e,_⟩:=x;exact Heap.lt_size e
 |tbl ps=>exact Heap.lt_size (show h.get? a=some _ from x)
 |met f y=>exact Heap.lt_size (show h.get? a=some _ from x)
 |ext φ=>obtain⟨_,⟨_,e⟩,_⟩:=x;exact Heap.lt_size e
theorem Paired.mapP{α β:Type}{F G:α->β->Prop}:∀{l₁:List α} {l₂:List β},Paired F l₁ l₂->(∀a b,F a b->G a b)->Paired G l₁ l₂
 |_,_,.nil,_=>.nil
 |_,_,.cons r t,f=>.cons (f _ _ r) (Paired.mapP t f)
theorem ObjOk.stay(x:ObjOk P w H h a o)(k:∀b u,(b=a\/H b=some (.own a))->h.get? b=some u->h'.get? b=some u)
 (ho:∀b,H b=some (.own a)->H' b=some (.own a)) (ht:∀b xs,H b=some (.tup xs)->H' b=some (.tup xs)):ObjOk P w H' h' a o:=by
 induction o with
 |lst xs=>obtain⟨z,its,n,r,e⟩:=x;exact⟨z,its,n,r,k _ _ (.inl rfl) e⟩
 |tup xs=>obtain⟨z,its,r,ob,e,c⟩:=x;exact⟨z,its,r,ob,k _ _ (.inl rfl) e,c⟩
 |dK kvs=>obtain⟨z,y,vs,r,ob,es,ep,e,c⟩:=x;exact⟨z,y,vs,r,ob,es,ep,k _ _ (.inl rfl) e,c⟩
 |dT kvs =>obtain⟨z,y,xs,r,ob,es,ep,e,c⟩:=x;exact⟨z,y,xs,Paired.mapP r λp q z=>⟨z.1,ht _ _ z.2.1,z.2.2⟩,ob,es,ep,k _ _ (.inl rfl) e,c⟩
 |set S n=>obtain⟨ob,es,ep,t,e,c⟩:=x;exact⟨ob,es,ep,t,k _ _ (.inl rfl) e,c⟩
 |ins C dx fs =>obtain⟨d,z,ne,e,mA,⟨od,es,ep,e2,c⟩,r⟩:=x;exact⟨ho _ d,z,ne,k _ _ (.inl rfl) e,mA,⟨od,es,ep,k _ _ (.inr d) e2,c⟩,r⟩
 |own y=>obtain⟨ob,e⟩:=x;exact⟨ob,k _ _ (.inl rfl) e⟩
 |xd fs=>obtain⟨mA,⟨od,es,ep,e,c⟩,r⟩:=x;exact⟨mA,⟨od,es,ep,k _ _ (.inl rfl) e,c⟩,r⟩
 |rng lo hi=>obtain⟨t,u,v,e⟩:=x;exact⟨t,u,v,k _ _ (.inl rfl) e⟩
 |frz ob u ih=>obtain⟨e,q⟩:=x;exact⟨k _ _ (.inl rfl) e,ih q⟩
 |tbl ps =>have e:h.get? a=some { cls:=.none,data:=.fields ps }:=x;show h'.get? a=some { cls:=.none,data:=.fields ps };exact k a _ (.inl rfl) e
 |met f y =>have e:h.get? a=some (PySem.W.methodObj (.ref f) (.ref y)):=x;show h'.get? a=some (PySem.W.methodObj (.ref f) (.ref y));exact k a _ (.inl rfl) e
 |ext φ=>obtain⟨p,⟨o,e⟩,st⟩:=x;exact⟨st _ _ p λo q=>k _ _ (.inl rfl) q,⟨o,k _ _ (.inl rfl) e⟩,st⟩
theorem HOk.lt(x:HOk P w H h)(e:H a=some o):a<h.objs.size:=(x a o e).lt
theorem HOk.fresh(x:HOk P w H h)(e:h.objs.size<=a):H a=none:=by
 cases q:H a with
 |none=>rfl
 |some u=>exact absurd (wX (x.lt q) e) (xn _)
theorem HOk.kept(x:HOk P w H h)(k:∀b u,h.get? b=some u->h'.get? b=some u):HOk P w H h':=λa o e =>(x a o e).stay (λb u _ q=>k b u q) (λ_ q=>q) λ_ _ q=>q
theorem HOk.laid(x:HOk P w H h)(k:∀b u,h.get? b=some u->h'.get? b=some u)(hp:h.objs.size<=a)(new:ObjOk P w (upd H a o) h' a o):HOk P w (upd H a o) h':=λb u e=>by
 have hn:=x.fresh hp;by_cases hb:b=a
 ·subst hb;rw[ai]at e;cases e;exact new
 ·rw[ar hb]at e;exact(x b u e).stay (λc v _ q=>k c v q) (λc q=>by rw[ar (aN q hn)];exact q) λc xs q=>by rw[ar (aN q hn)];exact q
end
def Rd(H:Hp)(a:Addr)(u:HO):Prop:=H a=some u\/∃o,H a=some (.frz o u)
theorem Rd.of{H:Hp}{a:Addr}{u:HO}(h:H a=some u):Rd H a u:=.inl h
theorem Rd.ok{P:Program}{w:World}{H:Hp}{h:Heap}{a:Addr}{u:HO}(r:Rd H a u)(x:HOk P w H h):ObjOk P w H h a u:=by
 rcases r with r |⟨o,r⟩
 ·exact x a u r
 ·obtain⟨_,q⟩:=x a _ r;exact q
noncomputable def Mut:Option HO->Prop
 |some (.lst _)=>True
 |some (.dK _)=>True
 |some (.dT _)=>True
 |some (.set _ _)=>True
 |some (.ins _ _ _)=>True
 |some (.ext _)=>True
 |_=>False
section
variable {P:Program}{w:World}{H:Hp}{h h':Heap}{x e:Addr}{o':HO}
theorem HOk.write(ok:HOk P w H h)(mu:Mut (H x))(he:e=x\/H e=some (.own x))(k:∀b u,b≠e->h.get? b=some u->h'.get? b=some u)(heo:∃u,h'.get? e=some u)
 (new:ObjOk P w (upd H x o') h' x o'):HOk P w (upd H x o') h':=λb u q=>by
 have nown:∀c y,H c=some (.own y)->c≠x:=λc y r z=>by subst z;rw[r]at mu;exact mu
 have ntup:∀c xs,H c=some (.tup xs)->c≠x:=λc xs r z=>by subst z;rw[r]at mu;exact mu
 by_cases hb:b=x
 ·subst hb;rw[ai]at q;cases q;exact new
 ·rw[ar hb]at q;by_cases hbe:b=e
  ·have q':H b=some (.own x):=by
    rcases he with z |z
    ·exact absurd (hbe.trans z) hb
    ·rw[hbe];exact z
   rw[q]at q';cases q';obtain⟨v,hv⟩:=heo;exact⟨v,by rw[hbe];exact hv⟩
  ·refine(ok b u q).stay (λc v hc r=>k c v ?_ r) (λc r=>by rw[ar (nown c b r)];exact r) λc xs r=>by rw[ar (ntup c xs r)];exact r
   rcases hc with rfl |hc
   ·exact hbe
   ·rintro rfl;rcases he with z |z
    ·exact nown c b hc z
    ·rw[hc]at z;cases z;exact hb rfl
end
structure Un(fs ex:List Addr)(H H':Hp)(h h':Heap):Prop where
 keep:∀b o,h.get? b=some o->H b=none->b∉fs->b∉ex->h'.get? b=some o
 slot:∀b o,h.get? b=some o->H b=none->b∈fs->b∉ex->∃sl,h'.get? b=some { o with slots:=sl }
 free:∀b o,h.get? b=some o->H b=none->b∉ex->H' b=none
 there:∀b o,h.get? b=some o->b∉ex->∃o',h'.get? b=some o'
 tups:∀b xs,H b=some (.tup xs)->H' b=some (.tup xs)
 frzs:∀b o u,H b=some (.frz o u)->H' b=some (.frz o u)
 tbls:∀b ps,H b=some (.tbl ps)->∃more,H' b=some (.tbl (ps++more))
section
variable {fs fs' ex ex':List Addr}{H H1 H2:Hp}{h h1 h2 h':Heap}{a x e:Addr}{o:HO}
theorem Un.any(u:Un fs ex H H1 h h1){b:Addr}{ob:Obj}(q:h.get? b=some ob)(n:H b=none)(hx:b∉ex):∃sl,h1.get? b=some { ob with slots:=sl }:=by
 by_cases hb:b∈fs
 ·exact u.slot b ob q n hb hx
 ·exact⟨ob.slots,u.keep b ob q n hb hx⟩
theorem Un.trans(a:Un fs ex H H1 h h1)(b:Un fs ex H1 H2 h1 h2):Un fs ex H H2 h h2 where
 keep:=λc ob q n hc hx=>b.keep c ob (a.keep c ob q n hc hx) (a.free c ob q n hx) hc hx
 slot:=λc ob q n hc hx=>by obtain⟨sl,e1⟩:=a.slot c ob q n hc hx;obtain⟨sl',e2⟩:=b.slot c _ e1 (a.free c ob q n hx) hc hx;exact⟨sl',e2⟩
 free:=λc ob q n hx=>by obtain⟨o',e1⟩:=a.there c ob q hx;exact b.free c o' e1 (a.free c ob q n hx) hx
 there:=λc ob q hx=>by obtain⟨o',e1⟩:=a.there c ob q hx;exact b.there c o' e1 hx
 tups:=λc xs q=>b.tups c xs (a.tups c xs q)
 frzs:=λc ob xs q=>b.frzs c ob xs (a.frzs c ob xs q)
 tbls:=λc ps q=>by obtain⟨m1,e1⟩:=a.tbls c ps q;obtain⟨m2,e2⟩:=b.tbls c _ e1;exact⟨m1++m2,by rw[e2,Array.append_assoc]⟩
theorem Un.kept(k:∀b u,h.get? b=some u->h'.get? b=some u):Un fs ex H H h h' :=
 ⟨λb ob q _ _ _=>k b ob q,λb ob q _ _ _=>⟨ob.slots,k b ob q⟩,λ_ _ _ n _=>n,λb ob q _=>⟨ob,k b ob q⟩,λ_ _ q=>q,λ_ _ _ q=>q,λ_ ps q=>⟨#[],by rw[q];simp⟩⟩
theorem Un.refl:Un fs ex H H h h:=Un.kept λ_ _ q=>q
theorem Un.laid(k:∀b u,h.get? b=some u->h'.get? b=some u)(hp:h.objs.size<=a)(hn:H a=none):Un fs ex H (upd H a o) h h' where
 keep:=λb u q _ _ _=>k b u q
 slot:=λb u q _ _ _=>⟨u.slots,k b u q⟩
 free:=λb u q n _=>by rw[ar (wY (wX (Heap.lt_size q) hp))];exact n
 there:=λb u q _=>⟨u,k b u q⟩
 tups:=λb xs q=>by rw[ar (aN q hn)];exact q
 frzs:=λb u xs q=>by rw[ar (aN q hn)];exact q
 tbls:=λb ps q=>⟨#[],by rw[ar (aN q hn),q];simp⟩
theorem Un.write(mu:Mut (H x))(he:e=x\/H e=some (.own x))(k:∀b u,b≠e->h.get? b=some u->h'.get? b=some u)(heo:∃u,h'.get? e=some u):Un fs ex H (upd H x o) h h':=by
 have hx:∀b,H b=none->b≠x:=λb n z=>by subst z;rw[n]at mu;exact mu
 have hb:∀b,H b=none->b≠e:=λb n z=>by
  subst z;rcases he with r |r
  ·exact hx b n r
  ·rw[n]at r;cases r
 have hm:∀b u,H b=some u->¬Mut (some u)->b≠x:=λb u q nm z=>by subst z;rw[q]at mu;exact nm mu
 refine⟨λb u q n _ _=>k b u (hb b n) q,λb u q n _ _=>⟨u.slots,k b u (hb b n) q⟩,λb u q n _=>by rw[ar (hx b n)];exact n,λb u q _=>?_,
  λb xs q=>by rw[ar (hm b _ q λz=>z)];exact q,λb u xs q=>by rw[ar (hm b _ q λz=>z)];exact q,λb ps q=>⟨#[],by rw[ar (hm b _ q λz=>z),q];simp⟩⟩
 by_cases hbe:b=e
 ·subst hbe;exact heo
 ·exact⟨u,k b u hbe q⟩
theorem Un.mono(u:Un fs ex H H1 h h1)(hs:∀b∈fs,b∈fs')(hx:∀b∈ex,b∈ex'):Un fs' ex' H H1 h h1 :=
 ⟨λb ob q n hb he=>u.keep b ob q n (λz=>hb (hs b z)) λz=>he (hx b z),λ_ _ q n _ he=>u.any q n λz=>he (hx _ z),λb ob q n he=>u.free b ob q n λz=>he (hx b z),λb ob q he=>u.there b ob q λz=>he (hx b z),u.tups,u.frzs,u.tbls⟩
end
noncomputable def trk(h:Heap)(H:Hp):List Addr:=(List.range h.objs.size).filter λa=>(H a).isSome
noncomputable def ci(h:Heap)(H:Hp):Heap:=PySem.W.hideAll h (trk h H)
theorem tL(h:Heap)(H:Hp):(ci h H).objs.size=h.objs.size:=PySem.W.hideAll_size _ _
theorem tN{h:Heap}{H:Hp}{b:Addr}{o:Obj}(e:h.get? b=some o)(n:H b=none):(ci h H).get? b=some o :=
 PySem.W.hideAll_get _ e λhm=>by have q:(H b).isSome=true:=(List.mem_filter.mp hm).2;rw[n]at q;simp at q
theorem rO{h:Heap}{H:Hp}{b:Addr}{o:Obj}(e:(ci h H).get? b=some o):h.get? b=some o/\H b=none:=by
 have e':h.get? b=some o:=PySem.W.of_hideAll (trk h H) e;refine⟨e',?_⟩;cases q:H b with
 |none=>rfl
 |some x =>have hm:b∈trk h H:=List.mem_filter.mpr ⟨xa.mpr (Heap.lt_size e'),by simp[q]⟩;have z:(ci h H).get? b=none:=PySem.W.hideAll_none (trk h H) hm;rw[z]at e;cases e
noncomputable def u4(g h:Heap)(L:Addr):List (Addr×Obj):=(List.range h.objs.size).filterMap λa=>if a=L\/(g.get? a).isSome=true then none else(h.get? a).map λo=>(a,o)
noncomputable def rest(g h:Heap)(L d:Addr):List (Addr×Obj):=(u4 g h L).filter λp=>decide (p.1≠d)
structure Mod(K:PySem.W.Frag)(mg:Str->Option Value)(base:Heap):Prop where
 kin:K.In base
 glob:base.Ns mainGlobals mg
 blt:∃mb,base.Ns builtinsNs mb/\∀x:Str,x≠"__name__"->mb x=bootBuiltins x
 nolimit:base.NoLimit
structure Cx where
 prog:Program
 w:World
 K:PySem.W.Frag
 mg:Str->Option Value
 base:Heap
 A:Around
 N:List Str
 s₀:Shared
 H₀:Hp
 env:Env
 outer:List Env
 stack:List Env
 ex:List Addr
 fn:Str->Bool
 calm:Bool
 pn:List (Addr×Obj)
 xe:Value->Shared->Prop
noncomputable def frs(l:List Env):List Addr:=l.filterMap (·.frame)
abbrev Cx.fs(X:Cx):List Addr:=frs X.outer
def Vis(sc:Scope)(x:Str):Prop:=sc.names.lookup x=some .local\/sc.names.lookup x=some .cell\/sc.names.lookup x=some .free
def Loc(sc:Scope)(x:Str):Prop:=sc.names.lookup x=some .local\/sc.names.lookup x=some .cell
noncomputable def va(env:Env)(h:Heap)(m:Str->Option Value)(x:Str)(u:Value):Prop :=
 (env.kindOf x=some .local/\m x=some u)\/((env.kindOf x=some .cell\/env.kindOf x=some .free)/\∃c,env.cells.lookup x=some c/\h.IsCell c (some u))
structure Cx.Ok(X:Cx):Prop where
 mod:Mod X.K X.mg X.base
 kind:X.env.scope.kind=.function
 glob:X.env.globals=mainGlobals
 blt:X.env.builtins=builtinsNs
 above:X.s₀.heap.objs.size<=X.env.locals
 inj:∀x y c,X.env.cells.lookup x=some c->X.env.cells.lookup y=some c->x=y
 has:∀x,(X.env.kindOf x=some .cell\/X.env.kindOf x=some .free)->∃c,X.env.cells.lookup x=some c
 cab:∀x c,X.fn x=true->X.env.cells.lookup x=some c->X.s₀.heap.objs.size<=c
 hd:X.calm=true->X.A.handled=none
 frames:X.A.frames=some X.stack
 stk:X.stack=X.outer\/(X.stack=X.env::X.outer/\X.env.frame=some X.env.locals)
 exf:∀b∈X.ex,b≠X.env.locals/\∀x c,X.env.cells.lookup x=some c->c≠b
 bs:∀b o,X.base.get? b=some o->X.s₀.heap.get? b=some o/\X.H₀ b=none
 bsz:X.base.objs.size<=X.s₀.heap.objs.size
 noex:∀b o,X.base.get? b=some o->b∉X.ex
 exfs:∀b∈X.ex,b∉X.fs
 funs:X.s₀.heap.FunFrames X.base X.outer
 frf:∀b∈X.fs,X.H₀ b=none
structure Inv(X:Cx)(pins:List (Addr×Obj))(σ:List (Option V))(H:Hp)(s:Shared):Prop where
 ok:X.Ok
 os:s.os=X.s₀.os
 bare:AllBare s.gens
 base:Un X.fs X.ex X.H₀ H X.s₀.heap s.heap
 loc:∃m,s.heap.Ns X.env.locals m/\∀(i:Nat) (x:Str) (v:V),X.N[i]?=some x->σ[i]?=some (some v)->Vis X.env.scope x->∃u,RelV v u/\va X.env s.heap m x u
 cell:∀x c,X.env.cells.lookup x=some c->∃v,s.heap.IsCell c v
 free:H X.env.locals=none
 freeC:∀x c,X.env.cells.lookup x=some c->H c=none
 pin:∀p∈X.pn++pins,s.heap.get? p.1=some p.2/\H p.1=none/\p.1≠X.env.locals/\p.1∉X.fs/\∀v,p.2.data≠.cell v
 hok:HOk X.prog X.w H s.heap
 len:σ.length=X.N.length
section
variable {X:Cx}{pins:List (Addr×Obj)}{σ:List (Option V)}{H H':Hp}{s:Shared}{h':Heap}
theorem Cx.Ok.nofr(ok:X.Ok){b:Addr}{o:Obj}(e:X.base.get? b=some o):b∉X.fs:=λhb=>by have:=(ok.funs.mem hb).1;rw[e]at this;cases this
theorem Inv.bs(I:Inv X pins σ H s):∀b o,X.base.get? b=some o->s.heap.get? b=some o/\H b=none:=λb o e =>⟨I.base.keep b o (I.ok.bs b o e).1 (I.ok.bs b o e).2 (I.ok.nofr e) (I.ok.noex b o e),I.base.free b o (I.ok.bs b o e).1 (I.ok.bs b o e).2 (I.ok.noex b o e)⟩
theorem Inv.bk(I:Inv X pins σ H s):∀b o,X.base.get? b=some o->s.heap.get? b=some o:=λb o e=>(I.bs b o e).1
theorem Inv.mod(I:Inv X pins σ H s):Mod X.K X.mg X.base:=I.ok.mod
theorem Inv.kIn(I:Inv X pins σ H s):X.K.In s.heap:=I.ok.mod.kin.keeps I.bk
theorem Inv.nolimit(I:Inv X pins σ H s):s.heap.NoLimit:=I.ok.mod.nolimit.keeps I.bk
theorem Inv.fr(I:Inv X pins σ H s):∃m,Fr X.base X.env.locals s.heap m :=
 let⟨m,hn,_⟩:=I.loc
 ⟨m,hn,I.bk,xb I.ok.bsz I.ok.above⟩
theorem Inv.lt(I:Inv X pins σ H s):X.env.locals<s.heap.objs.size:=let⟨_,hn,_⟩:=I.loc;hn.lt
theorem Inv.sz(I:Inv X pins σ H s):X.s₀.heap.objs.size<=s.heap.objs.size:=xb I.ok.above (xq I.lt)
theorem Inv.nofs(I:Inv X pins σ H s){a:Addr}(h:s.heap.objs.size<=a):a∉X.fs:=λhb=>by obtain⟨_,o,ho,_⟩:=I.ok.funs.mem hb;exact absurd (wX (Heap.lt_size ho) (xb I.sz h)) (xn _)
theorem Inv.cne(I:Inv X pins σ H s):∀x c,X.env.cells.lookup x=some c->c≠X.env.locals:=λx c e z=>by obtain⟨v,o,ho,hd⟩:=I.cell x c e;obtain⟨m,⟨o',es,ep,ho',hd',_⟩,_⟩:=I.loc;rw[z,ho']at ho;cases ho;rw[hd']at hd;cases hd
theorem Inv.funs(I:Inv X pins σ H s):s.heap.FunFrames X.base X.outer:=by
 have all:∀(l:List Env),(∀b∈frs l,b∈X.fs)->X.s₀.heap.FunFrames X.base l->s.heap.FunFrames X.base l:=by
  intro l
  induction l with
  |nil=>intro _ _;trivial
  |cons env r ih =>
   intro hs hl;obtain⟨hk,⟨L,o,hf,hn,ho,hd⟩,hr⟩:=hl;have hL:L∈X.fs:=hs L (by unfold frs;rw[List.filterMap_cons,hf];exact wT);obtain⟨sl,e⟩:=I.base.slot L o ho (I.ok.frf L hL) hL λz=>I.ok.exfs L z hL
   exact⟨hk,⟨L,_,hf,hn,e,hd⟩,ih (λb hb=>hs b (by unfold frs;rw[List.filterMap_cons,hf];exact wP _ hb)) hr⟩
 exact all X.outer (λ_ hb=>hb) I.ok.funs
theorem Inv.stack(I:Inv X pins σ H s):s.heap.FunFrames X.base X.stack:=by
 rcases I.ok.stk with e |⟨e,hf⟩
 ·rw[e];exact I.funs
 ·rw[e];obtain⟨m,hn,_⟩:=I.loc;refine .cons (by rw[I.ok.kind];decide) hf hn ?_ I.funs;exact Heap.get?_none_of_le (xb I.ok.bsz I.ok.above)
theorem Inv.stkSub(I:Inv X pins σ H s):∀b∈frs X.stack,b∈X.env.locals::X.fs:=λb hb=>by
 rcases I.ok.stk with e |⟨e,hf⟩
 ·rw[e]at hb;exact wP _ hb
 ·rw[e]at hb;unfold frs at hb
  rw[List.filterMap_cons,hf]at hb;exact hb
theorem Inv.stkFree(I:Inv X pins σ H s):∀b∈frs X.stack,H b=none:=λb hb=>by
 rcases wZ.mp (I.stkSub b hb)with e |hb
 ·rw[e];exact I.free
 ·obtain⟨_,o,ho,_⟩:=I.ok.funs.mem hb;exact I.base.free b o ho (I.ok.frf b hb) λz=>I.ok.exfs b z hb
theorem Inv.step{g':Array GenState}{t':Nat}{d':Drawn}{ch:List Addr}(I:Inv X pins σ H s)
 (hch:∀b∈ch,(b∈X.ex\/X.s₀.heap.objs.size<=b)/\b≠X.env.locals/\(∀x c,X.env.cells.lookup x=some c->c≠b)/\∀p∈X.pn++pins,p.1≠b)
 (keep:∀b o,b≠X.env.locals->b∉X.fs->b∉ch->s.heap.get? b=some o->H b=none->h'.get? b=some o)
 (slot:∀b o,b≠X.env.locals->b∈X.fs->b∉ch->s.heap.get? b=some o->H b=none->∃sl,h'.get? b=some { o with slots:=sl }) (free:∀b o,b∉ch->s.heap.get? b=some o->H b=none->H' b=none)
 (there:∀b o,b∉ch->s.heap.get? b=some o->∃o',h'.get? b=some o')
 (tups:∀b xs,H b=some (.tup xs)->H' b=some (.tup xs)) (frzs:∀b o u,H b=some (.frz o u)->H' b=some (.frz o u)) (tbls:∀b ps,H b=some (.tbl ps)->∃more,H' b=some (.tbl (ps++more)))
 (ns:∀m,s.heap.Ns X.env.locals m->h'.Ns X.env.locals m) (hok:HOk X.prog X.w H' h') (hg:AllBare g') :
 Inv X pins σ H' { s with heap:=h',gens:=g',drawn:=d',toks:=t' }:=by
 have neL:∀b o,X.s₀.heap.get? b=some o->b≠X.env.locals:=λb o e=>wY (wX (Heap.lt_size e) I.ok.above)
 have neC:∀b o,X.s₀.heap.get? b=some o->b∉X.ex->b∉ch:=λb o e hx hb=>by
  rcases(hch b hb).1 with z |z
  ·exact hx z
  ·exact absurd (wX (Heap.lt_size e) z) (xn _)
 have cellK:∀x c,X.env.cells.lookup x=some c->∀v,s.heap.IsCell c v->h'.IsCell c v:=λx c e v ⟨o,ho,hd⟩=>by
  have nch:c∉ch:=λz=>(hch c z).2.2.1 x c e rfl
  by_cases hc:c∈X.fs
  ·obtain⟨sl,q⟩:=slot c o (I.cne x c e) hc nch ho (I.freeC x c e);exact⟨_,q,hd⟩
  ·exact⟨o,keep c o (I.cne x c e) hc nch ho (I.freeC x c e),hd⟩
 refine⟨I.ok,I.os,hg,⟨λb o e n hb hx=>?_,λb o e n hb hx=>?_,λb o e n hx=>?_,λb o e hx=>?_,λb xs e=>tups b xs (I.base.tups b xs e),λb o xs e=>frzs b o xs (I.base.frzs b o xs e),λb ps e=>?_⟩,?_,λx c e=>?_,?_,λx c e=>?_,λp hp=>?_,hok,I.len⟩
 ·exact keep b o (neL b o e) hb (neC b o e hx) (I.base.keep b o e n hb hx) (I.base.free b o e n hx)
 ·obtain⟨sl,e1⟩:=I.base.slot b o e n hb hx;obtain⟨sl',e2⟩:=slot b _ (neL b o e) hb (neC b o e hx) e1 (I.base.free b o e n hx);exact⟨sl',e2⟩
 ·obtain⟨o',e1⟩:=I.base.there b o e hx;exact free b o' (neC b o e hx) e1 (I.base.free b o e n hx)
 ·obtain⟨o',e1⟩:=I.base.there b o e hx;exact there b o' (neC b o e hx) e1
 ·obtain⟨m1,e1⟩:=I.base.tbls b ps e;obtain⟨m2,e2⟩:=tbls b _ e1;exact⟨m1++m2,by rw[e2,Array.append_assoc]⟩
 ·obtain⟨m,hn,hl⟩:=I.loc;refine⟨m,ns m hn,λi x v e1 e2 e3=>?_⟩;obtain⟨u,r,l⟩:=hl i x v e1 e2 e3;refine⟨u,r,?_⟩;rcases l with l |⟨k,c,e,z⟩
  ·exact .inl l
  ·exact .inr ⟨k,c,e,cellK x c e _ z⟩
 ·obtain⟨v,z⟩:=I.cell x c e;exact⟨v,cellK x c e v z⟩
 ·obtain⟨m,⟨o,_,_,ho,_⟩,_⟩:=I.loc;exact free _ o (λz=>(hch _ z).2.1 rfl) ho I.free
 ·obtain⟨v,o,ho,hd⟩:=I.cell x c e;exact free c o (λz=>(hch c z).2.2.1 x c e rfl) ho (I.freeC x c e)
 ·obtain⟨e,n,ne,nf,d⟩:=I.pin p hp;have nch:p.1∉ch:=λz=>(hch p.1 z).2.2.2 p hp rfl
  exact⟨keep p.1 p.2 ne nf nch e n,free p.1 p.2 nch e n,ne,nf,d⟩
theorem Inv.un{t':Nat}(I:Inv X pins σ H s)(u:Un X.fs [] H H' s.heap h')(hok:HOk X.prog X.w H' h'):Inv X pins σ H' { s with heap:=h',toks:=t' }:=by
 obtain⟨m,⟨o,es,ep,ho,r⟩,_⟩:=id I.loc;obtain⟨sl,hL⟩:=u.any ho I.free (by simp)
 exact I.step (g':=s.gens) (d':=s.drawn) (ch:=[]) (λ_ z=>nomatch z) (λb o _ hb _ e n=>u.keep b o e n hb (by simp)) (λb o _ hb _ e n=>u.slot b o e n hb (by simp)) (λb o _ e n=>u.free b o e n (by simp)) (λb o _ e=>u.there b o e (by simp)) u.tups u.frzs u.tbls (λm' hm=>by
  obtain⟨o',es',ep',ho',r'⟩:=hm;rw[ho]at ho';cases ho'
  exact⟨_,es',ep',hL,r'⟩) hok I.bare
theorem Inv.call{g':Array GenState}{t':Nat}{d':Drawn}{ch:List Addr}(I:Inv X pins σ H s)(u:Un (frs X.stack) ch H H' s.heap h')(hok:HOk X.prog X.w H' h')(hg:AllBare g')
 (hch:∀b∈ch,(b∈X.ex\/X.s₀.heap.objs.size<=b)/\b≠X.env.locals/\(∀x c,X.env.cells.lookup x=some c->c≠b)/\∀p∈X.pn++pins,p.1≠b) :
 Inv X pins σ H' { s with heap:=h',gens:=g',drawn:=d',toks:=t' }:=by
 obtain⟨m,⟨o,es,ep,ho,r⟩,_⟩:=id I.loc;obtain⟨sl,hL⟩:=u.any ho I.free λz=>(hch _ z).2.1 rfl
 exact I.step (ch:=ch) hch (λb o hL hb hc e n=>u.keep b o e n (λz=>(wZ.mp (I.stkSub b z)).elim hL hb) hc) (λb o _ _ hc e n=>u.any e n hc) (λb o hc e n=>u.free b o e n hc) (λb o hc e=>u.there b o e hc) u.tups u.frzs u.tbls (λm' hm=>by
  obtain⟨o',es',ep',ho',r'⟩:=hm;rw[ho]at ho';cases ho'
  exact⟨_,es',ep',hL,r'⟩) hok hg
theorem Inv.turned{t':Nat}{it:Addr}(I:Inv X pins σ H s)(k:∀b o,b≠it->s.heap.get? b=some o->h'.get? b=some o)(hn:H it=none)(hL:it≠X.env.locals)
 (h1:it∈X.ex\/X.s₀.heap.objs.size<=it) (h2:∀x c,X.env.cells.lookup x=some c->c≠it) (h3:∀p∈X.pn++pins,p.1≠it):Inv X pins σ H { s with heap:=h',toks:=t' }:=by
 have nit:∀b u,H b=some u->b≠it:=λb u e z=>by rw[z,hn]at e;cases e
 refine I.step (g':=s.gens) (d':=s.drawn) (ch:=[it]) (λb hb=>?_) (λb o _ _ hc e _=>k b o (λz=>hc (by simp[z])) e) (λb o _ _ hc e _=>⟨o.slots,k b o (λz=>hc (by simp[z])) e⟩) (λ_ _ _ _ n=>n)
  (λb o hc e=>⟨o,k b o (λz=>hc (by simp[z])) e⟩) (λ_ _ e=>e) (λ_ _ _ e=>e) (λb ps e=>⟨#[],by rw[e];simp⟩) (λm hm=>?_) (λb u e=>?_) I.bare
 ·have e:b=it:=by simpa using hb
  subst e;exact⟨h1,hL,h2,h3⟩
 ·obtain⟨o,es,ep,ho,r⟩:=hm;exact⟨o,es,ep,k _ o (Ne.symm hL) ho,r⟩
 ·refine(I.hok b u e).stay (λc v hc q=>k c v ?_ q) (λ_ q=>q) λ_ _ q=>q
  rcases hc with z |z
  ·rw[z];exact nit b u e
  ·exact nit c _ z
theorem Inv.tok(I:Inv X pins σ H s)(t:Nat):Inv X pins σ H { s with toks:=t }:=I.un (h':=s.heap) (t':=t) Un.refl I.hok
theorem Inv.kept{t':Nat}(I:Inv X pins σ H s)(k:∀b u,s.heap.get? b=some u->h'.get? b=some u):Inv X pins σ H { s with heap:=h',toks:=t' }:=I.un (Un.kept k) (I.hok.kept k)
theorem Inv.laid{a:Addr}{o:HO}{t':Nat}(I:Inv X pins σ H s)(k:∀b u,s.heap.get? b=some u->h'.get? b=some u)(hp:s.heap.objs.size<=a)(new:ObjOk X.prog X.w (upd H a o) h' a o) :
 Inv X pins σ (upd H a o) { s with heap:=h',toks:=t' }:=I.un (Un.laid k hp (I.hok.fresh hp)) (I.hok.laid k hp new)
theorem Inv.write{x e:Addr}{o:HO}{t':Nat}(I:Inv X pins σ H s)(mu:Mut (H x))(he:e=x\/H e=some (.own x))(k:∀b u,b≠e->s.heap.get? b=some u->h'.get? b=some u)(heo:∃u,h'.get? e=some u)
 (new:ObjOk X.prog X.w (upd H x o) h' x o):Inv X pins σ (upd H x o) { s with heap:=h',toks:=t' }:=I.un (Un.write mu he k heo) (I.hok.write mu he k heo new)
theorem Inv.pins_of{pins':List (Addr×Obj)}(I:Inv X pins σ H s)(h:∀p∈pins',s.heap.get? p.1=some p.2/\H p.1=none/\p.1≠X.env.locals/\p.1∉X.fs/\∀v,p.2.data≠.cell v):Inv X pins' σ H s :=
 ⟨I.ok,I.os,I.bare,I.base,I.loc,I.cell,I.free,I.freeC,λp hp=>(wQ.mp hp).elim (λz=>I.pin p (xX _ z)) (h p),I.hok,I.len⟩
theorem lK{N:List Str}(hN:N.Nodup){i j:Nat}{x:Str}(a:N[i]?=some x)(b:N[j]?=some x):i=j:=by obtain⟨h1,e1⟩:=List.getElem?_eq_some_iff.mp a;obtain⟨h2,e2⟩:=List.getElem?_eq_some_iff.mp b;exact(List.getElem_inj hN).mp (e1.trans e2.symm)
theorem km{M:Model}{A:Around}{E:Value->Shared->Prop}{i:Nat}{x:Str}{v:V}{u:Value}{Q:Unit->Shared->Prop}(I:Inv X pins σ H s)(hN:X.N.Nodup)(hi:X.N[i]?=some x)(hx:Loc X.env.scope x)(r:RelV v u)
 (h:∀s',Inv X pins (σ.set i (some v)) H s'->(∃a,Heap.SameBut a s.heap s'.heap/\(a=X.env.locals\/X.env.cells.lookup x=some a))->Q () s') (hf:X.fn x=true\/X.env.scope.names.lookup x=some .local:=by first |exact .inl rfl |exact .inr rfl |assumption):wpAny M A (storeName X.env x u) Q E s:=by
 obtain⟨m,hn,hl⟩:=id I.loc;have hcls:(X.env.scope.kind == .class || (X.env.scope.kind == .module&&X.env.locals != X.env.globals))=false:=by rw[I.ok.kind];rfl
 have hiσ:i<σ.length:=by rw[I.len];exact(List.getElem?_eq_some_iff.mp hi).1
 have cne:=I.cne
 have tracked:∀{a:Addr} {h':Heap},(∃o,s.heap.get? a=some o/\H a=none)->Heap.SameBut a s.heap h'->HOk X.prog X.w H h':=λ{a h'} ha hs b ob e=>by
  obtain⟨_,_,hfree⟩:=ha;refine(I.hok b ob e).stay (λc w' hc q=>(hs.2 c ?_).trans q) (λ_ q=>q) λ_ _ q=>q
  rintro rfl;rcases hc with rfl |hc
  ·rw[hfree]at e;cases e
  ·rw[hfree]at hc;cases hc
 rcases hx with hk |hk
 ·refine wpAny_storeName_local hk hn (λh' hn' hs=>?_) hcls;obtain⟨oL,_,_,hoL,_⟩:=id hn;refine h _ ⟨I.ok,I.os,I.bare,⟨λb o e n hb hx=>?_,λb o e n hb hx=>?_,I.base.free,λb o e hx=>?_,I.base.tups,I.base.frzs,I.base.tbls⟩,⟨_,hn',λj y v' e1 e2 e3=>?_⟩,λy c e=>?_,I.free,I.freeC,λp hp=>?_,tracked ⟨oL,hoL,I.free⟩ hs,by simpa using I.len⟩ ⟨_,hs,.inl rfl⟩
  ·exact(hs.2 b (wY (wX (Heap.lt_size e) I.ok.above))).trans (I.base.keep b o e n hb hx)
  ·obtain⟨sl,e1⟩:=I.base.slot b o e n hb hx;exact⟨sl,(hs.2 b (wY (wX (Heap.lt_size e) I.ok.above))).trans e1⟩
  ·obtain⟨o',e1⟩:=I.base.there b o e hx;exact⟨o',(hs.2 b (wY (wX (Heap.lt_size e) I.ok.above))).trans e1⟩
  ·by_cases hj:j=i
   ·subst hj;rw[hi]at e1;cases e1;rw[List.getElem?_set_self hiσ]at e2;cases e2;exact⟨u,r,.inl ⟨hk,by simp⟩⟩
   ·rw[List.getElem?_set_ne (Ne.symm hj)]at e2;obtain⟨u',r',q⟩:=hl j y v' e1 e2 e3;refine⟨u',r',?_⟩;rcases q with⟨k,e⟩ |⟨k,c,e,z⟩
    ·refine .inl ⟨k,?_⟩;have:y≠x:=λe=>hj (lK hN e1 (e ▸ hi))
     simp[this,e]
    ·exact .inr ⟨k,c,e,z.sameBut hs (cne y c e)⟩
  ·obtain⟨w',z⟩:=I.cell y c e;exact⟨w',z.sameBut hs (cne y c e)⟩
  ·obtain⟨e,n,ne,nf,d⟩:=I.pin p hp;exact⟨(hs.2 p.1 ne).trans e,n,ne,nf,d⟩
 ·have hfn:X.fn x=true:=by
   rcases hf with z |z
   ·exact z
   ·rw[z]at hk;cases hk
  obtain⟨c,hc⟩:=I.ok.has x (.inl hk);obtain⟨w',z⟩:=I.cell x c hc;refine wpAny_storeName_cell I.ok.kind hk hc z (λh' hc' hs=>?_);obtain⟨oc,hoc,hocd⟩:=id z;refine h { s with heap:=h' } ⟨I.ok,I.os,I.bare,⟨λb o e n hb hx=>?_,λb o e n hb hx=>?_,I.base.free,λb o e hx=>?_,I.base.tups,I.base.frzs,I.base.tbls⟩,⟨m,hn.sameBut hs (Ne.symm (cne x c hc)),λj y v' e1 e2 e3=>?_⟩,λy c' e=>?_,I.free,I.freeC,λp hp=>?_,tracked ⟨oc,hoc,I.freeC x c hc⟩ hs,by simpa using I.len⟩ ⟨c,hs,.inr hc⟩
  ·exact(hs.2 b (wY (wX (Heap.lt_size e) (I.ok.cab x c hfn hc)))).trans (I.base.keep b o e n hb hx)
  ·obtain⟨sl,e1⟩:=I.base.slot b o e n hb hx;exact⟨sl,(hs.2 b (wY (wX (Heap.lt_size e) (I.ok.cab x c hfn hc)))).trans e1⟩
  ·obtain⟨o',e1⟩:=I.base.there b o e hx;exact⟨o',(hs.2 b (wY (wX (Heap.lt_size e) (I.ok.cab x c hfn hc)))).trans e1⟩
  ·by_cases hj:j=i
   ·subst hj;rw[hi]at e1;cases e1;rw[List.getElem?_set_self hiσ]at e2;cases e2;exact⟨u,r,.inr ⟨.inl hk,c,hc,hc'⟩⟩
   ·rw[List.getElem?_set_ne (Ne.symm hj)]at e2;obtain⟨u',r',q⟩:=hl j y v' e1 e2 e3;refine⟨u',r',?_⟩;rcases q with q |⟨k,c',e,z'⟩
    ·exact .inl q
    ·refine .inr ⟨k,c',e,z'.sameBut hs ?_⟩;rintro rfl;exact hj (lK hN e1 (I.ok.inj _ _ _ e hc ▸ hi))
  ·by_cases hcc:c'=c
   ·subst hcc;exact⟨_,hc'⟩
   ·obtain⟨w2,z2⟩:=I.cell y c' e;exact⟨w2,z2.sameBut hs hcc⟩
  ·obtain⟨e,n,ne,nf,d⟩:=I.pin p hp;refine⟨(hs.2 p.1 ?_).trans e,n,ne,nf,d⟩;intro q;rw[q,hoc]at e;have q':oc=p.2:=Option.some.inj e;exact d w' (by rw[<- q'];exact hocd)
theorem kn{M:Model}{A:Around}{E:Value->Shared->Prop}{i:Nat}{x:Str}{v:V}{u:Value}{Q:Unit->Shared->Prop}(I:Inv X pins σ H s)(hN:X.N.Nodup)(hi:X.N[i]?=some x)(hx:Loc X.env.scope x)(r:RelV v u)
 (h:∀s',Inv X pins (σ.set i (some v)) H s'->Q () s') (hf:X.fn x=true\/X.env.scope.names.lookup x=some .local:=by first |exact .inl rfl |exact .inr rfl |assumption):wpAny M A (storeName X.env x u) Q E s :=
 km I hN hi hx r (λs' I' _=>h s' I') hf
theorem Inv.call'{s':Shared}{ch:List Addr}(I:Inv X pins σ H s)(ho:s'.os=s.os)(u:Un (frs X.stack) ch H H' s.heap s'.heap)(hok:HOk X.prog X.w H' s'.heap)(hg:AllBare s'.gens)
 (hch:∀b∈ch,(b∈X.ex\/X.s₀.heap.objs.size<=b)/\b≠X.env.locals/\(∀x c,X.env.cells.lookup x=some c->c≠b)/\∀p∈X.pn++pins,p.1≠b):Inv X pins σ H' s':=by
 obtain⟨h',g',d',t',o'⟩:=s';have e:o'=s.os:=ho;subst e;exact I.call (g':=g') (t':=t') (d':=d') u hok hg hch
end
abbrev XK:=Value->Option Addr->Hp->Prop
abbrev St:=List (Option V)
abbrev VK:=V->Hp->Prop
abbrev TE:=St->Hp->VK->Prop
abbrev TT:=St->Hp->(Bool->Hp->Prop)->Prop
abbrev TA:=St->Hp->(List V->Hp->Prop)->Prop
structure Ends where
 nx:St->Hp->Prop
 rt:VK
 bk:St->Hp->Prop:=λ_ _=>False
 ct:St->Hp->Prop:=λ_ _=>False
abbrev TS:=Ends->St->Hp->Prop
def EP(X:Cx)(pins:List (Addr×Obj))(σ:St)(Q:VK)(u:Value)(s':Shared):Prop:=∃v H',Inv X pins σ H' s'/\RelV v u/\Q v H'
def TP(X:Cx)(pins:List (Addr×Obj))(σ:St)(Q:Bool->Hp->Prop)(b:Bool)(s':Shared):Prop:=∃H',Inv X pins σ H' s'/\Q b H'
def AP(X:Cx)(pins:List (Addr×Obj))(σ:St)(Q:List V->Hp->Prop)(us:List Value)(s':Shared):Prop:=∃vs H',Inv X pins σ H' s'/\Vals vs us/\Q vs H'
noncomputable def SP(X:Cx)(pins:List (Addr×Obj))(D:Ends)(f:Flow)(s':Shared):Prop :=
 match f with
 |.next=>∃σ' H',Inv X pins σ' H' s'/\D.nx σ' H'
 |.brk=>∃σ' H',Inv X pins σ' H' s'/\D.bk σ' H'
 |.cont=>∃σ' H',Inv X pins σ' H' s'/\D.ct σ' H'
 |.ret u=>∃v σ' H',Inv X pins σ' H' s'/\RelV v u/\D.rt v H'
noncomputable def PE(X:Cx)(e:Expr)(t:TE):Prop :=
 ∀(pins:List (Addr×Obj)) (s:Shared) (σ:St) (H:Hp) (Q:VK),Inv X pins σ H s->t σ H Q->wpAny (model X.prog X.w) X.A (eval e X.env) (EP X pins σ Q) X.xe s
noncomputable def PT(X:Cx)(e:Expr)(t:TT):Prop :=
 ∀(pins:List (Addr×Obj)) (s:Shared) (σ:St) (H:Hp) (Q:Bool->Hp->Prop),Inv X pins σ H s->t σ H Q->wpAny (model X.prog X.w) X.A (isTrue e X.env (eval e X.env)) (TP X pins σ Q) X.xe s
noncomputable def PW(X:Cx)(e:Expr)(t:TT):Prop :=
 ∀(whole:Sem Value) (pins:List (Addr×Obj)) (s:Shared) (σ:St) (H:Hp) (Q:Bool->Hp->Prop),Inv X pins σ H s->t σ H Q->wpAny (model X.prog X.w) X.A (isTrue e X.env whole) (TP X pins σ Q) X.xe s
theorem PW.pt{X:Cx}{e:Expr}{t:TT}(h:PW X e t):PT X e t:=h _
noncomputable def PA(X:Cx)(es:List Expr)(t:TA):Prop :=
 ∀(pos:Pos) (pins:List (Addr×Obj)) (s:Shared) (σ:St) (H:Hp) (Q:List V->Hp->Prop),Inv X pins σ H s->t σ H Q->wpAny (model X.prog X.w) X.A (spliced (backTo pos (starEach es X.env))) (AP X pins σ Q) X.xe s
noncomputable def PS(X:Cx)(st:Stmt)(t:TS):Prop :=
 ∀(pins:List (Addr×Obj)) (s:Shared) (σ:St) (H:Hp) (D:Ends),Inv X pins σ H s->t D σ H->wpAny (model X.prog X.w) X.A (exec st X.env) (SP X pins D) X.xe s
noncomputable def PSs(X:Cx)(st:List Stmt)(t:TS):Prop :=
 ∀(pins:List (Addr×Obj)) (s:Shared) (σ:St) (H:Hp) (D:Ends),Inv X pins σ H s->t D σ H->wpAny (model X.prog X.w) X.A (execs st X.env) (SP X pins D) X.xe s
theorem thn{α:Type}{t:Sem α}{Q Q':α->Shared->Prop}{M:Model}{A:Around}{E:Value->Shared->Prop}{s:Shared}(h:wpAny M A t Q E s)(hQ:∀a s,Q a s->Q' a s):wpAny M A t Q' E s:=wpAny_mono h hQ λ_ _ x=>x
section
variable {X:Cx}
def kc(i:Nat):TE:=λσ H Q=>∃v,σ[i]?=some (some v)/\Q v H
def tC(v:V):TE:=λ_ H Q=>Q v H
theorem qT{i:Nat}{x:Str}{pos:Pos}(hN:X.N[i]?=some x)(hv:Vis X.env.scope x)(hd:(x == ("__debug__":Str))=false:=by decide)(hcd:(x == ("__classdict__":Str))=false:=by decide):PE X (.Name x pos) (kc i):=by
 intro pins s σ H Q I h;obtain⟨v,e,h⟩:=h;obtain⟨m,hn,hl⟩:=I.loc;obtain⟨u,r,l⟩:=hl i x v hN e hv;have fin:EP X pins σ Q u s:=⟨v,H,I,r,h⟩;rcases l with⟨hk,hm⟩ |⟨hk,c,hc,hcell⟩
 ·exact wpAny_Name (wpAny_loadName_local I.ok.kind hk hn hm fin) hd
 ·rcases hk with hk |hk
  ·exact wpAny_Name (wpAny_loadName_cell I.ok.kind hk hc hcell fin) hd
  ·exact wpAny_Name (wpAny_loadName_free I.ok.kind hk hc hcell fin hcd) hd
theorem ag{i j pos}:PE X (.Constant (.int i) j pos) (tC (.int i)):=λ_ _ _ H _ I h=>wpAny_Constant_int ⟨.int i,H,I.tok _,⟨_,rfl⟩,h⟩
theorem db{b j pos}:PE X (.Constant (.bool b) j pos) (tC (.bl b)):=λ_ _ _ H _ I h=>Constant_bool ⟨.bl b,H,I,rfl,h⟩
def Gl(X:Cx)(x:Str):Prop:=X.env.kindOf x=some .globalImplicit
theorem sH{E:Value->Shared->Prop}{pins:List (Addr×Obj)}{s:Shared}{σ:St}{H:Hp}{x:Str}{u:Value}{pos:Pos}{Q:Value->Shared->Prop}(I:Inv X pins σ H s)(hg:Gl X x)(hm:X.mg x=some u)(h:Q u s)
 (hd:(x == ("__debug__":Str))=false:=by decide):wpAny (model X.prog X.w) X.A (eval (.Name x pos) X.env) Q E s :=
 Calls.Name_function_global I.ok.kind hg (Calls.loadGlobal_global (by rw[I.ok.glob];exact I.mod.glob.keeps I.bk) hm h) hd
theorem cb{E:Value->Shared->Prop}{pins:List (Addr×Obj)}{s:Shared}{σ:St}{H:Hp}{x:Str}{u:Value}{pos:Pos}{Q:Value->Shared->Prop}(I:Inv X pins σ H s)(hg:Gl X x)(hm:X.mg x=none)(hv:bootBuiltins x=some u)(h:Q u s)
 (hn:x≠"__name__":=by decide) (hd:(x == ("__debug__":Str))=false:=by decide):wpAny (model X.prog X.w) X.A (eval (.Name x pos) X.env) Q E s:=by
 obtain⟨mb,h1,h2⟩:=I.mod.blt;exact Calls.Name_function_global I.ok.kind hg (Calls.loadGlobal_builtin (by rw[I.ok.glob];exact I.mod.glob.keeps I.bk) hm (by rw[I.ok.blt];exact h1.keeps I.bk) ((h2 x hn).trans hv) h) hd
theorem iL{x:Str}{v:V}{u:Value}{pos:Pos}(hg:Gl X x)(hm:X.mg x=none)(hv:bootBuiltins x=some u)(r:RelV v u)(hn:x≠"__name__":=by decide)(hd:(x == ("__debug__":Str))=false:=by decide):PE X (.Name x pos) (tC v) :=
 λ_ _ _ H _ I h=>cb I hg hm hv ⟨v,H,I,r,h⟩ hn hd
variable {a b:Expr}{ta tb:TE}{pos:Pos}
def tB(t:TE):TT:=λσ H Q=>t σ H λx H1=>∃c,x=.bl c/\Q c H1
theorem c9{e:Expr}{t:TE}(h:PE X e t)(he:∀whole,isTrue e X.env whole=(do let v <- whole;standAt e.pos;holding [v] (truthy v)):=by intro _;rfl):PT X e (tB t):=by intro pins s σ H Q I hw;refine isTrue_plain (thn (h pins s σ H _ I hw) λv s1 ⟨x,H1,I1,r1,q1⟩=>?_) (he _);obtain⟨d,rfl,q⟩:=q1;cases r1;exact wpAny_truthy_bool ⟨H1,I1,q⟩
variable {tA tB':TT}{rest:List Expr}
def ki(t u:TT):TT:=λσ H Q=>t σ H λc H1=>if c=true then u σ H1 Q else Q false H1
def tOr(t u:TT):TT:=λσ H Q=>t σ H λc H1=>if c=true then Q true H1 else u σ H1 Q
def ke(t:TT):TT:=λσ H Q=>t σ H λc H1=>Q (!c) H1
theorem iw(ha:PT X a tA):PW X (.BoolOp .And [a] pos) tA:=by
 intro wh pins s σ H Q I h;refine isTrue_and (thn (ha pins s σ H Q I h) λc s1 e=>?_);cases c with
 |true=>exact isTrue_and_nil e
 |false=>exact e
theorem dJ(ha:PT X a tA):PW X (.BoolOp .Or [a] pos) tA:=by
 intro wh pins s σ H Q I h;refine isTrue_or (thn (ha pins s σ H Q I h) λc s1 e=>?_);cases c with
 |false=>exact isTrue_or_nil e
 |true=>exact e
theorem ix(ha:PT X a tA)(hb:PW X (.BoolOp .And (b::rest) pos) tB'):PW X (.BoolOp .And (a::b::rest) pos) (ki tA tB'):=by
 intro wh pins s σ H Q I h;refine isTrue_and (thn (ha pins s σ H _ I h) λc s1 ⟨H1,I1,q1⟩=>?_);cases c with
 |true=>exact hb wh pins s1 σ H1 Q I1 q1
 |false=>exact⟨H1,I1,q1⟩
theorem dL(ha:PT X a tA)(hb:PW X (.BoolOp .Or (b::rest) pos) tB'):PW X (.BoolOp .Or (a::b::rest) pos) (tOr tA tB'):=by
 intro wh pins s σ H Q I h;refine isTrue_or (thn (ha pins s σ H _ I h) λc s1 ⟨H1,I1,q1⟩=>?_);cases c with
 |true=>exact⟨H1,I1,q1⟩
 |false=>exact hb wh pins s1 σ H1 Q I1 q1
theorem dM(ha:PT X a tA):PT X (.UnaryOp .Not a pos) (ke tA):=by intro pins s σ H Q I h;exact isTrue_not (ha pins s σ H (λc H1=>Q (!c) H1) I h)
end
noncomputable def SqL(K:PySem.W.Frag)(H:Hp)(a:Addr)(xs:List V):Prop :=
 Rd H a (.lst xs) \/
  ∃(o:Obj) (its:Array Value) (n:Nat),K.lookup a=some o/\o.cls=.type "list"/\o.dict=none/\o.data=.seq its n/\its.size<=sizeLine/\Vals xs its.toList
noncomputable def SqT(K:PySem.W.Frag)(H:Hp)(a:Addr)(xs:List V):Prop :=
 Rd H a (.tup xs) \/
  ∃(o:Obj) (its:Array Value) (n:Nat),K.lookup a=some o/\o.cls=.type "tuple"/\o.data=.seq its n/\its.size<=sizeLine/\Vals xs its.toList
noncomputable def u8:Value->Option V
 |.none=>some .non
 |.bool b=>some (.bl b)
 |.int i _=>some (.int i)
 |.str x _=>some (.str x)
 |.bytes b _=>some (.byt b)
 |.float b _=>some (.flt b)
 |.ref a=>some (.ref a)
 |.type n=>some (.ty n)
 |_=>none
theorem RelV.abs{x:V}{u:Value}(r:RelV x u):u8 u=some x:=by
 cases x with
 |non=>cases r;rfl
 |bl _=>cases r;rfl
 |int _=>obtain⟨t,rfl⟩:=r;rfl
 |str _=>obtain⟨t,rfl⟩:=r;rfl
 |byt _=>obtain⟨t,rfl⟩:=r;rfl
 |flt _=>obtain⟨t,rfl⟩:=r;rfl
 |ref _=>cases r;rfl
 |ty _=>cases r;rfl
theorem RelV.inj{x y:V}{u:Value}(r:RelV x u)(q:RelV y u):x=y:=Option.some.inj (r.abs.symm.trans q.abs)
theorem Vals.inj:∀{xs ys:List V} {us:List Value},Vals xs us->Vals ys us->xs=ys
 |_,_,_,.nil,.nil=>rfl
 |_,_,_,.cons r t,.cons r' t'=>by rw[r.inj r',Vals.inj t t']
section
variable {X:Cx}{pins:List (Addr×Obj)}{σ:St}{H:Hp}{s:Shared}{a:Addr}{xs ys:List V}
theorem SqL.of{K:PySem.W.Frag}(h:H a=some (.lst xs)):SqL K H a xs:=.inl (.inl h)
theorem SqT.of{K:PySem.W.Frag}(h:H a=some (.tup xs)):SqT K H a xs:=.inl (.inl h)
theorem Inv.list(I:Inv X pins σ H s)(h:SqL X.K H a xs):∃its:List Value,Vals xs its/\PlainL s.heap a its.toArray/\xs.length<=sizeLine:=by
 rcases h with h |⟨o,its,n,hk,hc,hd,hs,hz,r⟩
 ·obtain⟨z,its,n,r,e⟩:=h.ok I.hok;exact⟨its,r,⟨_,n,e,rfl,rfl,rfl⟩,z⟩
 ·refine⟨its.toList,r,⟨o,n,I.kIn a o hk,hc,hd,by simpa using hs⟩,?_⟩;have e:=r.length;simp only[Array.length_toList]at e;omega
theorem Inv.tuple(I:Inv X pins σ H s)(h:SqT X.K H a xs):∃its:List Value,Vals xs its/\IsTup s.heap a its.toArray/\xs.length<=sizeLine:=by
 rcases h with h |⟨o,its,n,hk,hc,hs,hz,r⟩
 ·obtain⟨z,its,r,p⟩:=h.ok I.hok;exact⟨its,r,p,z⟩
 ·refine⟨its.toList,r,⟨o,I.kIn a o hk,hc,n,by simpa using hs⟩,?_⟩;have e:=r.length;simp only[Array.length_toList]at e;omega
theorem Inv.list_inj(I:Inv X pins σ H s)(h:SqL X.K H a xs)(h':SqL X.K H a ys):xs=ys:=by
 obtain⟨its,r,⟨o,n,e,_,_,d⟩,_⟩:=I.list h;obtain⟨its',r',⟨o',n',e',_,_,d'⟩,_⟩:=I.list h';rw[e]at e';cases e';rw[d]at d'
 injection d' with d1 _
 have:its=its':=by simpa using congrArg Array.toList d1
 subst this;exact r.inj r'
end
abbrev Cx.wish(X:Cx)(E:Value->Shared->Prop):Cx:={ X with xe:=E }
abbrev Cx.nox(X:Cx):Cx:=X.wish λ_ _=>False
theorem Cx.Ok.wish{X:Cx}(ok:X.Ok)(E:Value->Shared->Prop):(X.wish E).Ok :=
 ⟨ok.mod,ok.kind,ok.glob,ok.blt,ok.above,ok.inj,ok.has,ok.cab,ok.hd,ok.frames,ok.stk,ok.exf,ok.bs,ok.bsz,ok.noex,ok.exfs,ok.funs,ok.frf⟩
theorem Cx.Ok.unwish{X:Cx}{E:Value->Shared->Prop}(ok:(X.wish E).Ok):X.Ok :=
 ⟨ok.mod,ok.kind,ok.glob,ok.blt,ok.above,ok.inj,ok.has,ok.cab,ok.hd,ok.frames,ok.stk,ok.exf,ok.bs,ok.bsz,ok.noex,ok.exfs,ok.funs,ok.frf⟩
section
variable {X:Cx}{pins:List (Addr×Obj)}{σ:St}{H:Hp}{s:Shared}{E:Value->Shared->Prop}
theorem Inv.wish(I:Inv X pins σ H s)(E:Value->Shared->Prop):Inv (X.wish E) pins σ H s:=⟨I.ok.wish E,I.os,I.bare,I.base,I.loc,I.cell,I.free,I.freeC,I.pin,I.hok,I.len⟩
theorem Inv.unwish(I:Inv (X.wish E) pins σ H s):Inv X pins σ H s:=⟨I.ok.unwish,I.os,I.bare,I.base,I.loc,I.cell,I.free,I.freeC,I.pin,I.hok,I.len⟩
theorem SP.unwish{D:Ends}{f:Flow}{s':Shared}(h:SP (X.wish E) pins D f s'):SP X pins D f s':=by
 cases f with
 |next=>obtain⟨σ',H',I,q⟩:=h;exact⟨σ',H',I.unwish,q⟩
 |brk=>obtain⟨σ',H',I,q⟩:=h;exact⟨σ',H',I.unwish,q⟩
 |cont=>obtain⟨σ',H',I,q⟩:=h;exact⟨σ',H',I.unwish,q⟩
 |ret u=>obtain⟨v,σ',H',I,r,q⟩:=h;exact⟨v,σ',H',I.unwish,r,q⟩
theorem PE.nox{e:Expr}{t:TE}(h:PE X.nox e t):PE X e t:=λpins s σ H Q I hw =>wpAny_mono (h pins s σ H Q (I.wish _) hw) (λ_ _ ⟨v,H',I',r,q⟩=>⟨v,H',I'.unwish,r,q⟩) λ_ _ z=>False.elim z
theorem PT.nox{e:Expr}{t:TT}(h:PT X.nox e t):PT X e t:=λpins s σ H Q I hw =>wpAny_mono (h pins s σ H Q (I.wish _) hw) (λ_ _ ⟨H',I',q⟩=>⟨H',I'.unwish,q⟩) λ_ _ z=>False.elim z
theorem PSs.nox{st:List Stmt}{t:TS}(h:PSs X.nox st t):PSs X st t:=λpins s σ H D I hw =>wpAny_mono (h pins s σ H D (I.wish _) hw) (λ_ _ q=>q.unwish) λ_ _ z=>False.elim z
end
section
variable {X:Cx}{st:Stmt}{rest:List Stmt}{t u:TS}{e:Expr}{te:TE}{pos:Pos}
def kg:TS:=λD σ H=>D.nx σ H
def bD(t u:TS):TS:=λD σ H=>t { D with nx:=u D } σ H
theorem bj:PSs X [] kg:=λ_ _ σ H _ I h=>wpAny_execs_nil ⟨σ,H,I,h⟩
theorem ah(h1:PS X st t)(h2:PSs X rest u):PSs X (st::rest) (bD t u):=by
 intro pins s σ H D I h;refine wpAny_execs_cons (thn (h1 pins s σ H { D with nx:=u D } I h) λf s1 q=>?_);cases f with
 |next =>obtain⟨σ',H',I',q⟩:=q;exact h2 pins s1 σ' H' D I' q
 |ret v=>exact q
 |brk=>exact q
 |cont=>exact q
theorem al(h1:PS X st t):PSs X [st] t:=by
 intro pins s σ H D I h;refine wpAny_execs_cons (thn (h1 pins s σ H D I h) λf s1 q=>?_);cases f with
 |next=>exact wpAny_execs_nil q
 |ret v=>exact q
 |brk=>exact q
 |cont=>exact q
theorem Inv.quiet{pins:List (Addr×Obj)}{σ:St}{H:Hp}{s:Shared}(I:Inv X pins σ H s):interactive X.env=false:=by simp[interactive,I.ok.kind]
def gv(te:TE):TS:=λD σ H=>te σ H λ_ H1=>D.nx σ H1
theorem fH(he:PE X e te)(hs:swapsWith e none pos.line X.env=pure false:=by rfl):PS X (.Expr e pos) (gv te):=by intro pins s σ H D I h;exact wpAny_Expr_any (thn (he pins s σ H _ I h) λv s1 ⟨x,H1,I1,r1,q1⟩=>⟨σ,H1,I1,q1⟩) I.quiet hs
def kd(te:TE):TS:=λD σ H=>te σ H D.rt
theorem av(he:PE X e te):PS X (.Return (some e) pos) (kd te):=by intro pins s σ H D I h;exact wpAny_Return_some (thn (he pins s σ H _ I h) λv s1 ⟨x,H1,I1,r1,q1⟩=>⟨x,σ,H1,I1,r1,q1⟩)
def fu(c:TT)(t u:TS):TS:=λD σ H=>c σ H λb H1=>if b=true then t D σ H1 else u D σ H1
theorem bn{c:Expr}{a b:List Stmt}{tc:TT}(hc:PT X c tc)(ha:PSs X a t)(hb:PSs X b u):PS X (.If c a b pos) (fu tc t u):=by
 intro pins s σ H D I h;refine wpAny_If (thn (hc pins s σ H _ I h) λd s1 ⟨H1,I1,q1⟩=>?_);cases d with
 |true=>exact ha pins s1 σ H1 D I1 q1
 |false=>exact hb pins s1 σ H1 D I1 q1
end
abbrev TG:=V->St->Hp->(St->Hp->Prop)->Prop
abbrev TGs:=List V->St->Hp->(St->Hp->Prop)->Prop
noncomputable def PG(X:Cx)(target:Expr)(t:TG):Prop :=
 ∀(pins:List (Addr×Obj)) (s:Shared) (σ:St) (H:Hp) (v:V) (u:Value) (Q:St->Hp->Prop),Inv X pins σ H s->RelV v u->t v σ H Q ->
  wpAny (model X.prog X.w) X.A (assign target X.env u) (λ_ s'=>∃σ' H',Inv X pins σ' H' s'/\Q σ' H') X.xe s
noncomputable def PGs(X:Cx)(ts:List Expr)(t:TGs):Prop :=
 ∀(pins:List (Addr×Obj)) (s:Shared) (σ:St) (H:Hp) (vs:List V) (us:List Value) (Q:St->Hp->Prop),Inv X pins σ H s->Vals vs us->t vs σ H Q ->
  wpAny (model X.prog X.w) X.A (assignInOrder ((assignEach ts X.env).map (·.2)) us) (λ_ s'=>∃σ' H',Inv X pins σ' H' s'/\Q σ' H') X.xe s
abbrev jK:=V->V->V->Hp->(Hp->Prop)->Prop
noncomputable def og(X:Cx)(t:jK):Prop :=
 ∀(pins:List (Addr×Obj)) (s:Shared) (σ:St) (H:Hp) (o i v:V) (ov iv u:Value) (Q:Hp->Prop),Inv X pins σ H s->RelV o ov->RelV i iv->RelV v u->t o i v H Q ->
  wpAny (model X.prog X.w) X.A (setItem ov iv u) (λ_ s'=>∃H',Inv X pins σ H' s'/\Q H') X.xe s
section
variable {X:Cx}{pos:Pos}
def cF(i:Nat):TG:=λv σ H Q=>Q (σ.set i (some v)) H
theorem aD{i:Nat}{x:Str}(hN:X.N.Nodup)(hi:X.N[i]?=some x)(hx:Loc X.env.scope x)(hf:X.fn x=true\/X.env.scope.names.lookup x=some .local:=by first |exact .inl rfl |exact .inr rfl |assumption):PG X (.Name x pos) (cF i):=by intro pins s σ H v u Q I r h;exact wpAny_assign_Name (kn I hN hi hx r (λs' I'=>⟨_,H,I',h⟩) hf)
noncomputable def t8:TGs:=λvs σ H Q=>vs=[]/\Q σ H
noncomputable def t9(t:TG)(u:TGs):TGs:=λvs σ H Q=>∃v r,vs=v::r/\t v σ H λσ' H'=>u r σ' H' Q
theorem lu:PGs X [] t8:=by intro pins s σ H vs us Q I r h;obtain⟨e,h⟩:=h;subst e;cases r;exact assignInOrder_nil ⟨σ,H,I,h⟩
theorem fL{e:Expr}{es:List Expr}{t:TG}{u:TGs}(h1:PG X e t)(h2:PGs X es u)
 (hs:(assignEach (e::es) X.env).map (·.2)=assign e X.env::(assignEach es X.env).map (·.2):=by rfl):PGs X (e::es) (t9 t u):=by
 intro pins s σ H vs us Q I r h;obtain⟨v,vr,e1,h⟩:=h;subst e1;cases r with
 |cons r rr =>rw[hs];refine assignInOrder_cons (thn (h1 pins s σ H _ _ _ I r h) λ_ s1 ⟨σ1,H1,I1,q1⟩=>?_);exact h2 pins s1 σ1 H1 _ _ Q I1 rr q1
def tZ(K:PySem.W.Frag)(n:Nat)(t:TGs):TG:=λv σ H Q=>∃a xs,v=.ref a/\SqT K H a xs/\xs.length=n/\t xs σ H Q
theorem lw{es:List Expr}{k:Nat}{t:TGs}{n:Nat}(hc:X.calm=true)(h:PGs X es t)
 (hn:(assignEach es X.env).length=n:=by rfl) (hst:(assignEach es X.env).findIdx? (·.1)=none:=by rfl):PG X (.Tuple es k pos) (tZ X.K n t):=by
 intro pins s σ H v u Q I r hw;obtain⟨a,xs,e1,hq,hl,hw⟩:=hw;subst e1;cases r;obtain⟨its,rv,ht,hz⟩:=I.tuple hq;refine assign_Tuple_tuple (I.ok.hd hc) ht (by simp[hn,<- hl,rv.length]) hst λh' hx=>?_
 have I1:Inv X pins σ H { s with heap:=h' }:=I.kept (t':=s.toks) λb o e=>hx b o (wY (Heap.lt_size e)) e
 exact h pins _ σ H xs _ Q I1 (by simpa using rv) hw
def t0(to ti:TE)(t:jK):TG:=λv σ H Q=>to σ H λo H1=>ti σ H1 λi H2=>t o i v H2 λH3=>Q σ H3
theorem qS{o i:Expr}{to ti:TE}{t:jK}(ho:PE X o to)(hi:PE X i ti)(hs:og X t)
 (ha:∀v,assign (.Subscript o i pos) X.env v=(do
   let ov <- holding [v] (eval o X.env)
   let iv <- holding [v,ov] (eval i X.env)
   standAt pos
   holding [v,ov,iv] (setItem ov iv v)
   release [v,ov,iv] []):=by intro _;rfl):PG X (.Subscript o i pos) (t0 to ti t):=by
 intro pins s σ H v u Q I r h;rw[ha];refine wpAny_bind (wpAny_holding (thn (ho pins s σ H _ I h) λov s1 ⟨x,H1,I1,r1,q1⟩=>?_));refine wpAny_bind (wpAny_holding (thn (hi pins s1 σ H1 _ I1 q1) λiv s2 ⟨y,H2,I2,r2,q2⟩=>?_));refine wpAny_bind (wpAny_standAt (wpAny_bind (wpAny_holding (thn (hs pins s2 σ H2 x y v ov iv u _ I2 r1 r2 r q2) λ_ s3 ⟨H3,I3,q3⟩=>?_))));exact wpAny_release ⟨σ,H3,I3,q3⟩
def cR(te:TE)(g:TG):TS:=λD σ H=>te σ H λx H1=>g x σ H1 D.nx
theorem qx{tg e:Expr}{te:TE}{g:TG}(he:PE X e te)(hg:PG X tg g)(hs:swapsWithSole [tg] e pos.line X.env=pure false:=by rfl)(hw:swappedStores [tg] e X.env=pure none:=by rfl)
 (h1:(assignEach [tg] X.env).map (·.2)=[assign tg X.env]:=by rfl):PS X (.Assign [tg] e pos) (cR te g):=by
 intro pins s σ H D I h;refine wpAny_Assign_stores (thn (he pins s σ H _ I h) λv s1 ⟨x,H1,I1,r1,q1⟩=>?_) hs hw;rw[h1];exact thn (hg pins s1 σ H1 x v _ I1 r1 q1) λ_ s2 q=>q
theorem ak{i:Nat}{x:Str}{e:Expr}{te:TE}{pos':Pos}(hN:X.N.Nodup)(hi:X.N[i]?=some x)(hx:Loc X.env.scope x)(he:PE X e te)(hs:swapsWith e (some (.Name x pos')) pos.line X.env=pure false:=by rfl)(hf:X.fn x=true\/X.env.scope.names.lookup x=some .local:=by first |exact .inl rfl |exact .inr rfl |assumption) :
 PS X (.Assign [.Name x pos'] e pos) (cR te (cF i)):=by
 intro pins s σ H D I h;refine wpAny_Assign_Name (thn (he pins s σ H _ I h) λv s1 ⟨y,H1,I1,r1,q1⟩=>?_) hs;exact kn I1 hN hi hx r1 (λs2 I2=>⟨_,H1,I2,q1⟩) hf
end
section
variable {X:Cx}{pos:Pos}
def ka(c:TT)(tb:TS):TS:=λD σ H=>∃W:Nat->St->Hp->Prop,(∃m,W m σ H)/\∀m σ H,W m σ H ->
 c σ H λb H1=>if b=true then ∃N:St->Hp->Prop,(∀σ' H',N σ' H'->∃m',m'<m/\W m' σ' H')/\tb { D with nx:=N,ct:=N,bk:=D.nx } σ H1 else D.nx σ H1
theorem dN{c:Expr}{body:List Stmt}{tc:TT}{tb:TS}(hp:PassesOwn (model X.prog X.w) X.A X.env X.xe)(hc:PT X c tc)(hb:PSs X body tb):PS X (.While c body [] pos) (ka tc tb):=by
 intro pins s σ H D I h;obtain⟨W,⟨m0,w0⟩,turn⟩:=h;refine wpAny_While (codeAny_whileLoop (λn s'=>∃σ' H',Inv X pins σ' H' s'/\W n σ' H') ?_ m0 ⟨σ,H,I,w0⟩);rintro n s1 ⟨σ1,H1,I1,w1⟩;refine wpAny_passesOwn hp (thn (hc pins s1 σ1 H1 _ I1 (turn n σ1 H1 w1)) λb s2 ⟨H2,I2,q2⟩=>?_);cases b with
 |true =>
  obtain⟨N,hN,q2⟩:=q2;rw[if_pos rfl];refine wpAny_passesOwn hp (thn (hb pins s2 σ1 H2 _ I2 q2) λf s3 q3=>?_);cases f with
  |next =>obtain⟨σ3,H3,I3,n3⟩:=q3;obtain⟨m',hm,w3⟩:=hN σ3 H3 n3;exact⟨m',hm,σ3,H3,I3,w3⟩
  |cont =>obtain⟨σ3,H3,I3,n3⟩:=q3;obtain⟨m',hm,w3⟩:=hN σ3 H3 n3;exact⟨m',hm,σ3,H3,I3,w3⟩
  |brk=>exact q3
  |ret v=>exact q3
 |false =>rw[if_neg xD];exact wpAny_execs_nil ⟨σ1,H2,I2,q2⟩
end
structure It where
 go:Nat->Hp->Prop
 yld:Nat->Hp->V->Hp->Prop
 stop:Nat->Hp->Prop
noncomputable def cp(X:Cx)(pins:List (Addr×Obj))(H:Hp)(b:Addr):Prop :=
 H b=none/\b≠X.env.locals/\b∉X.fs/\(b∈X.ex\/X.s₀.heap.objs.size<=b)/\(∀x c,X.env.cells.lookup x=some c->c≠b)/\∀p∈X.pn++pins,p.1≠b
theorem Inv.fpOk{X:Cx}{pins:List (Addr×Obj)}{σ:St}{H H':Hp}{s:Shared}{b:Addr}(I:Inv X pins σ H s)(hb:s.heap.objs.size<=b)(hn:H' b=none):cp X pins H' b:=by
 refine⟨hn,Nat.ne_of_gt (wX I.lt hb),I.nofs hb,.inr (xb I.sz hb),λx c e z=>?_,λp hp z=>?_⟩
 ·obtain⟨v,q⟩:=I.cell x c e;exact absurd (wX q.lt (by rw[z];exact hb)) (xn _)
 ·exact absurd (wX (Heap.lt_size (I.pin p hp).1) (by rw[z];exact hb)) (xn _)
structure Turn(P:Program)(w:World)(K:PySem.W.Frag)(tg:Expr)(J:It)(fp:List Addr)(it:Addr)(tn:Nat->Heap->Prop):Prop where
 mem:it∈fp
 obj:∀i h,tn i h->∀b∈fp,∃o,h.get? b=some o/\∀v,o.data≠.cell v
 keep:∀i h h',tn i h->(∀b∈fp,∀o,h.get? b=some o->h'.get? b=some o)->tn i h'
 item:∀(X:Cx),X.prog=P->X.w=w->X.K=K->X.calm=true->∀(i:Nat) (pins:List (Addr×Obj)) (s:Shared) (σ:St) (H:Hp) (E:Value->Shared->Prop),Inv X pins σ H s->(∀b∈fp,cp X pins H b)->tn i s.heap->J.go i H ->
  wpAny (model P w) X.A (pyNext (.ref it)) (λr s1=>∃u,r=some u /\
   wpAny (model P w) X.A (letOwnedTupleGo tg (.ref it) u) (λ_ s2=>∃x H',Inv X pins σ H' s2/\RelV x u/\J.yld i H x H'/\tn (i+1) s2.heap/\∀b∈fp,H' b=none) E s1) E s
 done:∀(X:Cx),X.prog=P->X.w=w->X.K=K->X.calm=true->∀(i:Nat) (pins:List (Addr×Obj)) (s:Shared) (σ:St) (H:Hp) (E:Value->Shared->Prop),Inv X pins σ H s->(∀b∈fp,cp X pins H b)->tn i s.heap->J.stop i H ->
  wpAny (model P w) X.A (pyNext (.ref it)) (λr s1=>r=none/\Inv X pins σ H s1) E s
 self:∀(A:Around) (i:Nat) (s:Shared) (Q:Value->Shared->Prop) (E:Value->Shared->Prop),tn i s.heap->Q (.ref it) s->wpAny (model P w) A (pyIter (.ref it)) Q E s
abbrev TI:=St->Hp->(It->Hp->Prop)->Prop
noncomputable def PIE(X:Cx)(pins:List (Addr×Obj))(σ:St)(tg:Expr)(R:It->Hp->Prop)(itv:Value)(s2:Shared):Prop :=
 ∃(it:Addr) (fp:List Addr) (tn:Nat->Heap->Prop) (J:It) (H':Hp),itv=.ref it/\Inv X pins σ H' s2/\Turn X.prog X.w X.K tg J fp it tn/\tn 0 s2.heap/\(∀b∈fp,cp X pins H' b)/\R J H'
noncomputable def PI(X:Cx)(tg iter:Expr)(wi:TI):Prop :=
 ∀(pins:List (Addr×Obj)) (s:Shared) (σ:St) (H:Hp) (R:It->Hp->Prop),Inv X pins σ H s->wi σ H R ->
  wpAny (model X.prog X.w) X.A (eval iter X.env) (λv s1=>wpAny (model X.prog X.w) X.A (pyIter v) (PIE X pins σ tg R) X.xe s1) X.xe s
theorem ge{M:Model}{A:Around}{E:Value->Shared->Prop}{s:Shared}{tg:Expr}{it:Addr}{u:Value}{o:Obj}{n:String}{vs:Array Value}{Q:Unit->Shared->Prop}(ho:s.heap.get? it=some o)(hc:o.cls=.type n)(hd:o.data=.fields vs)
 (hn:["enumerate","zip","dict_itemiterator","dict_reverseitemiterator","odict_iterator","itertools.zip_longest","itertools.pairwise"].contains n=false) (hQ:Q () s):wpAny M A (letOwnedTupleGo tg (.ref it) u) Q E s:=by
 unfold letOwnedTupleGo
 cases tg<;>first
  |exact wpAny_pure hQ
  | (cases u<;>first
      |exact wpAny_pure hQ
      | (refine wpAny_bind (wpAny_load ho ?_)
         rw[hc,hd];show wpAny M A (if(["enumerate","zip","dict_itemiterator","dict_reverseitemiterator","odict_iterator","itertools.zip_longest","itertools.pairwise"].contains n&&vs[0]? == some (rawInt _))=true then _ else _) Q E s;rw[if_neg (by intro h;rw[hn,Bool.false_and]at h;cases h)]
         exact wpAny_pure hQ))
noncomputable def Itl(K:PySem.W.Frag)(a:Addr):It :=
 ⟨λi H=>∃xs x,SqL K H a xs/\xs[i]?=some x,λi H x H'=>H'=H/\∀xs,SqL K H a xs->xs[i]?=some x,λi H=>∃xs,SqL K H a xs/\xs.length<=i⟩
noncomputable def Itr(lo:Int)(n:Nat):It:=⟨λi _=>i<n,λi H x H'=>H'=H/\x=.int (lo+i),λi _=>n<=i⟩
theorem oK{P:Program}{w:World}{K:PySem.W.Frag}{tg:Expr}(a it:Addr):Turn P w K tg (Itl K a) [it] it (λi h=>h.IsListIter it a i) where
 mem:=by simp
 obj:=λi h st b hb=>by
  have e:b=it:=by simpa using hb
  subst e;obtain⟨o,e,c,d⟩:=st;exact⟨o,e,λv z=>by rw[d]at z;cases z⟩
 keep:=λi h h' st k=>st.at λo e=>k it (by simp) o e
 item:=by
  intro X hP hw hK hc i pins s σ H E I hf st hg;subst hP hw hK;obtain⟨xs,x,hq,hx⟩:=hg;obtain⟨its,rv,p,hz⟩:=I.list hq;obtain⟨u,hu,ru⟩:=rv.get hx;obtain⟨f0,f1,f2,f3,f4,f5⟩:=hf it (by simp);refine wpAny_pyNext_list_item st p.isList (x:=u) (by simpa using hu) λh' st' sb=>?_
  have I1:Inv X pins σ H { s with heap:=h' }:=I.turned (t':=s.toks) (λb o hb e=>(sb.2 b hb).trans e) f0 f1 f3 f4 f5;obtain⟨o,e,c,d⟩:=id st';exact⟨u,rfl,ge (s:={ s with heap:=h' }) e c d (by decide) ⟨x,H,I1,ru,⟨rfl,λys hy=>by rw[I.list_inj hy hq];exact hx⟩,st',λb hb=>(hf b hb).1⟩⟩
 done:=by intro X hP hw hK hc i pins s σ H E I hf st hg;subst hP hw hK;obtain⟨xs,hq,hx⟩:=hg;obtain⟨its,rv,p,hz⟩:=I.list hq;obtain⟨f0,f1,f2,f3,f4,f5⟩:=hf it (by simp);have hl:=rv.length;exact wpAny_pyNext_list_end (I.ok.hd hc) st p.isList (by simp;omega) λh' eb=>⟨rfl,I.turned (t':=s.toks) (λb o hb e=>eb b o hb e) f0 f1 f3 f4 f5⟩
 self:=λ_ _ _ _ _ st h=>wpAny_pyIter_listiter st h
theorem oJ{P:Program}{w:World}{K:PySem.W.Frag}{tg:Expr}(it:Addr)(lo:Int)(n:Nat):Turn P w K tg (Itr lo n) [it] it (λi h=>IsRangeIter h it (lo+(i:Nat)*1) ((n:Int)-(i:Nat)) 1) where
 mem:=by simp
 obj:=λi h st b hb=>by
  have e:b=it:=by simpa using hb
  subst e
  exact⟨_,st,λv z=>by
   have z':Data.fields _=Data.cell v:=z
   cases z'⟩
 keep:=λi h h' st k=>k it (by simp) _ st
 item:=by
  intro X hP hw hK hc i pins s σ H E I hf st hg;subst hP hw hK;obtain⟨f0,f1,f2,f3,f4,f5⟩:=hf it (by simp);have W:=Walks.range (prog:=X.prog) (w:=X.w) (I.ok.hd hc) it lo 1 n;refine W.item i s _ _ hg st λv h' tk hv st' kk=>?_
  obtain⟨t,rfl⟩:=hv;have I1:Inv X pins σ H { s with heap:=h',toks:=tk }:=I.turned (λb o hb e=>kk b o (by simpa using hb) e) f0 f1 f3 f4 f5;refine⟨_,rfl,ge (s:={ s with heap:=h',toks:=tk }) (n:="range_iterator") st' rfl rfl (by decide) ⟨.int (lo+i),H,I1,⟨t,?_⟩,⟨rfl,rfl⟩,st',λb hb=>(hf b hb).1⟩⟩;rw[xE]
 done:=by intro X hP hw hK hc i pins s σ H E I hf st hg;subst hP hw hK;obtain⟨f0,f1,f2,f3,f4,f5⟩:=hf it (by simp);exact wpAny_pyNext_range_end (I.ok.hd hc) st (by have:n<=i:=hg;omega) λh' eb=>⟨rfl,I.turned (t':=s.toks) (λb o hb e=>eb b o hb e) f0 f1 f3 f4 f5⟩
 self:=λ_ _ _ _ _ st h=>wpAny_pyIter_rangeiter st h
section
variable {X:Cx}{tg:Expr}
def mH(K:PySem.W.Frag)(tl:TE):TI:=λσ H R=>tl σ H λx H1=>∃a,x=.ref a/\(∃xs,SqL K H1 a xs)/\R (Itl K a) H1
theorem qR{l:Expr}{tl:TE}(hl:PE X l tl):PI X tg l (mH X.K tl):=by
 intro pins s σ H R I h;refine thn (hl pins s σ H _ I h) λv s1 ⟨x,H1,I1,r1,q1⟩=>?_
 obtain⟨a,e,⟨xs,hq⟩,q⟩:=q1;subst e;cases r1;obtain⟨its,rv,p,hz⟩:=I1.list hq;refine wpAny_pyIter_list p.isList ?_;refine⟨s1.heap.objs.size,[s1.heap.objs.size],_,_,H1,rfl,I1.kept (t':=s1.toks) λb o e=>Heap.get?_push_of_some _ e,oK a _,⟨_,Heap.get?_push_size _ rfl,rfl,rfl⟩,λb hb=>?_,q⟩;have e:b=s1.heap.objs.size:=by simpa using hb
 subst e;exact I1.fpOk (wG _) (I1.hok.fresh (wG _))
theorem k6{pins:List (Addr×Obj)}{σ:St}{H:Hp}{s:Shared}{R:It->Hp->Prop}{E:Value->Shared->Prop}{lo hi:Int}{t u v:Tok}{tk:Nat}(I:Inv X pins σ H s)(h1 : -(2^62)<=lo)(h2:lo<2^62)(h3 : -(2^62)<=hi)(h4:hi<2^62)
 (q:R (Itr lo (hi-lo).toNat) H):wpAny (model X.prog X.w) X.A (pyIter (.ref s.heap.objs.size)) (PIE X pins σ tg R) E { s with heap:=s.heap.push { cls:=.type "range",data:=.fields #[.int lo t,.int hi u,.int 1 v] },toks:=tk }:=by
 refine wpAny_pyIter_range (IsRange.new ..) (small_one h1 h2 h3 h4) ?_;have I1:Inv X pins σ H { s with heap:=s.heap.push { cls:=.type "range",data:=.fields #[.int lo t,.int hi u,.int 1 v] },toks:=tk }:=I.kept λb o e=>Heap.get?_push_of_some _ e
 refine⟨(s.heap.push { cls:=.type "range",data:=.fields #[.int lo t,.int hi u,.int 1 v] }).objs.size,[(s.heap.push { cls:=.type "range",data:=.fields #[.int lo t,.int hi u,.int 1 v] }).objs.size],_,_,H,rfl,
  I1.kept (t':=tk) λb o e=>Heap.get?_push_of_some _ e,oJ _ lo (hi-lo).toNat,?_,λb hb=>?_,q⟩
 ·have e1:lo+((0:Nat):Int)*1=lo:=by simp
  have e2:(((hi-lo).toNat:Nat):Int)-((0:Nat):Int)=Builtin.Range.rangeSize lo hi 1:=by rw[rangeSize_one];split<;>omega
  show IsRangeIter _ _ (lo+((0:Nat):Int)*1) ((((hi-lo).toNat:Nat):Int)-((0:Nat):Int)) 1;rw[e1,e2];exact Heap.get?_push_size _ rfl
 ·have e:b=(s.heap.push { cls:=.type "range",data:=.fields #[.int lo t,.int hi u,.int 1 v] }).objs.size:=by simpa using hb
  subst e;exact I1.fpOk (wG _) (I1.hok.fresh (wG _))
def tI(ta:TA):TI:=λσ H R=>ta σ H λvs H1=>∃j:Int,vs=[.int j] /\ -(2^62)<=j/\j<2^62/\R (Itr 0 j.toNat) H1
def tH(ta:TA):TI:=λσ H R=>ta σ H λvs H1=>∃i j:Int,vs=[.int i,.int j]/\(-(2^62)<=i/\i<2^62 /\ -(2^62)<=j/\j<2^62)/\R (Itr i (j-i).toNat) H1
theorem bI{a:Expr}{ta:TA}{p pos:Pos}(hg:Gl X "range")(hm:X.mg "range"=none)(ha:PA X [a] ta)(hs:starEach [a] X.env=[(false,eval a X.env)]:=by rfl):PI X tg (.Call (.Name "range" p) [a] [] pos) (tI ta):=by
 intro pins s σ H R I h;refine Call_ (cb I hg hm boot_range (PyProof.Rows.callWith_type1 (thn (ha pos pins s σ H _ I h) λus s1 ⟨vs,H1,I1,r1,q1⟩=>?_) hs rfl));obtain⟨j,e,q1,q2,q⟩:=q1;subst e;cases r1 with
 |cons r rr =>cases rr;obtain⟨t,rfl⟩:=r;exact call_range_1 (k6 I1 (by omega) (by omega) q1 q2 (by simpa using q))
theorem iJ{a b:Expr}{ta:TA}{p pos:Pos}(hg:Gl X "range")(hm:X.mg "range"=none)(ha:PA X [a,b] ta)(hs:starEach [a,b] X.env=[(false,eval a X.env),(false,eval b X.env)]:=by rfl)(hs2:starEach [b] X.env=[(false,eval b X.env)]:=by rfl) :
 PI X tg (.Call (.Name "range" p) [a,b] [] pos) (tH ta):=by
 intro pins s σ H R I h;refine Call_ (cb I hg hm boot_range (PyProof.Rows.callWith_type1 (thn (ha pos pins s σ H _ I h) λus s1 ⟨vs,H1,I1,r1,q1⟩=>?_) (by rw[hs,hs2]) (by rw[hs2];rfl)));obtain⟨i,j,e,⟨q1,q2,q3,q4⟩,q⟩:=q1;subst e;cases r1 with
 |cons r rr =>
  cases rr with
  |cons r' rr =>cases rr;obtain⟨t,rfl⟩:=r;obtain⟨t',rfl⟩:=r';exact call_range_2 (k6 I1 q1 q2 q3 q4 q)
def o7(wi:TI)(g:TG)(tb:TS):TS:=λD σ H=>wi σ H λJ H1=>∃W:Nat->Nat->St->Hp->Prop,(∃m,W 0 m σ H1)/\∀i m σ H,W i m σ H ->
 (J.stop i H/\D.nx σ H)\/(J.go i H/\∃N:St->Hp->Prop,(∀σ' H',N σ' H'->∃m',m'<m/\W (i+1) m' σ' H')/\∀x H',J.yld i H x H'->g x σ H' λσ2 H2=>tb { D with nx:=N,ct:=N,bk:=D.nx } σ2 H2)
noncomputable def fK(fp:List Addr)(h:Heap):List (Addr×Obj):=fp.filterMap λb=>(h.get? b).map λo=>(b,o)
theorem ga{fp:List Addr}{h:Heap}{b:Addr}{o:Obj}(hb:b∈fp)(e:h.get? b=some o):(b,o)∈fK fp h:=List.mem_filterMap.mpr ⟨b,hb,by rw[e];rfl⟩
theorem rN{fp:List Addr}{h:Heap}{p:Addr×Obj}(hp:p∈fK fp h):p.1∈fp/\h.get? p.1=some p.2:=by
 obtain⟨b,hb,e⟩:=List.mem_filterMap.mp hp;cases q:h.get? b with
 |none=>rw[q]at e;cases e
 |some o =>rw[q]at e;have e':(b,o)=p:=Option.some.inj e;subst e';exact⟨hb,q⟩
theorem Inv.pinned{pins:List (Addr×Obj)}{σ:St}{H:Hp}{s:Shared}{fp:List Addr}(I:Inv X pins σ H s)(hf:∀b∈fp,cp X pins H b)(ho:∀b∈fp,∃o,s.heap.get? b=some o/\∀v,o.data≠.cell v):Inv X (pins++fK fp s.heap) σ H s :=
 I.pins_of λp hp=>(wQ.mp hp).elim (λz=>I.pin p (xi _ z)) λz=>by obtain⟨hb,e⟩:=rN z;obtain⟨f0,f1,f2,_⟩:=hf p.1 hb;obtain⟨o,e',d⟩:=ho p.1 hb;rw[e]at e';cases e';exact⟨e,f0,f1,f2,d⟩
theorem Inv.unpinned{pins pl:List (Addr×Obj)}{σ:St}{H:Hp}{s:Shared}(I:Inv X (pins++pl) σ H s):Inv X pins σ H s:=I.pins_of λp hp=>I.pin p (xi _ (xX _ hp))
theorem b7{iter:Expr}{body:List Stmt}{wi:TI}{g:TG}{tb:TS}{pos:Pos}(hp:PassesOwn (model X.prog X.w) X.A X.env X.xe)(hc:X.calm=true)(hi:PI X tg iter wi)(hg:PG X tg g)(hb:PSs X body tb)
 (hs:∀x,foldedSetIterable iter X.env x=pure x:=by intro _;rfl):PS X (.For tg iter body [] pos) (o7 wi g tb):=by
 intro pins s σ H D I h;refine wpAny_For (thn (hi pins s σ H _ I h) λv s1 h1=>thn h1 λitv s2 h2=>?_) hs;obtain⟨it,fp,tn,J,H2,e,I2,T,st2,f2,W,⟨m0,w0⟩,turn⟩:=h2;subst e;have stat:∀{H':Hp},(∀b∈fp,H' b=none)->∀b∈fp,cp X pins H' b:=λhn b hb=>⟨hn b hb,(f2 b hb).2⟩
 refine codeAny_forLoop_any (λn s'=>∃i σ' H',Inv X pins σ' H' s'/\tn i s'.heap/\(∀b∈fp,H' b=none)/\W i n σ' H') ?_ m0 ⟨0,σ,H2,I2,st2,λb hb=>(f2 b hb).1,w0⟩;rintro n s3 ⟨i,σ3,H3,I3,st3,fr3,w3⟩;rcases turn i n σ3 H3 w3 with⟨stop,qn⟩ |⟨go,N,hN,step⟩
 ·refine wpAny_passesOwn hp (thn (T.done X rfl rfl rfl hc i pins s3 σ3 H3 X.xe I3 (stat fr3) st3 stop) λr s4 ⟨hr,I4⟩=>?_);subst hr;exact wpAny_execs_nil ⟨σ3,H3,I4,qn⟩
 ·refine wpAny_passesOwn hp (thn (T.item X rfl rfl rfl hc i pins s3 σ3 H3 X.xe I3 (stat fr3) st3 go) λr s4 ⟨u,hr,h4⟩=>?_);subst hr;refine wpAny_passesOwn hp (thn h4 λ_ s5 ⟨x,H5,I5,r5,y5,st5,fr5⟩=>?_);have I5':=I5.pinned (stat fr5) (T.obj _ _ st5);refine wpAny_passesOwn hp (thn (hg _ s5 σ3 H5 x u _ I5' r5 (step x H5 y5)) λ_ s6 ⟨σ6,H6,I6,q6⟩=>?_);refine wpAny_passesOwn hp (thn (hb _ s6 σ6 H6 _ I6 q6) λf s7 q7=>?_)
  have again:∀{σ7:St} {H7:Hp},Inv X (pins++fK fp s5.heap) σ7 H7 s7->N σ7 H7->∃m,m<n/\∃i σ' H',Inv X pins σ' H' s7/\tn i s7.heap/\(∀b∈fp,H' b=none)/\W i m σ' H':=λ{σ7 H7} I7 n7=>by obtain⟨m',hm,w7⟩:=hN σ7 H7 n7;refine⟨m',hm,i+1,σ7,H7,I7.unpinned,T.keep _ _ _ st5 λb hb o e=>(I7.pin (b,o) (xi _ (xi _ (ga hb e)))).1,λb hb=>?_,w7⟩;obtain⟨o,e,d⟩:=T.obj _ _ st5 b hb;exact(I7.pin (b,o) (xi _ (xi _ (ga hb e)))).2.1
  cases f with
  |next=>obtain⟨σ7,H7,I7,n7⟩:=q7;exact again I7 n7
  |cont=>obtain⟨σ7,H7,I7,n7⟩:=q7;exact again I7 n7
  |brk=>obtain⟨σ7,H7,I7,q7⟩:=q7;exact⟨σ7,H7,I7.unpinned,q7⟩
  |ret v=>obtain⟨x7,σ7,H7,I7,r7,q7⟩:=q7;exact⟨x7,σ7,H7,I7.unpinned,r7,q7⟩
end
theorem jn{K:PySem.W.Frag}{a:Addr}{xs:List V}{g:TG}{tb:TS}{D:Ends}{σ:St}{H:Hp}(Pv:Nat->St->Hp->Prop)(h0:Pv 0 σ H)(hl:∀i σ H,i<=xs.length->Pv i σ H->SqL K H a xs)
 (hs:∀i x σ H,xs[i]?=some x->Pv i σ H->g x σ H λσ2 H2=>tb { D with nx:=Pv (i+1),ct:=Pv (i+1),bk:=D.nx } σ2 H2) (hd:∀σ H,Pv xs.length σ H->D.nx σ H) :
 ∃W:Nat->Nat->St->Hp->Prop,(∃m,W 0 m σ H)/\∀i m σ H,W i m σ H ->
  ((Itl K a).stop i H/\D.nx σ H)\/((Itl K a).go i H/\∃N:St->Hp->Prop,(∀σ' H',N σ' H'->∃m',m'<m/\W (i+1) m' σ' H')/\∀x H',(Itl K a).yld i H x H'->g x σ H' λσ2 H2=>tb { D with nx:=N,ct:=N,bk:=D.nx } σ2 H2):=by
 refine⟨λi m σ H=>m=xs.length-i/\i<=xs.length/\Pv i σ H,⟨xs.length,by simp,wL _,h0⟩,?_⟩;rintro i m σ H ⟨rfl,hi,p⟩;have q:=hl i σ H hi p;by_cases hlt:i<xs.length
 ·refine .inr ⟨⟨xs,xs[i],q,by simp[hlt]⟩,Pv (i+1),λσ' H' p'=>⟨xs.length-(i+1),by omega,rfl,hlt,p'⟩,λx H' y=>?_⟩;obtain⟨e,y⟩:=y;subst e;exact hs i x σ _ (y xs q) p
 ·have e:i=xs.length:=by omega
  subst e;exact .inl ⟨⟨xs,q,wG _⟩,hd σ H p⟩
theorem jm{lo:Int}{n:Nat}{g:TG}{tb:TS}{D:Ends}{σ:St}{H:Hp}(Pv:Nat->St->Hp->Prop)(h0:Pv 0 σ H)
 (hs:∀i σ H,i<n->Pv i σ H->g (.int (lo+i)) σ H λσ2 H2=>tb { D with nx:=Pv (i+1),ct:=Pv (i+1),bk:=D.nx } σ2 H2) (hd:∀σ H,Pv n σ H->D.nx σ H) :
 ∃W:Nat->Nat->St->Hp->Prop,(∃m,W 0 m σ H)/\∀i m σ H,W i m σ H ->
  ((Itr lo n).stop i H/\D.nx σ H)\/((Itr lo n).go i H/\∃N:St->Hp->Prop,(∀σ' H',N σ' H'->∃m',m'<m/\W (i+1) m' σ' H')/\∀x H',(Itr lo n).yld i H x H'->g x σ H' λσ2 H2=>tb { D with nx:=N,ct:=N,bk:=D.nx } σ2 H2):=by
 refine⟨λi m σ H=>m=n-i/\i<=n/\Pv i σ H,⟨n,by simp,wL _,h0⟩,?_⟩;rintro i m σ H ⟨rfl,hi,p⟩;by_cases hlt:i<n
 ·refine .inr ⟨hlt,Pv (i+1),λσ' H' p'=>⟨n-(i+1),by omega,rfl,hlt,p'⟩,λx H' y=>?_⟩;obtain⟨e,y⟩:=y;subst e y;exact hs i σ _ hlt p
 ·have e:i=n:=by omega
  subst e;exact .inl ⟨wG _,hd σ H p⟩
abbrev R2:=V->V->Hp->VK->Prop
noncomputable def OpR(X:Cx)(f:Value->Value->Sem Value)(r:R2):Prop :=
 ∀(pins:List (Addr×Obj)) (s:Shared) (σ:St) (H:Hp) (x y:V) (v u:Value) (Q:VK),Inv X pins σ H s->RelV x v->RelV y u->r x y H Q ->
  wpAny (model X.prog X.w) X.A (f v u) (EP X pins σ Q) X.xe s
noncomputable def UnR(X:Cx)(f:Value->Sem Value)(r:V->Hp->VK->Prop):Prop :=
 ∀(pins:List (Addr×Obj)) (s:Shared) (σ:St) (H:Hp) (x:V) (v:Value) (Q:VK),Inv X pins σ H s->RelV x v->r x H Q ->
  wpAny (model X.prog X.w) X.A (f v) (EP X pins σ Q) X.xe s
noncomputable def bW(X:Cx)(f:Value)(r:List V->Hp->VK->Prop):Prop :=
 ∀(pins:List (Addr×Obj)) (s:Shared) (σ:St) (H:Hp) (xs:List V) (us:List Value) (Q:VK),Inv X pins σ H s->Vals xs us->r xs H Q ->
  wpAny (model X.prog X.w) X.A (call f us) (EP X pins σ Q) X.xe s
def tOp(r:R2)(ta tb:TE):TE:=λσ H Q=>ta σ H λx H1=>tb σ H1 λy H2=>r x y H2 Q
def tUn(r:V->Hp->VK->Prop)(ta:TE):TE:=λσ H Q=>ta σ H λx H1=>r x H1 Q
def rI(C:Int->Int->Prop)(g:Int->Int->V):R2:=λx y H Q=>∃i j,x=.int i/\y=.int j/\C i j/\Q (g i j) H
def rI0(g:Int->Int->V):R2:=λx y H Q=>∃i j,x=.int i/\y=.int j/\Q (g i j) H
noncomputable def rU(g:Int->V):V->Hp->VK->Prop:=λx H Q=>∃i,x=.int i/\Q (g i) H
section
variable {X:Cx}{a b c:Expr}{ta tb tc:TE}{pos:Pos}
theorem jF(ha:PE X a ta)(hb:PE X b tb){pins:List (Addr×Obj)}{s:Shared}{σ:St}{H:Hp}{R:V->V->Hp->Prop}(I:Inv X pins σ H s)
 (h:ta σ H λx H1=>tb σ H1 λy H2=>R x y H2) {Q:Value->Shared->Prop} {f:Value->Value->Sem Value}
 (hf:∀v u s2 x y H2,Inv X pins σ H2 s2->RelV x v->RelV y u->R x y H2->wpAny (model X.prog X.w) X.A (f v u) Q X.xe s2) :
 wpAny (model X.prog X.w) X.A (eval a X.env) (λv s₁=>wpAny (model X.prog X.w) X.A (eval b X.env) (λu s₂=>wpAny (model X.prog X.w) X.A (f v u) Q X.xe s₂) X.xe s₁) X.xe s:=by
 refine thn (ha pins s σ H _ I h) λv s1 ⟨x,H1,I1,r1,q1⟩=>?_
 refine thn (hb pins s1 σ H1 _ I1 q1) λu s2 ⟨y,H2,I2,r2,q2⟩=>?_
 exact hf v u s2 x y H2 I2 r1 r2 q2
theorem af{op:Operator}{r:R2}(ho:OpR X (binaryOp op) r)(ha:PE X a ta)(hb:PE X b tb):PE X (.BinOp a op b pos) (tOp r ta tb):=by intro pins s σ H Q I h;exact wpAny_BinOp (jF ha hb I h λv u s2 x y H2 I2 rx ry q=>ho pins s2 σ H2 x y v u Q I2 rx ry q)
theorem cz{op:UnaryOp}{r:V->Hp->VK->Prop}(ho:UnR X (unaryOp op) r)(ha:PE X a ta):PE X (.UnaryOp op a pos) (tUn r ta):=by intro pins s σ H Q I h;exact UnaryOp_ (thn (ha pins s σ H _ I h) λv s1 ⟨x,H1,I1,r1,q1⟩=>ho pins s1 σ H1 x v Q I1 r1 q1)
theorem opI{f:Value->Value->Sem Value}{C:Int->Int->Prop}{g:Int->Int->Int}
 (rule:∀(i j:Int) (t u:Tok) (s:Shared) (Q:Value->Shared->Prop) (E:Value->Shared->Prop),C i j->Q (.int (g i j) s.toks) { s with toks:=s.toks+1 }->wpAny (model X.prog X.w) X.A (f (.int i t) (.int j u)) Q E s) :
 OpR X f (rI C λi j=>.int (g i j)):=by
 intro pins s σ H x y v u Q I rx ry h;obtain⟨i,j,rfl,rfl,hc,q⟩:=h;obtain⟨t,rfl⟩:=rx;obtain⟨t',rfl⟩:=ry;exact rule i j t t' s _ _ hc ⟨.int (g i j),H,I.tok _,⟨_,rfl⟩,q⟩
theorem lJ{f:Value->Value->Sem Value}{g:Int->Int->Int}
 (rule:∀(i j:Int) (t u:Tok) (s:Shared) (Q:Value->Shared->Prop) (E:Value->Shared->Prop),Q (.int (g i j) s.toks) { s with toks:=s.toks+1 }->wpAny (model X.prog X.w) X.A (f (.int i t) (.int j u)) Q E s) :
 OpR X f (rI0 λi j=>.int (g i j)):=by
 intro pins s σ H x y v u Q I rx ry h;obtain⟨i,j,rfl,rfl,q⟩:=h;obtain⟨t,rfl⟩:=rx;obtain⟨t',rfl⟩:=ry;exact rule i j t t' s _ _ ⟨.int (g i j),H,I.tok _,⟨_,rfl⟩,q⟩
theorem dO{f:Value->Value->Sem Value}{g:Int->Int->Bool}
 (rule:∀(i j:Int) (t u:Tok) (s:Shared) (Q:Value->Shared->Prop) (E:Value->Shared->Prop),Q (.bool (g i j)) s->wpAny (model X.prog X.w) X.A (f (.int i t) (.int j u)) Q E s) :
 OpR X f (rI0 λi j=>.bl (g i j)):=by
 intro pins s σ H x y v u Q I rx ry h;obtain⟨i,j,rfl,rfl,q⟩:=h;obtain⟨t,rfl⟩:=rx;obtain⟨t',rfl⟩:=ry;exact rule i j t t' s _ _ ⟨.bl (g i j),H,I,rfl,q⟩
def vT(i j:Int):Prop:=0<=j/\j<=1000000/\i.natAbs<2^64
def CMul(i j:Int):Prop:=(-(2^64)<i/\i<2^64)\/(-(2^64)<j/\j<2^64)
theorem CMul.ok{i j:Int}(h:CMul i j):IntMulOk i j:=by
 rcases h with⟨h1,h2⟩ |⟨h1,h2⟩
 ·exact .of_left (intBits_le_64 h1 h2)
 ·exact .of_right (intBits_le_64 h1 h2)
theorem aE:OpR X (binaryOp .Add) (rI0 λi j=>.int (i+j)):=lJ λ_ _ _ _ _ _ _ q=>add_int q
theorem aT:OpR X (binaryOp .Sub) (rI0 λi j=>.int (i-j)):=lJ λ_ _ _ _ _ _ _ q=>sub_int q
theorem qX:OpR X (binaryOp .Mod) (rI (λ_ j=>0<j) λi j=>.int (i%j)):=opI λi j _ _ _ _ _ hc q=>by have h1:(0:Int)<j:=hc;exact mod_int' (by omega) (by rw[Int.fmod_eq_emod_of_nonneg i (by omega)];exact q)
theorem lH:OpR X (binaryOp .Pow) (rI vT λi j=>.int (i^j.toNat)):=opI λ_ _ _ _ _ _ _ hc q=>pow_int_small hc.1 hc.2.1 hc.2.2 q
theorem unI{f:Value->Sem Value}{g:Int->Int}
 (rule:∀(i:Int) (t:Tok) (s:Shared) (Q:Value->Shared->Prop) (E:Value->Shared->Prop),Q (.int (g i) s.toks) { s with toks:=s.toks+1 }->wpAny (model X.prog X.w) X.A (f (.int i t)) Q E s) :
 UnR X f (rU λi=>.int (g i)):=by
 intro pins s σ H x v Q I rx h;obtain⟨i,rfl,q⟩:=h;obtain⟨t,rfl⟩:=rx;exact rule i t s _ _ ⟨.int (g i),H,I.tok _,⟨_,rfl⟩,q⟩
theorem cq:UnR X (unaryOp .USub) (rU λi=>.int (-i)):=unI λ_ _ _ _ _ q=>neg_int q
end
section
variable {X:Cx}{a b c:Expr}{ta tb tc:TE}{pos:Pos}
theorem fW:OpR X (compareOp .Lt) (rI0 λi j=>.bl (decide (i<j))):=dO λ_ _ _ _ _ _ _ q=>lt_int q
theorem qY:OpR X (compareOp .LtE) (rI0 λi j=>.bl (decide (i<=j))):=dO λ_ _ _ _ _ _ _ q=>le_int q
theorem iO:OpR X (compareOp .Gt) (rI0 λi j=>.bl (decide (j<i))):=dO λ_ _ _ _ _ _ _ q=>gt_int q
theorem aM(b:Expr){op:CmpOp}(h:op≠.In:=by decide)(h2:op≠.NotIn:=by decide):behindInMarks op b=false:=by
 have e1:(op == CmpOp.In)=false:=by cases op<;>first |rfl |exact absurd rfl h
 have e2:(op == CmpOp.NotIn)=false:=by cases op<;>first |rfl |exact absurd rfl h2
 cases b<;>simp[behindInMarks,e1,e2]
theorem ly{op:CmpOp}{r:R2}(ho:OpR X (compareOp op) r)(ha:PE X a ta)(hb:PE X b tb)(hm:behindInMarks op b=false):PE X (.Compare a [op] [b] pos) (tOp r ta tb):=by intro pins s σ H Q I h;exact wpAny_Compare1 (jF ha hb I h λv u s2 x y H2 I2 rx ry q=>ho pins s2 σ H2 x y v u Q I2 rx ry q) hm
def oZ(t:TE):TT:=λσ H Q=>t σ H λx H'=>∃k,x=.bl k/\Q k H'
theorem aP{op:CmpOp}{r:R2}(ho:OpR X (compareOp op) r)(ha:PE X a ta)(hb:PE X b tb)(hm:behindInMarks op b=false):PT X (.Compare a [op] [b] pos) (oZ (tOp r ta tb)):=by
 intro pins s σ H Q I h
 refine wpAny_isTrue_Compare1 (thn (ha pins s σ H _ I h) λv s1 ⟨x,H1,I1,r1,q1⟩=>thn (hb pins s1 σ H1 _ I1 q1) λu s2 ⟨y,H2,I2,r2,q2⟩ =>thn (ho pins s2 σ H2 x y v u _ I2 r1 r2 q2) λc s3 ⟨z,H3,I3,r3,k,e,q3⟩=>?_) hm
 subst e;cases r3;exact wpAny_truthy_bool ⟨H3,I3,q3⟩
theorem i7:(sizeLine:Nat)<2^63:=by rw[sizeLine_eq];decide
theorem fi{x:V}{us:List Value}(r:Vals [x] us):∃u,us=[u]/\RelV x u:=by
 cases r with
 |cons r1 r2=>cases r2;exact⟨_,rfl,r1⟩
theorem j3{x y:V}{us:List Value}(r:Vals [x,y] us):∃u w',us=[u,w']/\RelV x u/\RelV y w':=by
 cases r with
 |cons r1 r2 =>
  cases r2 with
  |cons r3 r4=>cases r4;exact⟨_,_,rfl,r1,r3⟩
theorem nU:bW X (.builtin "abs") (λxs H Q=>∃i,xs=[.int i]/\Q (.int (if i<0 then -i else i)) H):=by intro pins s σ H xs us Q I r h;obtain⟨i,rfl,q⟩:=h;obtain⟨u,rfl,t,rfl⟩:=fi r;exact call_abs_int λu tk=>⟨.int (if i<0 then -i else i),H,I.tok _,⟨_,rfl⟩,q⟩
theorem nR(hc:X.calm=true):bW X (.builtin "max") (λxs H Q=>∃i j,xs=[.int i,.int j]/\Q (.int (if j>i then j else i)) H):=by
 intro pins s σ H xs us Q I r h;obtain⟨i,j,rfl,q⟩:=h;obtain⟨u,w',rfl,⟨t,rfl⟩,⟨t',rfl⟩⟩:=j3 r;refine max_two_ints (I.ok.hd hc) λh' tk k=>⟨_,H,I.kept k,?_,q⟩
 by_cases hj:j>i
 ·rw[if_pos hj,if_pos hj];exact⟨_,rfl⟩
 ·rw[if_neg hj,if_neg hj];exact⟨_,rfl⟩
theorem uE(hc:X.calm=true):bW X (.builtin "min") (λxs H Q=>∃i j,xs=[.int i,.int j]/\Q (.int (if j<i then j else i)) H):=by
 intro pins s σ H xs us Q I r h;obtain⟨i,j,rfl,q⟩:=h;obtain⟨u,w',rfl,⟨t,rfl⟩,⟨t',rfl⟩⟩:=j3 r;refine min_two_ints (I.ok.hd hc) λh' tk k=>⟨_,H,I.kept k,?_,q⟩
 by_cases hj:j<i
 ·rw[if_pos hj,if_pos hj];exact⟨_,rfl⟩
 ·rw[if_neg hj,if_neg hj];exact⟨_,rfl⟩
end
structure ObjM(h:Heap)(x dx C:Addr)(mA:Str->Option Value):Prop where
 obj:h.get? x=some (PySem.W.instObj C dx)
 ns:h.Ns1 dx mA
 ne:dx≠x
theorem sE{h:Heap}{dx:Addr}{mA:Str->Option Value}(n:h.Ns1 dx mA):∃od,h.get? dx=some od/\∀name,PySem.W.lookIn name od=some (mA name):=by
 obtain⟨o,es,ep,ho,hd,hk,_,hm⟩:=n;refine⟨o,ho,λname=>?_⟩;have e:=hm name;unfold nsFind findBy at e
 rw[<- Array.find?_toList]at e;unfold PySem.W.lookIn;rw[hd];dsimp only
 split
 ·rename_i y q
  rw[q]at e;exact congrArg some e
 ·rename_i q
  rw[q]at e
  have a:es.toList.any (·.refKey)=false:=by rw[List.any_eq_false];intro y hy;obtain⟨z,t,hkey⟩:=hk y (Array.mem_toList_iff.mp hy);simp[DictEntry.refKey,hkey]
  have a':¬es.toList.any (·.refKey)=true:=by rw[a];exact xD
  rw[if_neg a'];exact congrArg some e
theorem ObjM.look{h:Heap}{x dx C:Addr}{mA:Str->Option Value}(I:ObjM h x dx C mA):∃od,PySem.W.InstAt h x (PySem.W.instObj C dx) C (some od)/\∀name,PySem.W.lookIn name od=some (mA name) :=
 let⟨od,ho,hl⟩:=sE I.ns
 ⟨od,⟨I.obj,rfl,rfl,ho⟩,hl⟩
section
variable {prog:Program}{w:World}{A:Around}{E:Value->Shared->Prop}{s:Shared}{K:PySem.W.Frag}{x dx C f:Addr}{mA:Str->Option Value}{name:Str}{v:Value}
end
section
variable {P:Program}{w:World}{H H':Hp}{h h':Heap}{a C dx:Addr}{fs fs':List (Str×V)}
theorem tF(hok:HOk P w H h)(e:H a=some (.ins C dx fs)):∃mA,ObjM h a dx C mA/\(∀f,jL (fs.lookup f) (mA f))/\PySem.Within mA (fs.map (·.1))/\fs.length<=1000/\H dx=some (.own a):=by obtain⟨d,z,ne,ob,mA,n,r,q⟩:=(show ObjOk P w H h a (.ins C dx fs)from hok a _ e);exact⟨mA,⟨ob,n,ne⟩,r,q,z,d⟩
end
structure Cls(K:PySem.W.Frag)(C:Addr):Prop where
 pg:PySem.W.plainGet K C Str.empty=true
 hd:PySem.W.hasDictIn K C=true
 po:PySem.W.plainOver K C=true
 sa:PySem.W.findIn K (.ref C) "__setattr__"=some (some (.builtin "object.__setattr__"))
theorem Cls.get{K:PySem.W.Frag}{C:Addr}(c:Cls K C)(f:Str):PySem.W.plainGet K C f=true:=c.pg
section
variable {X:Cx}{pins:List (Addr×Obj)}{σ:St}{H:Hp}{s:Shared}{a C dx:Addr}{fs:List (Str×V)}{f:Str}{v:V}{A:Around}{E:Value->Shared->Prop}
end
section
variable {X:Cx}{o e value:Expr}{f:Str}{pos pos' tpos:Pos}{ta tv:TE}
end
section
variable {X:Cx}{pins:List (Addr×Obj)}{σ:St}{H:Hp}{s:Shared}{A:Around}{E:Value->Shared->Prop}{Q:Value->Shared->Prop}{c:Value}{b:Bool}
inductive TyOf(K:PySem.W.Frag)(H:Hp):V->Value->Prop where
 |non:TyOf K H .non (.type "NoneType")
 |bl (x:Bool):TyOf K H (.bl x) (.type "bool")
 |int (i:Int):TyOf K H (.int i) (.type "int")
 |str (x:Str):TyOf K H (.str x) (.type "str")
 |flt (x:UInt64):TyOf K H (.flt x) (.type "float")
 |lst {a:Addr} {xs:List V} (e:H a=some (.lst xs)):TyOf K H (.ref a) (.type "list")
 |frz {a:Addr} {o:Obj} {xs:List V} (e:H a=some (.frz o (.lst xs))):TyOf K H (.ref a) (.type "list")
 |tup {a:Addr} {xs:List V} (e:H a=some (.tup xs)):TyOf K H (.ref a) (.type "tuple")
 |dK {a:Addr} {kvs:List (Key×V)} (e:H a=some (.dK kvs)):TyOf K H (.ref a) (.type "dict")
 |dT {a:Addr} {kvs:List (List Key×V)} (e:H a=some (.dT kvs)):TyOf K H (.ref a) (.type "dict")
 |ins {a C dx:Addr} {fs:List (Str×V)} (e:H a=some (.ins C dx fs)) (cl:Cls K C) (ha:PySem.W.findIn K (.ref C) "__class__"=some (some (.builtin "object.__class__")))
  (hn:PySem.W.specialIn K (.builtin "object.__class__") "__get__"=some (some (.builtin "getset_descriptor.__get__"))) (htk:PySem.W.takesIn K (.builtin "object.__class__")=some true)
  (hm:PySem.W.mroIn K C (.type "object")=some true):TyOf K H (.ref a) (.ref C)
theorem tz{x:V}{u t:Value}(I:Inv X pins σ H s)(rx:RelV x u)(ty:TyOf X.K H x t)(e:PySem.W.kitOne X.K t c=some b)(h:∀tk,Q (.bool b) { s with toks:=tk }) :
 wpAny (model X.prog X.w) A (call (.builtin "isinstance") [u,c]) Q E s:=by
 cases ty with
 |non=>cases(show u=Value.none from rx);exact PySem.W.kia_one PySem.W.kitx_none I.kIn True.intro e (λz=>nomatch z) h
 |bl y=>cases(show u=Value.bool y from rx);exact PySem.W.kia_one PySem.W.kitx_bool I.kIn True.intro e (λz=>nomatch z) h
 |int i=>obtain⟨t,q⟩:=(show ∃t,u=Value.int i t from rx);cases q;exact PySem.W.kia_one PySem.W.kitx_int I.kIn True.intro e (λz=>nomatch z) h
 |str y=>obtain⟨t,q⟩:=(show ∃t,u=Value.str y t from rx);cases q;exact PySem.W.kia_one PySem.W.kitx_str I.kIn True.intro e (λz=>nomatch z) h
 |flt y=>obtain⟨t,q⟩:=(show ∃t,u=Value.float y t from rx);cases q;exact PySem.W.kia_one PySem.W.kitx_float I.kIn True.intro e (λz=>nomatch z) h
 | @lst a xs ea =>cases(show u=Value.ref a from rx);obtain⟨_,_,n,_,h1⟩:=(show ObjOk X.prog X.w H s.heap a (.lst xs)from I.hok a _ ea);exact PySem.W.kia_one PySem.W.kitx_list I.kIn ⟨_,h1,rfl⟩ e (λz=>nomatch z) h
 | @frz a ob xs ea =>cases(show u=Value.ref a from rx);obtain⟨_,_,_,n,_,h1⟩:=(show ObjOk X.prog X.w H s.heap a (.frz ob (.lst xs))from I.hok a _ ea);exact PySem.W.kia_one PySem.W.kitx_list I.kIn ⟨_,h1,rfl⟩ e (λz=>nomatch z) h
 | @tup a xs ea =>cases(show u=Value.ref a from rx);obtain⟨_,_,_,p⟩:=(show ObjOk X.prog X.w H s.heap a (.tup xs)from I.hok a _ ea);obtain⟨o,h1,h2,_⟩:=p;exact PySem.W.kia_one PySem.W.kitx_tuple I.kIn ⟨o,h1,h2⟩ e (λz=>nomatch z) h
 | @dK a kvs ea =>cases(show u=Value.ref a from rx);obtain⟨_,_,vs,_,p⟩:=(show ObjOk X.prog X.w H s.heap a (.dK kvs)from I.hok a _ ea);obtain⟨o,es,ep,h1,h2,_⟩:=p;exact PySem.W.kia_one PySem.W.kitx_dict I.kIn ⟨o,h1,h2.1⟩ e (λz=>nomatch z) h
 | @dT a kvs ea =>cases(show u=Value.ref a from rx);obtain⟨_,_,xs,_,o,es,ep,h1,h2,_⟩:=(show ObjOk X.prog X.w H s.heap a (.dT kvs)from I.hok a _ ea);exact PySem.W.kia_one PySem.W.kitx_dict I.kIn ⟨o,h1,h2.1⟩ e (λz=>nomatch z) h
 | @ins a C dx fs ea cl ha hn htk hm =>cases(show u=Value.ref a from rx);obtain⟨mA,O,_⟩:=tF I.hok ea;obtain⟨od,J,_⟩:=O.look;exact PySem.W.kia_one (PySem.W.kitx_own (cl.get _) cl.hd ha hn htk hm) I.kIn J e (λz=>nomatch z) h
end
structure Room(k:Nat)(A:Around):Prop where
 hd:A.handled=none
 dp:A.depth+3*k+5<recursionLimit
 un:A.units+16*k+200<cLine
theorem Room.mono{j k:Nat}{A:Around}(r:Room k A)(h:j<=k:=by decide):Room j A:=⟨r.hd,by have:=r.dp;omega,by have:=r.un;omega⟩
theorem Room.deeper{k:Nat}{A:Around}(r:Room (k+1) A)(env:Env):Room k (A.deeper env) :=
 ⟨r.hd,by have:=r.dp;show A.depth+1+3*k+5<_;omega,by have:=r.un;show A.units+3+16*k+200<_;omega⟩
theorem Room.in1{k:Nat}{A:Around}(r:Room (k+1) A):Room k A.in1 :=
 ⟨r.hd,by have:=r.dp;show A.depth+3*k+5<_;omega,by have:=r.un;show A.units+1+16*k+200<_;omega⟩
theorem Room.depth{k:Nat}{A:Around}(r:Room k A):A.depth<recursionLimit:=by have:=r.dp;omega
theorem Room.units{k:Nat}{A:Around}(r:Room k A):A.units+64<cLine:=by have:=r.un;omega
def kf:TA:=λ_ H Q=>Q [] H
def gw(ta:TE)(tr:TA):TA:=λσ H Q=>ta σ H λx H1=>tr σ H1 λxs H2=>Q (x::xs) H2
section
variable {X:Cx}{e:Expr}{es:List Expr}{te:TE}{t:TA}{pos:Pos}
theorem ac:PA X [] kf:=λ_ _ _ _ H Q I h=>Calls.spliced_nil ⟨[],H,I,.nil,h⟩
theorem aa(ha:PE X e te)(hr:PA X es t)(hs:starEach (e::es) X.env=(false,eval e X.env)::starEach es X.env:=by rfl):PA X (e::es) (gw te t):=by intro pos pins s σ H Q I h;rw[hs];show wpAny _ _ (spliced ((false,eval e X.env)::backTo pos (starEach es X.env))) _ _ s;refine Calls.spliced_cons (thn (ha pins s σ H _ I h) λu s1 ⟨x,H1,I1,r1,q1⟩=>?_);exact thn (hr pos pins s1 σ H1 _ I1 q1) λus s2 ⟨xs,H2,I2,r2,q2⟩=>⟨x::xs,H2,I2,.cons r1 r2,q2⟩
def o5(t:TA):TE:=λσ H Q=>t σ H λxs H1=>xs.length<=sizeLine/\∀p,H1 p=none->Q (.ref p) (upd H1 p (.lst xs))
theorem aL(h:PA X es t):PE X (.List es pos) (o5 t):=by intro pins s σ H Q I hq;refine wpAny_List_spliced (thn (h pos pins s σ H _ I hq) λus s1 ⟨xs,H1,I1,r,z,q⟩=>⟨by rw[<- r.length];exact z,?_⟩);have hf:H1 s1.heap.objs.size=none:=I1.hok.fresh (wG _);refine⟨.ref s1.heap.objs.size,upd H1 s1.heap.objs.size (.lst xs),I1.laid (t':=s1.toks) (λb u e=>Heap.get?_push_of_some _ e) (wG _) ?_,rfl,q _ hf⟩;exact⟨z,us,0,r,Heap.get?_push_size _ rfl⟩
end
abbrev Sp:=List V->Hp->VK->XK->Prop
abbrev CXT:=List Env->Hp->Shared->XK->Value->Shared->Prop
structure Env0(P:Program)(w:World)(K:PySem.W.Frag)(mg:Str->Option Value)(base:Heap)(A:Around)(outer:List Env)(s:Shared)(H:Hp):Prop where
 frames:A.frames=some outer
 mod:Mod K mg base
 bs:∀b o,base.get? b=some o->s.heap.get? b=some o/\H b=none
 bsz:base.objs.size<=s.heap.objs.size
 funs:s.heap.FunFrames base outer
 frf:∀b∈frs outer,H b=none
 hok:HOk P w H s.heap
 bare:AllBare s.gens
noncomputable def CE(outer:List Env)(P:Program)(w:World)(H:Hp)(s:Shared)(Q:VK)(u:Value)(s':Shared):Prop :=
 ∃v H',s'.os=s.os/\AllBare s'.gens/\Un (frs outer) [] H H' s.heap s'.heap/\HOk P w H' s'.heap/\RelV v u/\Q v H'
noncomputable def CR(CX:CXT)(outer:List Env)(P:Program)(w:World)(H:Hp)(s:Shared)(Q:VK)(E:XK)(r:Result)(s':Shared):Prop :=
 match r with
 |.ok (.ret u)=>CE outer P w H s Q u s'
 |.ok _=>False
 |.error e=>CX outer H s E e s'
structure FnOk(P:Program)(w:World)(K:PySem.W.Frag)(mg:Str->Option Value)(base:Heap)(CX:CXT)(k:Nat)(f:Addr)(fd:FuncData)(ps:List Str)(sp:Sp):Prop where
 len:∀vs H Q E,sp vs H Q E->vs.length=ps.length
 run:∀(A:Around) (outer:List Env) (s:Shared) (H:Hp) (args:Args) (us:List Value) (vs:List V) (Q:VK) (E:XK),Room k A->Env0 P w K mg base A outer s H->BindsTo s fd args (ps.zip us)->Vals vs us->sp vs H Q E ->
  codeAny (model P w) A (.call (.ref f) args) (CR CX outer P w H s Q E) s
theorem FnOk.mono{P:Program}{w:World}{K:PySem.W.Frag}{mg:Str->Option Value}{base:Heap}{CX:CXT}{j k:Nat}{f:Addr}{fd:FuncData}{ps:List Str}{sp:Sp}(F:FnOk P w K mg base CX j f fd ps sp)(h:j<=k:=by decide) :
 FnOk P w K mg base CX k f fd ps sp:=⟨F.len,λA outer s H args us vs Q E hr=>F.run A outer s H args us vs Q E (hr.mono h)⟩
section
variable {X:Cx}{pins:List (Addr×Obj)}{σ:St}{H:Hp}{s s':Shared}
theorem Inv.env0(I:Inv X pins σ H s):Env0 X.prog X.w X.K X.mg X.base X.A X.stack s H :=
 ⟨I.ok.frames,I.ok.mod,I.bs,xb I.ok.bsz I.sz,I.stack,I.stkFree,I.hok,I.bare⟩
theorem Inv.after{Q:VK}{u:Value}(I:Inv X pins σ H s)(h:CE X.stack X.prog X.w H s Q u s'):EP X pins σ Q u s':=by obtain⟨v,H',os,bare,un,hok,r,q⟩:=h;obtain⟨hh,g,d,t,os'⟩:=s';obtain rfl:os'=s.os:=os;exact⟨v,H',I.call (h':=hh) (g':=g) (d':=d) (t':=t) (ch:=[]) un hok bare (λb z=>absurd z (by simp)),r,q⟩
end
def o8(sp:Sp)(dvs:List V)(E:XK)(t:TA):TE:=λσ H Q=>t σ H λvs H1=>sp (vs++dvs) H1 Q E
noncomputable def Binds(K:PySem.W.Frag)(fd:FuncData)(ps:List Str)(ds:List Value):Prop :=
 ∀(s:Shared) (us:List Value),K.In s.heap->(us++ds).length=ps.length->BindsTo s fd ⟨us,[]⟩ (ps.zip (us++ds))
theorem Binds.all{K:PySem.W.Frag}{fd:FuncData}{ps:List Str}(h:∀us:List Value,us.length=ps.length->bindArgs fd ⟨us,[]⟩=pure (ps.zip us)):Binds K fd ps []:=λs us _ hl=>by rw[List.append_nil]at hl ⊢;exact .of_eq (h us hl)
def jM(CX:CXT)(X:Cx)(E:XK):Prop:=∀(pins:List (Addr×Obj)) (σ:St) (H:Hp) (s:Shared) (e:Value) (s':Shared),Inv X pins σ H s->CX X.stack H s E e s'->X.xe e s'
section
variable {X:Cx}{CX:CXT}{k:Nat}{f C:Addr}{fd:FuncData}{ps:List Str}{sp:Sp}{dvs:List V}{ds:List Value}{E:XK}{x m:Str}{p pos apos:Pos}{e o:Expr}{es:List Expr}{ta:TE}{t:TA}
theorem pQ{pins:List (Addr×Obj)}{σ:St}{H:Hp}{s:Shared}{Q:VK}{us:List Value}{vs:List V}(F:FnOk X.prog X.w X.K X.mg X.base CX k f fd ps sp)(hr:Room k X.A)(hb:Binds X.K fd ps ds)(hd:Vals dvs ds)(hx:jM CX X E)
 (I:Inv X pins σ H s) (r:Vals vs us) (h:sp (vs++dvs) H Q E):wpAny (model X.prog X.w) X.A (call (.ref f) us) (EP X pins σ Q) X.xe s:=by
 have r2:Vals (vs++dvs) (us++ds):=r.append hd;have hl:(us++ds).length=ps.length:=by rw[<- r2.length];exact F.len _ _ _ _ h
 refine wpAny_call (codeAny_mono (F.run X.A X.stack s H ⟨us,[]⟩ (us++ds) (vs++dvs) Q E hr I.env0 (hb s us I.kIn hl) r2 h) λr s' hq=>?_);cases r with
 |error e=>exact hx pins σ H s e s' I hq
 |ok fl =>
  cases fl with
  |ret u=>exact I.after hq
  |next=>exact False.elim hq
  |brk=>exact False.elim hq
  |cont=>exact False.elim hq
theorem am(F:FnOk X.prog X.w X.K X.mg X.base CX k f fd ps sp)(hr:Room k X.A)(hg:Gl X x)(hm:X.mg x=some (.ref f))(hk:PySem.W.keepIn X.K (.ref f)=true)(hb:Binds X.K fd ps ds)(hd:Vals dvs ds)(hx:jM CX X E)
 (ha:PA X (e::es) t) (hdb:(x == ("__debug__":Str))=false:=by decide) (he:starEach (e::es) X.env=(false,eval e X.env)::starEach es X.env:=by rfl) (hpl:(backTo pos (starEach es X.env)).any (·.1)=false:=by rfl) :
 PE X (.Call (.Name x p) (e::es) [] pos) (o8 sp dvs E t):=by
 intro pins s σ H Q I h;refine wpAny_Call_Name_kw (sH I hg hm ?_ hdb);refine PySem.W.callWith_K (h₀:=X.base) I.ok.mod.kin hk (thn (ha pos pins s σ H _ I h) λus s1 ⟨vs,H1,I1,r,q⟩=>⟨I1.kIn,?_⟩) he hpl;exact pQ F hr hb hd hx I1 r q
end
section
variable {X:Cx}{CX:CXT}{k:Nat}{f C:Addr}{fd:FuncData}{ps ks:List Str}{sp:Sp}{E:XK}{x m:Str}{p pos apos kpos:Pos}{e o:Expr}{es:List Expr}{kws:List Keyword}{te ta:TE}{t tk:TA}{nm:Option Str}
variable {g:List Value->List Value->List Value}{gV:List V->List V->List V}
end
structure FnScope(N P:List Str)(sc:Scope):Prop where
 kind:sc.kind=.function
 co:sc.isCoroutine=false
 gen:sc.isGenerator=false
 nd:N.Nodup
 pre:N.take P.length=P
 par:∀x∈P,sc.names.lookup x=some .local\/sc.names.lookup x=some .cell
 nofree:∀y∈sc.names,y.2≠.free
theorem nW{kindOf:Str->Option NameKind}{x:Str}:∀{binds:List (Str×Value)} {m:Str->Option Value},(∀v,(x,v)∉binds)->bindL kindOf binds m x=m x
 | [],_,_=>rfl
 | (n,v)::r,m,h=>by
  unfold bindL;rw[nW λw hw=>h w (wP _ hw)];split
  ·have:x≠n:=by rintro rfl;exact h v wT
   simp[this]
  ·rfl
theorem nY{kindOf:Str->Option NameKind}{x:Str}:∀{binds:List (Str×Value)} {m:Str->Option Value},(∀v,(x,v)∉binds)->bindC kindOf binds m x=m x
 | [],_,_=>rfl
 | (n,v)::r,m,h=>by
  unfold bindC;rw[nY λw hw=>h w (wP _ hw)];split
  ·rfl
  ·have:x≠n:=by rintro rfl;exact h v wT
   simp[this]
theorem nX{kindOf:Str->Option NameKind}{x:Str}{v:Value}:∀{P:List Str} {vs:List Value} {i:Nat} {m:Str->Option Value},P.Nodup->P[i]?=some x->vs[i]?=some v->kindOf x=some .local ->
 bindL kindOf (P.zip vs) m x=some v
 | [],_,_,_,_,h,_,_=>by simp at h
 |_::_,[],_,_,_,_,h,_=>by simp at h
 |p::P,w::vs,0,m,nd,h1,h2,hk=>by
  simp at h1 h2;subst h1;subst h2
  show bindL kindOf ((p,w)::P.zip vs) m p=_;unfold bindL;rw[nW λv hv=>(List.nodup_cons.mp nd).1 (List.of_mem_zip hv).1,if_pos hk];simp
 |p::P,w::vs,i+1,m,nd,h1,h2,hk=>by show bindL kindOf ((p,w)::P.zip vs) m x=_;unfold bindL;exact nX (i:=i) (List.nodup_cons.mp nd).2 (by simpa using h1) (by simpa using h2) hk
theorem nZ{kindOf:Str->Option NameKind}{x:Str}{v:Value}:∀{P:List Str} {vs:List Value} {i:Nat} {m:Str->Option Value},P.Nodup->P[i]?=some x->vs[i]?=some v->kindOf x≠some .local ->
 bindC kindOf (P.zip vs) m x=some v
 | [],_,_,_,_,h,_,_=>by simp at h
 |_::_,[],_,_,_,_,h,_=>by simp at h
 |p::P,w::vs,0,m,nd,h1,h2,hk=>by
  simp at h1 h2;subst h1;subst h2
  show bindC kindOf ((p,w)::P.zip vs) m p=_;unfold bindC;rw[nY λv hv=>(List.nodup_cons.mp nd).1 (List.of_mem_zip hv).1,if_neg hk];simp
 |p::P,w::vs,i+1,m,nd,h1,h2,hk=>by show bindC kindOf ((p,w)::P.zip vs) m x=_;unfold bindC;exact nZ (i:=i) (List.nodup_cons.mp nd).2 (by simpa using h1) (by simpa using h2) hk
noncomputable def start(N:List Str)(vs:List V):St:=vs.map some++List.replicate (N.length-vs.length) none
noncomputable def dl(CX:CXT)(P:Program)(w:World)(K:PySem.W.Frag)(mg:Str->Option Value)(base:Heap)(N:List Str)(qual:Str)(scope:Scope)(f:Addr)(cd:Value)(A:Around)(outer:List Env)(s:Shared)(H:Hp)(E:XK):Cx where
 prog:=P
 w:=w
 K:=K
 mg:=mg
 base:=base
 A:=A.deeper (envOfC qual scope s.heap.objs.size f cd)
 N:=N
 s₀:=s
 H₀:=H
 env:=envOfC qual scope s.heap.objs.size f cd
 outer:=outer
 stack:=envOfC qual scope s.heap.objs.size f cd::outer
 ex:=[]
 calm:=true
 fn:=λ_=>true
 pn:=[]
 xe:=λe s'=>wpAny (model P w) (A.deeper (envOfC qual scope s.heap.objs.size f cd)) (leaving (envOfC qual scope s.heap.objs.size f cd) e) (λ_ s''=>CX outer H s E e s'') (λe' s''=>CX outer H s E e' s'') s'
theorem nQ{sc:Scope}{n:Nat}{x:Str}(h:sc.names.lookup x=some .cell):∃c,(cellsFrom n sc.names []).lookup x=some c:=by have q:=PySem.W.cellsFrom_some sc.names n [] (.inl h);exact Option.isSome_iff_exists.mp q
theorem tD{CX:CXT}{P:Program}{w:World}{K:PySem.W.Frag}{mg:Str->Option Value}{base:Heap}{N ps:List Str}{qual:Str}{scope:Scope}{f:Addr}{cd:Value}{A:Around}{outer:List Env}{s s1:Shared}{H:Hp}{E:XK}{us:List Value}{vs:List V}
 (S:FnScope N ps scope) (hd:A.handled=none) (e0:Env0 P w K mg base A outer s H) (hl:vs.length=ps.length) (r:Vals vs us)
 (x:InCallC s s.heap.objs.size (bindL (envOfC qual scope s.heap.objs.size f cd).kindOf (ps.zip us) λ_=>none) (cellsFrom (s.heap.objs.size+1) scope.names []) (bindC (envOfC qual scope s.heap.objs.size f cd).kindOf (ps.zip us) λ_=>none) s1) :
 Inv (dl CX P w K mg base N qual scope f cd A outer s H E) [] (start N vs) H s1:=by
 have hpl:ps.length<=N.length:=by have:=congrArg List.length S.pre;rw[wU]at this;omega
 obtain⟨h1,tk,rfl,hk⟩:=x.done;have noA:∀b:Addr,b∉(dl CX P w K mg base N qual scope f cd A outer s H E).ex:=λb z=>absurd (show b∈([]:List Addr)from z) (by simp)
 refine⟨⟨e0.mod,S.kind,rfl,rfl,wG _,λy z c h1 h2=>?_,λy hy=>?_,λy c _ h=>?_,λ_=>hd,Around.frames_deeper e0.frames,.inr ⟨rfl,rfl⟩,λb z=>absurd z (noA b),e0.bs,e0.bsz,λb _ _=>noA b,λb z=>absurd z (noA b),e0.funs,e0.frf⟩,
  rfl,e0.bare,Un.kept hk,⟨_,x.toInCall.ns,λi y v h1 h2 h3=>?_⟩,λy c h=>⟨_,x.cell y c h⟩,e0.hok.fresh (wG _),λy c h=>?_,λp hp=>absurd (show p∈([]:List (Addr×Obj))from hp) (by simp),e0.hok.kept hk,?_⟩
 ·exact name_of_addr x.apart (PySem.mem_of_lookup h1) (PySem.mem_of_lookup h2)
 ·have hy:scope.names.lookup y=some .cell\/scope.names.lookup y=some .free:=hy;rcases hy with hy |hy
  ·exact nQ hy
  ·exact absurd rfl (S.nofree _ (PySem.mem_of_lookup hy))
 ·exact xq (x.above y c (PySem.mem_of_lookup h))
 ·have hi:i<vs.length:=by
   unfold start at h2
   by_cases hi:i<vs.length
   ·exact hi
   ·rw[List.getElem?_append_right (by simpa using hi)]at h2;rw[List.getElem?_replicate]at h2;split at h2<;>cases h2
  have ha:vs[i]?=some v:=by
   unfold start at h2
   rw[List.getElem?_append_left (by simpa using hi),List.getElem?_map]at h2;cases e:vs[i]? with
   |none=>rw[e]at h2;cases h2
   |some a=>rw[e]at h2;cases h2;rfl
  obtain⟨u,hu,rv⟩:=r.get ha
  have hp:ps[i]?=some y:=by rw[<- S.pre,List.getElem?_take_of_lt (by omega)];exact h1
  have ndP:ps.Nodup:=by rw[<- S.pre];exact S.nd.sublist (List.take_sublist _ _)
  refine⟨u,rv,?_⟩;rcases S.par y (List.mem_of_getElem? hp)with k |k
  ·exact .inl ⟨k,nX ndP hp hu k⟩
  ·obtain⟨c,e⟩:=nQ (n:=s.heap.objs.size+1) k;refine .inr ⟨.inl k,c,e,?_⟩;have q:=x.cell y c e;rw[nZ ndP hp hu (by show scope.names.lookup y≠_;rw[k];decide)]at q;exact q
 ·exact e0.hok.fresh (xq (x.above y c (PySem.mem_of_lookup h)))
 ·unfold start;show _=N.length;rw[wF,wE,w8];omega
theorem uc{CX:CXT}{P:Program}{w:World}{K:PySem.W.Frag}{mg:Str->Option Value}{base:Heap}{k:Nat}{f:Addr}{name qual:Str}{params:Arguments}{body:List Stmt}{scope:Scope}{dV kV doc pm cdv ct oc:Value}{an od:Option Addr}
 {osl:Array (Option Value)} {N ps:List Str} {sp:Sp} (lk:K.lookup f=some ⟨oc,od,.func (PySem.W.fnOf name qual params body scope dV kV doc pm an cdv ct),osl⟩) (hcd:PySem.W.codeIn K cdv qual=true) (S:FnScope N ps scope)
 (len:∀vs H Q E,sp vs H Q E->vs.length=ps.length)
 (hbody:∀(A:Around) (outer:List Env) (s:Shared) (H:Hp) (vs:List V) (Q:VK) (E:XK),Room k (A.deeper (envOfC qual scope s.heap.objs.size f cdv))->sp vs H Q E ->
   ∃t,PSs (dl CX P w K mg base N qual scope f cdv A outer s H E) body t/\t { nx:=λ_ H'=>Q .non H',rt:=Q } (start N vs) H) :
 FnOk P w K mg base CX (k+1) f (PySem.W.fnOf name qual params body scope dV kV doc pm an cdv ct) ps sp:=by
 refine⟨len,λA outer s H args us vs Q E hr e0 hb r hsp=>?_⟩;have hl:=len _ _ _ _ hsp;have KX:K.In s.heap:=e0.mod.kin.keeps λb o e=>(e0.bs b o e).1
 have lim:s.heap.NoLimit:=e0.mod.nolimit.keeps λb o e=>(e0.bs b o e).1
 have hkind:∀y∈ps.zip us,scope.names.lookup y.1=some .local\/(scope.names.lookup y.1=some .cell/\((cellsFrom (s.heap.objs.size+1) scope.names []).lookup y.1).isSome=true):=λ⟨n,v⟩ hy=>by
  rcases S.par n (List.of_mem_zip hy).1 with q |q
  ·exact .inl q
  ·exact .inr ⟨q,PySem.W.cellsFrom_some _ _ _ (.inl q)⟩
 refine codeAny_call_function hr.depth (KX _ _ lk) rfl S.co S.gen rfl (PySem.W.codeRec_of KX hcd) (hb _ _ _ _ ?_);refine wpAny_newFunctionEnv_cells S.kind hkind λenv he s1 x=>?_
 subst he;refine⟨lim.keeps x.toInCall.keep,codeAny_func ?_⟩;obtain⟨t,ht,hq⟩:=hbody A outer s H vs Q E (hr.deeper _) hsp;have I:Inv (dl CX P w K mg base N qual scope f cdv A outer s H E) [] (start N vs) H s1:=tD S hr.hd e0 hl r x;refine wpAny_mono (ht [] s1 (start N vs) H _ I hq) (λfl s' hs=>?_) λe s' hs=>hs
 have fin:∀{σ':St} {H':Hp} {v:V} {u:Value},Inv (dl CX P w K mg base N qual scope f cdv A outer s H E) [] σ' H' s'->RelV v u->Q v H'->CE outer P w H s Q u s' :=
  λ{σ' H' v u} J rv q=>⟨v,H',J.os,J.bare,J.base,J.hok,rv,q⟩
 cases fl with
 |ret u =>obtain⟨v,σ',H',J,rv,q⟩:=hs;exact fin J rv q
 |next =>obtain⟨σ',H',J,q⟩:=hs;exact fin (v:=V.non) (u:=Value.none) J rfl q
 |brk =>obtain⟨_,_,_,q⟩:=hs;exact False.elim q
 |cont =>obtain⟨_,_,_,q⟩:=hs;exact False.elim q
section
variable {X:Cx}{x:Str}{p pos:Pos}{e:Expr}{es:List Expr}{t:TA}{id T:String}{r:List V->Hp->VK->Prop}
def tCB(r:List V->Hp->VK->Prop)(t:TA):TE:=λσ H Q=>t σ H λvs H1=>r vs H1 Q
theorem aI(hc:bW X (.builtin id) r)(hg:Gl X x)(hm:X.mg x=none)(hv:bootBuiltins x=some (.builtin id))(ha:PA X (e::es) t)(hn:x≠"__name__":=by decide)(hdb:(x == ("__debug__":Str))=false:=by decide)
 (he:starEach (e::es) X.env=(false,eval e X.env)::starEach es X.env:=by rfl) (hpl:(backTo pos (starEach es X.env)).any (·.1)=false:=by rfl):PE X (.Call (.Name x p) (e::es) [] pos) (tCB r t):=by
 intro pins s σ H Q I h;refine wpAny_Call_Name_kw (cb I hg hm hv ?_ hn hdb);exact PyProof.Rows.callWith_builtin1 (thn (ha pos pins s σ H _ I h) λus s1 ⟨vs,H1,I1,r1,q1⟩=>hc pins s1 σ H1 vs us Q I1 r1 q1) he hpl
theorem lA(hc:bW X (.type T) r)(hg:Gl X x)(hm:X.mg x=none)(hv:bootBuiltins x=some (.type T))(ha:PA X (e::es) t)(hn:x≠"__name__":=by decide)(hdb:(x == ("__debug__":Str))=false:=by decide)
 (he:starEach (e::es) X.env=(false,eval e X.env)::starEach es X.env:=by rfl) (hpl:(backTo pos (starEach es X.env)).any (·.1)=false:=by rfl):PE X (.Call (.Name x p) (e::es) [] pos) (tCB r t):=by
 intro pins s σ H Q I h;refine wpAny_Call_Name_kw (cb I hg hm hv ?_ hn hdb);exact PyProof.Rows.callWith_type1 (thn (ha pos pins s σ H _ I h) λus s1 ⟨vs,H1,I1,r1,q1⟩=>hc pins s1 σ H1 vs us Q I1 r1 q1) he hpl
end
end L2
namespace HT
open PySem PyProof.Rows
section
open PySem.SeqAt
open PySem.AutoSeq1 (wpAny_loadPart')
open PySem.MeetsSeq PySem.MeetsSeq2 PySem.MeetsSeq3
end
section
variable {prog:Program}{w:World}{A:Around}{E:Value->Shared->Prop}{s:Shared}
noncomputable def sIx(n d:Nat):Option Int->Nat
 |none=>d
 |some v=>if v<0 then(v+(n:Int)).toNat else min v.toNat n
theorem sIx_none(n d:Nat):sIx n d none=d:=rfl
theorem sIx_nat(n d k:Nat):sIx n d (some (k:Int))=min k n:=by show(if(k:Int)<0 then((k:Int)+(n:Int)).toNat else min (k:Int).toNat n)=min k n;rw[if_neg (by omega),Int.toNat_natCast]
end
end HT
namespace L2
open PySem PySem.Spec PyProof.Rows
abbrev TO:=St->Hp->(Option Int->Hp->Prop)->Prop
noncomputable def PO(X:Cx)(e:Option Expr)(t:TO):Prop :=
 ∀(pins:List (Addr×Obj)) (s:Shared) (σ:St) (H:Hp) (Q:Option Int->Hp->Prop),Inv X pins σ H s->t σ H Q ->
  wpAny (model X.prog X.w) X.A (evalPart e X.env) (λu s'=>∃o H',Inv X pins σ H' s'/\IsPart u o/\Q o H') X.xe s
noncomputable def o4:TO:=λ_ H Q=>Q none H
noncomputable def o0(t:TE):TO:=λσ H Q=>t σ H λx H1=>∃i,x=.int i/\Q (some i) H1
theorem gc{ns:List Int}:∀{us:List Value},Vals (ns.map V.int) us->IntsAre us ns:=by
 induction ns with
 |nil=>intro us r;rw[xF]at r;cases r;exact .nil
 |cons n ns ih =>
  intro us r;rw[w6]at r;cases r with
  |cons r1 r2 =>obtain⟨t,e⟩:=r1;subst e;exact .cons n t (ih r2)
section
variable {X:Cx}{e:Expr}{te:TE}{lo hi:Option Expr}{tl th:TO}{pos p2:Pos}
theorem iE:PO X none o4:=by intro pins s σ H Q I h;rw[evalPart_none];exact wpAny_pure ⟨none,H,I,.none,h⟩
theorem iD(h:PE X e te):PO X (some e) (o0 te):=by
 intro pins s σ H Q I hw;rw[evalPart_some];refine thn (h pins s σ H _ I hw) λu s1 ⟨x,H1,I1,r1,q1⟩=>?_
 obtain⟨i,rfl,q⟩:=q1;obtain⟨t,rfl⟩:=r1;exact⟨some i,H1,I1,.int i t,q⟩
noncomputable def SlR(X:Cx)(r:V->Option Int->Option Int->Hp->VK->Prop):Prop :=
 ∀(pins:List (Addr×Obj)) (s:Shared) (σ:St) (H:Hp) (x:V) (v vl vu:Value) (lo hi:Option Int) (sl:Addr) (Q:VK),Inv X pins σ H s->RelV x v->s.heap.IsSliceOf sl vl vu .none->IsPart vl lo->IsPart vu hi->r x lo hi H Q ->
  ∃T id,typeLookup (.type T) "__getitem__"=pure (some (.builtin id))/\s.TypeIs v T/\wpAny (model X.prog X.w) X.A (getItem v (.ref sl)) (EP X pins σ Q) X.xe s
def tSl(r:V->Option Int->Option Int->Hp->VK->Prop)(te:TE)(tl th:TO):TE:=λσ H Q=>te σ H λx H1=>tl σ H1 λl H2=>th σ H2 λu H3=>r x l u H3 Q
theorem iK{r:V->Option Int->Option Int->Hp->VK->Prop}(hr:SlR X r)(he:PE X e te)(hl:PO X lo tl)(hu:PO X hi th):PE X (.Subscript e (.Slice lo hi none p2) pos) (tSl r te tl th):=by
 intro pins s σ H Q I h;refine Subscript_ (thn (he pins s σ H _ I h) λv s1 ⟨x,H1,I1,r1,q1⟩=>?_);refine wpAny_Slice (thn (hl pins s1 σ H1 _ I1 q1) λvl s2 ⟨l,H2,I2,pl,q2⟩=>thn (hu pins s2 σ H2 _ I2 q2) λvu s3 ⟨u,H3,I3,pu,q3⟩=>?_);rw[evalPart_none];refine wpAny_pure ?_;have I4:Inv X pins σ H3 { s3 with heap:=s3.heap.push { cls:=.type "slice",data:=.fields #[vl,vu,.none] } }:=I3.kept (t':=s3.toks) λb ob q=>Heap.get?_push_of_some _ q
 obtain⟨T,id,hT,ht,hg⟩:=hr pins { s3 with heap:=s3.heap.push { cls:=.type "slice",data:=.fields #[vl,vu,.none] } } σ H3 x v vl vu l u s3.heap.objs.size Q I4 r1 (Heap.IsSliceOf.new ..) pl pu q3;show wpAny (model X.prog X.w) X.A (subscriptTail e (.Slice lo hi none p2) v (.ref s3.heap.objs.size)) (EP X pins σ Q) X.xe { s3 with heap:=s3.heap.push { cls:=.type "slice",data:=.fields #[vl,vu,.none] } };exact tail_any (ops:=[.ref s3.heap.objs.size,v]) ht hT hg (by with_unfolding_all rfl)
noncomputable def ck(xs:List V)(lo hi:Option Int):List V:=(xs.drop (HT.sIx xs.length 0 lo)).take (HT.sIx xs.length xs.length hi-HT.sIx xs.length 0 lo)
theorem uv(xs:List V)(lo hi:Option Int):(ck xs lo hi).length<=xs.length:=by unfold ck;rw[wU,xv];omega
end
noncomputable def ixN(n:Nat)(i:Int):Option Nat:=if 0<=i then(if i<n then some i.toNat else none)else if -(n:Int)<=i then some (i+n).toNat else none
noncomputable def atI{α:Type}(xs:List α)(i:Int):Option α:=(ixN xs.length i).bind λj=>xs[j]?
theorem mD{n:Nat}{i:Int}{j:Nat}(h:ixN n i=some j):seqIndex? i n=some j/\j<n /\ -(n:Int)<=i/\i<n:=by
 unfold ixN at h
 by_cases h0:0<=i
 ·rw[if_pos h0]at h;by_cases h1:i<n
  ·rw[if_pos h1]at h;have e:i.toNat=j:=Option.some.inj h;exact⟨by rw[seqIndex_of h0 h1,e],by omega,by omega,h1⟩
  ·rw[if_neg h1]at h;cases h
 ·rw[if_neg h0]at h;by_cases h1 : -(n:Int)<=i
  ·rw[if_pos h1]at h;have e:(i+n).toNat=j:=Option.some.inj h;exact⟨by rw[seqIndex_neg (by omega) h1,e],by omega,h1,by omega⟩
  ·rw[if_neg h1]at h;cases h
theorem u0{α:Type}{xs:List α}{i:Int}{v:α}(h:atI xs i=some v):∃j,seqIndex? i xs.length=some j/\xs[j]?=some v/\j<xs.length /\ -(xs.length:Int)<=i/\i<xs.length:=by
 unfold atI at h
 cases e:ixN xs.length i with
 |none=>rw[e]at h;cases h
 |some j =>rw[e]at h;obtain⟨h1,h2,h3,h4⟩:=mD e;exact⟨j,h1,h,h2,h3,h4⟩
theorem dq{α:Type}{xs:List α}{j:Nat}{v:α}(h:xs[j]?=some v):atI xs (j:Int)=some v:=by
 have hj:j<xs.length:=(List.getElem?_eq_some_iff.mp h).1
 have e:ixN xs.length (j:Int)=some j:=by unfold ixN;rw[if_pos (by omega),if_pos (by omega)];simp
 unfold atI;rw[e];exact h
theorem uZ{α:Type}(xs:List α)(v:α):atI (xs++[v]) (-1)=some v:=by
 have hl:(xs++[v]).length=xs.length+1:=by simp
 have e:ixN (xs++[v]).length (-1)=some xs.length:=by
  unfold ixN;rw[hl,if_neg (by decide),if_pos (by omega)]
  congr 1
  omega
 unfold atI;rw[e];show(xs++[v])[xs.length]?=some v;simp
def u9(b:Expr):Prop:=∀o i,subscripted b false o i=operate [o,i] (getItem o i)
noncomputable def IxR(X:Cx)(r:R2):Prop :=
 ∀(value slice:Expr) (pins:List (Addr×Obj)) (s:Shared) (σ:St) (H:Hp) (x y:V) (v u:Value) (Q:VK),Inv X pins σ H s->RelV x v->RelV y u->r x y H Q ->
  subscripted slice false v u=operate [v,u] (getItem v u)->wpAny (model X.prog X.w) X.A (subscriptTail value slice v u) (EP X pins σ Q) X.xe s
noncomputable def MtR(X:Cx)(id:String)(r:V->List V->Hp->VK->Prop):Prop :=
 ∀(pins:List (Addr×Obj)) (s:Shared) (σ:St) (H:Hp) (x:V) (xs:List V) (v:Value) (us:List Value) (Q:VK),Inv X pins σ H s->RelV x v->Vals xs us->r x xs H Q ->
  wpAny (model X.prog X.w) X.A (call (.builtin id) (v::us)) (EP X pins σ Q) X.xe s
section
variable {X:Cx}{a b:Expr}{ta tb:TE}{pos:Pos}
theorem aF{r:R2}(hr:IxR X r)(ha:PE X a ta)(hb:PE X b tb)(hs:u9 b):PE X (.Subscript a b pos) (tOp r ta tb):=by intro pins s σ H Q I h;exact Subscript_ (jF ha hb I h λv u s2 x y H2 I2 rx ry q=>hr a b pins s2 σ H2 x y v u Q I2 rx ry q (hs _ _))
def k9(K:PySem.W.Frag):R2:=λx y H Q=>∃p xs i v,x=.ref p/\y=.int i/\SqL K H p xs/\atI xs i=some v/\Q v H
theorem tw:IxR X (k9 X.K):=by
 intro value slice pins s σ H x y v u Q I rx ry h hs;obtain⟨p,xs,i,z,rfl,rfl,hq,he,q⟩:=h;cases rx;obtain⟨t,rfl⟩:=ry;obtain⟨its,r,pl,hz⟩:=I.list hq;obtain⟨j,h1,h2,h3,h4,h5⟩:=u0 he;obtain⟨w,ew,rw'⟩:=r.get h2;have hl:=r.length;have hn:=i7;have fin:EP X pins σ Q w s:=⟨z,H,I,rw',q⟩;by_cases h0:0<=i
 ·have hj:i.toNat=j:=by rw[seqIndex_of h0 h5]at h1;exact Option.some.inj h1
  exact item_listR pl.isList h0 (by omega) (by rw[hj];simpa using ew) fin hs
 ·have hj:(i+(its.toArray.size:Int)).toNat=j:=by rw[seqIndex_neg (by omega) h4]at h1;rw[wV,<- hl];exact Option.some.inj h1
  exact subscriptTail_builtinR (x:=w) pl.isList.typeIs slot_list_getitem.lookup
   (wpAny_getItem_list_neg (Q:=λr s'=>r=w/\EP X pins σ Q r s') pl.isList (by omega) (by rw[wV]<;>omega) (by omega) (by rw[hj];simpa using ew) ⟨rfl,fin⟩) hs
theorem si(its:List Value)(n j:Nat)(u:Value):Obj.mapSeq (·.setIfInBounds j u) { cls:=.type "list",data:=.seq its.toArray n }={ cls:=.type "list",data:=.seq (its.set j u).toArray n }:=by simp[Obj.mapSeq]
theorem Inv.lst{pins:List (Addr×Obj)}{σ:St}{H:Hp}{s:Shared}{p:Addr}{xs:List V}(I:Inv X pins σ H s)(h:H p=some (.lst xs)) :
 ∃(its:List Value) (n:Nat),Vals xs its/\s.heap.get? p=some { cls:=.type "list",data:=.seq its.toArray n }/\xs.length<=sizeLine:=by
 obtain⟨z,its,n,r,e⟩:=I.hok p _ h;exact⟨its,n,r,e,z⟩
theorem Inv.lstUpd{pins:List (Addr×Obj)}{σ:St}{H:Hp}{s:Shared}{p:Addr}{xs ys:List V}{its its':List Value}{n n':Nat}{f:Obj->Obj}(I:Inv X pins σ H s)(h:H p=some (.lst xs))
 (ho:s.heap.get? p=some { cls:=.type "list",data:=.seq its.toArray n }) (hf:f { cls:=.type "list",data:=.seq its.toArray n }={ cls:=.type "list",data:=.seq its'.toArray n' }) (r:Vals ys its') (hz:ys.length<=sizeLine) (t:Nat) :
 Inv X pins σ (upd H p (.lst ys)) { s with heap:=s.heap.update p f,toks:=t }:=by
 have e:(s.heap.update p f).get? p=some { cls:=.type "list",data:=.seq its'.toArray n' }:=by rw[Heap.get?_update_self f ho (by rw[hf]<;>rfl),hf]
 refine I.write (x:=p) (e:=p) (by rw[h];trivial) (.inl rfl) (λb u hb q=>(Heap.get?_update_other _ _ (Ne.symm hb)).trans q) ⟨_,e⟩ ?_;exact⟨hz,its',n',r,e⟩
noncomputable def qm:V->V->V->Hp->(Hp->Prop)->Prop:=λo i v H Q=>∃p xs k j,o=.ref p/\i=.int k/\H p=some (.lst xs)/\ixN xs.length k=some j/\Q (upd H p (.lst (xs.set j v)))
theorem pF:og X qm:=by
 intro pins s σ H o i v ov iv u Q I ro ri rv h;obtain⟨p,xs,k,j,rfl,rfl,hp,hj,q⟩:=h;cases ro;obtain⟨t,rfl⟩:=ri;obtain⟨its,n,r,ho,hz⟩:=I.lst hp;obtain⟨h1,h2,h3,h4⟩:=mD hj;have hl:=r.length;have hn:=i7
 have I':Inv X pins σ (upd H p (.lst (xs.set j v))) { s with heap:=s.heap.update p (Obj.mapSeq (·.setIfInBounds j u)) } :=
  I.lstUpd hp ho (si its n j u) (r.set rv j) (by rw[List.length_set];exact hz) s.toks
 by_cases h0:0<=k
 ·have hk:k.toNat=j:=by rw[seqIndex_of h0 h4]at h1;exact Option.some.inj h1
  exact PySem.W.ki_setAt ho h0 (by omega) (by rw[wV,<- hl];exact h4) (by rw[hk];exact⟨_,I',q⟩)
 ·have hk:(k+(its.toArray.size:Int)).toNat=j:=by rw[seqIndex_neg (by omega) h3]at h1;rw[wV,<- hl];exact Option.some.inj h1
  exact PySem.W.ki_setBack ho (by omega) (by rw[wV,<- hl];exact h3) (by omega) (by rw[hk];exact⟨_,I',q⟩)
theorem pj(lo hi:Option Int)(n:Nat):(sliceBounds lo hi none n).1=((HT.sIx n 0 lo:Nat):Int)/\(sliceBounds lo hi none n).2.1=((HT.sIx n n hi:Nat):Int)/\(sliceBounds lo hi none n).2.2=1:=by
 refine⟨?_,?_,rfl⟩
 ·cases lo with
  |none=>simp[sliceBounds,HT.sIx]
  |some i =>
   simp only[sliceBounds,HT.sIx,Option.getD_none,show(1:Int)>0 by decide,if_true];by_cases h:i<0
   ·simp only[h,if_true]<;>omega
   ·simp only[h,if_false]<;>omega
 ·cases hi with
  |none=>simp[sliceBounds,HT.sIx]
  |some i =>
   simp only[sliceBounds,HT.sIx,Option.getD_none,show(1:Int)>0 by decide,if_true];by_cases h:i<0
   ·simp only[h,if_true]<;>omega
   ·simp only[h,if_false]<;>omega
theorem pp(its:List Value)(lo hi:Option Int):slicePick its.toArray lo hi none=((its.drop (HT.sIx its.length 0 lo)).take (HT.sIx its.length its.length hi-HT.sIx its.length 0 lo)).toArray:=by obtain⟨h1,h2,h3⟩:=pj lo hi its.toArray.size;unfold slicePick;rw[h1,h2,h3];simp only[sliceRange_one,pick_run,wV]<;>rfl
noncomputable def iu(K:PySem.W.Frag):V->Option Int->Option Int->Hp->VK->Prop:=λx lo hi H Q=>∃a xs,x=.ref a/\SqL K H a xs/\∀p,H p=none->Q (.ref p) (upd H p (.lst (ck xs lo hi)))
theorem pw:SlR X (iu X.K):=by intro pins s σ H x v vl vu lo hi sl Q I rx hs pl pu h;obtain⟨a,xs,rfl,hx,q⟩:=h;cases rx;obtain⟨its,r,ht,hz⟩:=I.list hx;have hlen:=r.length;refine⟨"list",_,slot_list_getitem.lookup,ht.isList.typeIs,?_⟩;refine wpAny_getItem_list_slice ht.isList hs pl pu .none (by simp) ?_ (by rw[wV]<;>omega);rw[pp,<- hlen];refine⟨.ref s.heap.objs.size,_,I.laid (t':=s.toks) (o:=.lst (ck xs lo hi)) (λb ob q=>Heap.get?_push_of_some _ q) (wG _) ?_,rfl,q _ (I.hok.fresh (wG _))⟩;exact⟨xb (uv xs lo hi) hz,_,0,(r.drop (HT.sIx xs.length 0 lo)).take (HT.sIx xs.length xs.length hi-HT.sIx xs.length 0 lo),Heap.get?_push_size _ rfl⟩
theorem uG:bW X (.builtin "len") (λxs H Q=>∃p ys,xs=[.ref p]/\(SqL X.K H p ys\/SqT X.K H p ys)/\Q (.int ys.length) H):=by
 intro pins s σ H xs us Q I r h;obtain⟨p,ys,rfl,hq,q⟩:=h;obtain⟨u,rfl,rx⟩:=fi r;cases rx;have hn:=i7;rcases hq with hq |hq
 ·obtain⟨its,r',pl,hz⟩:=I.list hq;have hlen:=r'.length;exact Calls.call_len_list pl.isList (by simp only[wV]<;>omega) ⟨.int ys.length,H,I.tok _,⟨s.toks+1,by rw[wV,hlen]⟩,q⟩
 ·obtain⟨its,r',pl,hz⟩:=I.tuple hq;have hlen:=r'.length;exact len_tuple pl (by simp only[wV]<;>omega) ⟨.int ys.length,H,I.tok _,⟨s.toks+1,by rw[wV,hlen]⟩,q⟩
theorem uF:bW X (.type "list") (λxs H Q=>∃p ys,xs=[.ref p]/\(SqL X.K H p ys\/SqT X.K H p ys)/\∀l,H l=none->Q (.ref l) (upd H l (.lst ys))):=by
 intro pins s σ H xs us Q I r h;obtain⟨p,ys,rfl,hq,q⟩:=h;obtain⟨u,rfl,rx⟩:=fi r;cases rx
 have fin:∀(its:List Value),Vals ys its->ys.length<=sizeLine->∀(h':Heap) (c':Nat),(∀b o',s.heap.get? b=some o'->h'.get? b=some o') ->
  h'.get? s.heap.objs.size=some { cls:=.type "list",dict:=none,data:=.seq its.toArray c',slots:=#[] }->EP X pins σ Q (.ref s.heap.objs.size) { s with heap:=h' }:=λits r' hz h' c' kp e =>
  ⟨.ref s.heap.objs.size,_,I.laid (t':=s.toks) kp (wG _) (show ObjOk X.prog X.w _ h' _ (.lst ys)from⟨hz,its,c',r',e⟩),rfl,q _ (I.hok.fresh (wG _))⟩
 rcases hq with hq |hq
 ·obtain⟨its,r',pl,hz⟩:=I.list hq;have hlen:=r'.length;obtain⟨o,ho,hc,n,hd⟩:=pl.isList;exact call_list_seq p (.inl rfl) ho hc hd (λh' c' kp e=>fin its r' hz h' c' kp e) (by simp only[wV]<;>omega)
 ·obtain⟨its,r',pl,hz⟩:=I.tuple hq;have hlen:=r'.length;obtain⟨o,ho,hc,n,hd⟩:=pl;exact call_list_seq p (.inr rfl) ho hc hd (λh' c' kp e=>fin its r' hz h' c' kp e) (by simp only[wV]<;>omega)
def tyV(K:PySem.W.Frag)(T:String)(x:V)(H:Hp):Prop:=match x with
 |.str _=>T="str"
 |.int _=>T="int"
 |.ref p=>(T="list"/\∃xs,SqL K H p xs)\/(T="tuple"/\∃o,K.lookup p=some o/\o.cls=.type "tuple"/\o.dict=none) \/
  (T="dict"/\((∃kvs,H p=some (.dK kvs))\/∃kvs,H p=some (.dT kvs)))\/(T="set"/\∃S n,H p=some (.set S n))
 |_=>False
theorem oG{pins:List (Addr×Obj)}{σ:St}{H:Hp}{s:Shared}{T:String}{x:V}{v:Value}(I:Inv X pins σ H s)(r:RelV x v)(ty:tyV X.K T x H) :
 s.TypeIs v T/\∀a,v=.ref a->∃ob,s.heap.get? a=some ob/\ob.dict=none:=by
 cases x with
 |str z =>obtain⟨t,rfl⟩:=r;cases(show T="str" from ty);exact⟨typeIs_str s z t,λ_ e=>nomatch e⟩
 |int i =>obtain⟨t,rfl⟩:=r;cases(show T="int" from ty);exact⟨typeIs_int s i t,λ_ e=>nomatch e⟩
 |ref p =>
  cases r;rcases ty with⟨rfl,xs,hq⟩ |⟨rfl,o,hk,hc,hd⟩ |⟨rfl,hk⟩ |⟨rfl,S,n,hk⟩
  ·obtain⟨its,_,pl,_⟩:=I.list hq;refine⟨pl.isList.typeIs,λa e=>?_⟩;cases e;obtain⟨o,n,e,c,hd,_⟩:=pl;exact⟨o,e,hd⟩
  ·refine⟨⟨o,I.kIn p o hk,hc⟩,λa e=>?_⟩;cases e;exact⟨o,I.kIn _ o hk,hd⟩
  ·have z:∃o,s.heap.get? p=some o/\o.ExactDict:=by
    rcases hk with⟨kvs,hk⟩ |⟨kvs,hk⟩
    ·obtain⟨_,_,_,_,o,_,_,e,ex,_⟩:=I.hok p _ hk;exact⟨o,e,ex⟩
    ·obtain⟨_,_,_,_,o,_,_,e,ex,_⟩:=I.hok p _ hk;exact⟨o,e,ex⟩
   obtain⟨o,e,ex⟩:=z;refine⟨⟨o,e,ex.1⟩,λa e2=>?_⟩;cases e2;exact⟨o,e,ex.2.1⟩
  ·obtain⟨o,_,_,_,e,ex,_⟩:=I.hok p _ hk;refine⟨⟨o,e,ex.1⟩,λa e2=>?_⟩;cases e2;exact⟨o,e,ex.2.1⟩
 |_=>exact False.elim ty
def tBM(K:PySem.W.Frag)(T:String)(r:V->List V->Hp->VK->Prop)(to:TE)(t:TA):TE:=λσ H Q=>to σ H λx H1=>tyV K T x H1/\t σ H1 λxs H2=>r x xs H2 Q
variable {o e:Expr}{es:List Expr}{to:TE}{t:TA}{name:Str}{apos cpos:Pos}{T id:String}{r:V->List V->Hp->VK->Prop}
theorem fN(pa:PlainAttrs T)(slot:Slot T name id)(hty:typeOf (.builtin id)=pure (.type "method_descriptor"))(hm:MtR X id r)(ho:PE X o to)(ha:PA X (e::es) t)
 (hbase:attributeBase o name X.env (eval o X.env)=eval o X.env:=by rfl)
 (hfew:((backTo cpos (starEach (e::es) X.env)).all (λx=>!x.1)&&(backToKw cpos (keywordEach [] X.env)).all (λx=>x.1.isSome)
   && decide ((e::es).length+([]:List Keyword).length+(if([]:List Keyword).isEmpty then 0 else 1)<30))=true:=by rfl)
 (hline:(apos.endLine == cpos.line)=true:=by rfl) (hs:starEach (e::es) X.env=(false,eval e X.env)::starEach es X.env:=by rfl) (hplain:(backTo cpos (starEach es X.env)).any (·.1)=false:=by rfl) :
 PE X (.Call (.Attribute o name apos) (e::es) [] cpos) (tBM X.K T r to t):=by
 intro pins s σ H Q I h;refine wpAny_Call_method_late hbase hfew hline rfl (thn (ho pins s σ H _ I h) λv s1 ⟨x,H1,I1,r1,ty,q1⟩=>?_);obtain⟨h1,h2⟩:=oG I1 r1 ty;refine⟨T,id,pa,slot,hty,h1,h2,?_⟩;have hA:=ha cpos pins s1 σ H1 _ I1 q1;rw[hs]at hA ⊢;refine Calls.callWith_builtin (by show(false || (backTo cpos (starEach es X.env)).any (·.1))=false;rw[hplain]<;>rfl) (Calls.evalArgs_plain ?_);exact thn hA λus s2 ⟨vs,H2,I2,r2,q2⟩=>hm pins s2 σ H2 x vs v us Q I2 r1 r2 q2
end
noncomputable def MtM(X:Cx)(id:String)(r:V->List V->Hp->VK->Prop):Prop :=
 ∀(pins:List (Addr×Obj)) (s:Shared) (σ:St) (H:Hp) (x:V) (xs:List V) (v:Value) (us:List Value) (Q:VK),Inv X pins σ H s->RelV x v->Vals xs us->r x xs H Q ->
  wpAny (model X.prog X.w) X.A (call (.builtin id) (v::us)) (EP X pins σ Q) X.xe s
theorem Vals.one:∀{x:V} {us:List Value},Vals [x] us->∃u,us=[u]/\RelV x u
 |_,_,.cons r .nil=>⟨_,rfl,r⟩
theorem Vals.two:∀{x y:V} {us:List Value},Vals [x,y] us->∃u v,us=[u,v]/\RelV x u/\RelV y v
 |_,_,_,.cons r (.cons q .nil)=>⟨_,_,rfl,r,q⟩
theorem Vals.zero:∀{us:List Value},Vals [] us->us=[]
 |_,.nil=>rfl
theorem Vals.reverse{xs:List V}{us:List Value}(h:Vals xs us):Vals xs.reverse us.reverse:=by
 induction h with
 |nil=>exact .nil
 |cons r t ih=>rw[xP,xP];exact Vals.append ih (.cons r .nil)
theorem Vals.rep{xs:List V}{us:List Value}(h:Vals xs us):∀k:Nat,Vals (List.replicate k xs).flatten (List.replicate k us).flatten
 |0=>.nil
 |k+1=>by rw[xz,xz,xQ,xQ];exact Vals.append h (Vals.rep h k)
theorem mW(its:List Value):∀(k:Nat) (acc:List Value),
 List.foldl (λx1 x2=>x1++x2) acc.toArray (List.replicate k its.toArray)=(acc++(List.replicate k its).flatten).toArray
 |0,acc=>by simp
 |k+1,acc=>by
  have e:acc.toArray++its.toArray=(acc++its).toArray:=by simp
  have e2:(acc++its)++(List.replicate k its).flatten=acc++(List.replicate (k+1) its).flatten:=by rw[xz,xQ,w4]
  rw[<- e2,<- mW its k (acc++its),<- e,xz,List.foldl_cons]
section
variable {X:Cx}{pins:List (Addr×Obj)}{σ:St}{H:Hp}{s:Shared}{l b:Addr}{xs ys zs:List V}
theorem Inv.lset{its its':List Value}{n:Nat}{f:Array Value->Array Value}{t':Nat}(I:Inv X pins σ H s)(hH:H l=some (.lst xs))
 (e:s.heap.get? l=some { cls:=.type "list",data:=.seq its.toArray n }) (hf:f its.toArray=its'.toArray) (hv:Vals ys its') (hz:ys.length<=sizeLine) :
 Inv X pins σ (upd H l (.lst ys)) { s with heap:=s.heap.update l (Obj.mapSeq f),toks:=t' }:=by
 have q:=PySem.IsL.update e f;rw[hf]at q;refine I.write (x:=l) (e:=l) (by rw[hH];exact trivial) (.inl rfl) (λb' u hb hu=>(Heap.get?_update_other s.heap (Obj.mapSeq f) (Ne.symm hb)).trans hu) ⟨_,q⟩ ?_;exact⟨hz,its',_,hv,q⟩
theorem Inv.lnew{its:List Value}{t':Nat}(I:Inv X pins σ H s)(hv:Vals ys its)(hz:ys.length<=sizeLine) :
 Inv X pins σ (upd H s.heap.objs.size (.lst ys)) { s with heap:=s.heap.push { cls:=.type "list",data:=.seq its.toArray },toks:=t' } :=
 I.laid (λ_ _ q=>Heap.get?_push_of_some _ q) (wG _) ⟨hz,its,0,hv,Heap.get?_push_size _ rfl⟩
theorem Inv.fresh(I:Inv X pins σ H s):H s.heap.objs.size=none:=I.hok.fresh (wG _)
theorem Inv.lstM(I:Inv X pins σ H s)(hH:H l=some (.lst xs)):xs.length<=sizeLine/\∃(its:List Value) (n:Nat),Vals xs its/\xs.length=its.length/\s.heap.get? l=some { cls:=.type "list",data:=.seq its.toArray n }:=by obtain⟨z,its,n,r,e⟩:=I.hok l _ hH;exact⟨z,its,n,r,r.length,e⟩
theorem rQ{n:Nat}(h:n<=sizeLine):Builtin.List.listTooLong n=false:=by unfold Builtin.List.listTooLong;exact decide_eq_false (by omega)
end
section
variable {X:Cx}
noncomputable def qt:V->List V->Hp->VK->Prop:=λx vs H Q=>∃l xs y,x=.ref l/\vs=[y]/\H l=some (.lst xs)/\xs.length<sizeLine/\Q .non (upd H l (.lst (xs++[y])))
theorem f8:MtM X "list.append" qt:=by intro pins s σ H x vs v us Q I rx rv h;obtain⟨l,xs,y,rfl,rfl,hH,hz,q⟩:=h;cases rx;obtain⟨u,rfl,ru⟩:=rv.one;obtain⟨z,its,n,r,hl,e⟩:=I.lstM hH;refine call_meets F.slot_list_append ⟨_,e,rfl⟩ F.entry_list_append (F.args_list_append_2 _ _) (PySem.list_append l its.toArray n u (by rw[wV];omega)) ⟨e,?_⟩;refine⟨.non,_,I.lset (its':=its++[u]) hH e (by simp) (r.append (.cons ru .nil)) ?_,rfl,q⟩;rw[wF,xG];omega
def qr:R2:=λx y H Q=>∃l b xs zs,x=.ref l/\y=.ref b/\H l=some (.lst xs)/\H b=some (.lst zs)/\xs.length+zs.length<=sizeLine/\∀p,H p=none->Q (.ref p) (upd H p (.lst (xs++zs)))
theorem b9:OpR X (binaryOp .Add) qr:=by
 intro pins s σ H x y v u Q I rx ry h;obtain⟨l,b,xs,zs,rfl,rfl,hH,hB,hz,q⟩:=h;cases rx;cases ry;obtain⟨z,its,n,r,hl,e⟩:=I.lstM hH;obtain⟨z2,its2,n2,r2,hl2,e2⟩:=I.lstM hB;refine PySem.P.add_list e e2 ?_ (by rw[wV,wV];omega);have ea:its.toArray++its2.toArray=(its++its2).toArray:=by simp
 rw[ea];exact⟨.ref _,_,I.lnew (t':=s.toks) (r.append r2) (by rw[wF];omega),rfl,q _ I.fresh⟩
def qo:R2:=λx y H Q=>∃l k xs,x=.ref l/\y=.int k/\H l=some (.lst xs) /\ -(2^63)<=k/\k<2^63/\xs.length*k.toNat<=sizeLine /\
 ∀p,H p=none->Q (.ref p) (upd H p (.lst (List.replicate k.toNat xs).flatten))
theorem sG{α:Type}(xs:List α)(k:Nat):(List.replicate k xs).flatten.length=k*xs.length:=by
 induction k with
 |zero=>simp
 |succ k ih=>rw[xz,xQ,wF,ih,Nat.succ_mul,Nat.add_comm]
theorem fU:OpR X (binaryOp .Mult) qo:=by
 intro pins s σ H x y v u Q I rx ry h;obtain⟨l,k,xs,rfl,rfl,hH,h1,h2,hz,q⟩:=h;cases rx;obtain⟨t,rfl⟩:=ry;obtain⟨z,its,n,r,hl,e⟩:=I.lstM hH;have hlen:its.toArray.size*k.toNat<=sizeLine:=by rw[wV,<- hl];exact hz
 have hcap:¬its.toArray.size*k.toNat>(2^63-1)/8:=by
  have:(sizeLine:Nat)<=(2^63-1)/8:=by decide
  omega
 have hfit:¬(!Builtin.List.listFitsIndex k)=true:=by rw[fitsIndex_both h1 h2];exact xD
 have hlong:¬Builtin.List.listTooLong (its.toArray.size*k.toNat)=true:=by rw[rQ hlen];exact xD
 have hnew:List.foldl (λx1 x2=>x1++x2) #[] (List.replicate (if its.toArray.isEmpty=true then 0 else k.toNat) its.toArray)=(List.replicate k.toNat its).flatten.toArray:=by
  have f0:∀m:Nat,List.foldl (λx1 x2=>x1++x2) #[] (List.replicate m its.toArray)=(List.replicate m its).flatten.toArray:=λm=>by have:=mW its m [];rw[wS]at this;exact this
  rw[f0];cases its with
  |nil=>simp
  |cons a r'=>rw[if_neg (by simp)]
 refine wpAny_binaryOp_repeat_ref (T:="list") (U:="int") (by decide) ⟨_,e,rfl⟩ (λs'=>typeIs_int s' k t) noFill_list_mul F.fills_int_mul F.slot_int_rmul repeat_list F.slot_int_index.lookup
  (call_meets F.slot_int_rmul (typeIs_int s k t) F.entry_int_rmul (F.args_int_rmul_2 _ _) (int___rmul___int_list k t l its.toArray n)
    ⟨e,rfl,⟨_,e,rfl⟩,call_meets F.slot_list_mul ⟨_,e,rfl⟩ F.entry_list_mul (F.args_list_mul_2 _ _) (AutoListH.list___mul___list_int_3 l its.toArray n k t hfit hcap hlong) ⟨e,?_⟩⟩)
 rw[hnew];exact⟨.ref _,_,I.lnew (t':=s.toks) (r.rep k.toNat) (by rw[sG,Nat.mul_comm];exact hz),rfl,q _ I.fresh⟩
end
section
variable {prog:Program}{w:World}{A:Around}{E:Value->Shared->Prop}{s:Shared}
end
section
variable {X:Cx}
end
end L2
namespace Att
open PySem PySem.W PySem.Calls PyProof.Rows
theorem tE{P:Params}{h:Heap}:∀(ns:List Int) (vs:List Value),WellAll P h vs (ns.map WData.int)->IntsAre vs ns:=by
 intro ns
 induction ns with
 |nil =>intro vs w;rw[xF]at w;cases w;exact .nil
 |cons n ns ih =>
  intro vs w;rw[w6]at w;cases w with
  |cons a b =>cases a;exact .cons _ _ (ih _ b)
theorem pH{l:OpenLaw}{n:Nat}(hn:l.most=some n){P:Params}{h:Heap}{args:List WData}{bi:List Value}
 (hpre:l.row.toRowW.claim.pre args=true) (hwl:WellAll P h bi args) :
 ∃a vs ns,bi=[Value.ref a]/\args=[WData.list (ns.map WData.int)]/\h.get? a=some { cls:=.type "list",data:=.seq vs.toArray }/\IntsAre vs ns/\ns.length<=n:=by
 have hsh:WShape.hasAll [] args [.list .int]=true:=(pre_splitW hpre).1;have hc:l.pre.holds [] { args:=args }=true:=(pre_splitW hpre).2;obtain⟨d,r,rfl,h1,h2⟩:=hasAllW_cons hsh;obtain rfl:=hasAllW_nil h2;obtain⟨xs,rfl,h3⟩:=hasW_list h1;obtain⟨ns,rfl⟩:=items_int h3
 have hlen:ns.length<=n:=by
  unfold OpenLaw.pre at hc
  have h4:(WTm.not (.lt (.lit (.int (n:Int))) (.len (.arg 0)))).holds [] { args:=[.list (ns.map .int)] }=true:=by have h4:=(holds_andW hc).1;rw[hn]at h4;exact h4
  have h5:=condW_of h4 (w_not (w_lt w_lit (w_len_list (w_arg rfl))));rw[wE]at h5;refine xr λq=>?_
  have q':(n:Int)<((ns.length:Nat):Int):=by omega
  first
   | (rw[decide_eq_true q']at h5;exact absurd h5 (by decide))
   | (simp at h5;omega)
 cases hwl with
 |cons w1 w2 =>
  cases w2;cases w1 with
  |list ho hall=>exact⟨_,_,ns,rfl,rfl,ho,tE ns _ hall,hlen⟩
theorem qJ(l:OpenLaw)(args:List WData):l.row.toRowW.claim.post args (.bool true) args=true :=
 postW_of (r:=l.row.toRowW) (X:=(true == true))
  (show WShape.has [] (.bool true) .bool=true by first |rfl |decide |simp[WShape.has,WShape.arms,WShape.armsAll])
  (show(WTm.eq .res (.lit (.bool true))).value [] { args:=args,res:=some (.bool true),after:=args }=some (.bool (true == true))from w_eq_bool (w_res rfl) w_lit) rfl
theorem attach_call{l:OpenLaw}{n:Nat}{q:Program}{loose:List Str}{XP:(Str->Option Value)->Heap->Prop}{YP:World->Heap->Prop}{d:DefRec}
 (hn:l.most=some n) (hdf:d.params.defaults=[])
 (call:∀(w:World) (s₀ s₁:Shared) (mg mb:Str->Option Value) (fa:Addr) (o:Obj) (pm cd doc:Value) (a:Addr) (vs:List Value) (ns:List Int),
   Ground q loose [] XP w s₀ mg mb s₁.heap->YP w s₁.heap ->
   s₁.heap.get? fa=some o->o.data=.func (docDef d.name d.params d.body d.scope pm cd doc)->s₁.heap.CodeRec cd d.name->mg d.name=some (.ref fa) ->
   s₁.heap.get? a=some { cls:=.type "list",data:=.seq vs.toArray }->IntsAre vs ns->ns.length<=n->s₁.gens=#[] ->
   codeAny (model l.prog w) callerA (.call (.ref fa) ⟨[.ref a],[]⟩) (λr s'=>r=.ok (.ret (.bool true))/\OldK s₁.heap s'.heap/\s'.os=s₁.os/\AllBare s'.gens) s₁) :
 WalkO q loose XP YP l.row.toRowW d [] (λf vs=>PySem.call f vs):=by
 intro w s₀ s₁ mg mb G Y fa o pm cd doc dV kV ho hd hcd hD hmg hg args bi as hpre hlay hrd hwl hlo;obtain rfl:dV=.none:=Dflts.none hD hdf;obtain rfl:kV=.none:=Dflts.noKw hD;obtain⟨a,vs,ns,rfl,rfl,hobj,hints,hlen⟩:=pH hn hpre hwl;refine enter_call (codeAny_mono (call w s₀ s₁ mg mb fa o pm cd doc a vs ns G Y ho (fd_plain hd) hcd hmg hobj hints hlen hg) λr s' hq=>?_);obtain⟨rfl,h2,h3,h4⟩:=hq;exact⟨.inl ⟨.bool true,.bool true,[],rfl,λ_=>rfl,.bool true,qJ l _,λ_=>⟨List.Pairwise.nil,λ_ hm=>(nomatch hm)⟩⟩,h2,h3,h4⟩
section
variable {prog:Program}{w:World}{A:Around}{E:Value->Shared->Prop}{s:Shared}{K:Frag}
end
end Att
namespace L2
open PySem PySem.Spec PyProof.Rows
theorem j2:∀{vs:List Value} {ns:List Int},IntsAre vs ns->Vals (ns.map V.int) vs
 |_,_,.nil=>.nil
 |_,_,.cons n t h=>.cons ⟨t,rfl⟩ (j2 h)
def jN(H:Hp):Prop:=∀b,H b=none\/∃o xs,H b=some (.frz o (.lst xs))
noncomputable def cX(s:Stmt):Arguments:=match s with
 |.FunctionDef _ a _ _ _ _ _ _ _ _=>a
 |_=>{ posonlyargs:=[],args:=[],vararg:=none,kwonlyargs:=[],kw_defaults:=[],kwarg:=none,defaults:=[] }
noncomputable def cN(s:Stmt):List Stmt:=match s with
 |.FunctionDef _ _ b _ _ _ _ _ _ _=>b
 |_=>[]
noncomputable def ax(s:Stmt):Scope:=match s with
 |.FunctionDef _ _ _ _ _ _ sc _ _ _=>sc
 |_=>{ kind:=.function,names:=[],isGenerator:=false,isCoroutine:=false }
abbrev CX0:CXT:=λ_ _ _ _ _ _=>False
abbrev E0:XK:=λ_ _ _=>False
theorem ao{X:Cx}:jM CX0 X E0:=λ_ _ _ _ _ _ _ h=>h.elim
structure Fun(K:PySem.W.Frag)(x qual:Str)(st:Stmt)(f:Addr)(fd:FuncData):Prop where
 ex:∃(oc:Value) (od:Option Addr) (kV doc pm:Value) (an:Option Addr) (cdv ct:Value) (osl:Array (Option Value)),
  fd=PySem.W.fnOf x qual (cX st) (cN st) (ax st) .none kV doc pm an cdv ct/\K.lookup f=some ⟨oc,od,.func fd,osl⟩/\PySem.W.codeIn K cdv qual=true
 kp:PySem.W.keepIn K (.ref f)=true
section
variable {P:Program}{w:World}{K:PySem.W.Frag}{mg:Str->Option Value}{base:Heap}
theorem Fun.ok{x qual:Str}{st:Stmt}{f:Addr}{fd:FuncData}{N ps:List Str}{k:Nat}{sp:Sp}(F:Fun K x qual st f fd)(S:FnScope N ps (ax st))(len:∀vs H Q E,sp vs H Q E->vs.length=ps.length)
 (hbody:∀(cdv:Value) (A:Around) (outer:List Env) (s:Shared) (H:Hp) (vs:List V) (Q:VK) (E:XK),Room k (A.deeper (envOfC qual (ax st) s.heap.objs.size f cdv))->sp vs H Q E ->
   ∃t,PSs (dl CX0 P w K mg base N qual (ax st) f cdv A outer s H E).nox (cN st) t/\t { nx:=λ_ H'=>Q .non H',rt:=Q } (start N vs) H):FnOk P w K mg base CX0 (k+1) f fd ps sp:=by
 obtain⟨oc,od,kV,doc,pm,an,cdv,ct,osl,rfl,lk,hcd⟩:=F.ex;refine uc lk hcd S len λA outer s H vs Q E hr hsp=>?_
 obtain⟨t,h,q⟩:=hbody cdv A outer s H vs Q E hr hsp;exact⟨t,h.nox,q⟩
theorem Fun.binds{x qual:Str}{st:Stmt}{f:Addr}{fd:FuncData}{ps:List Str}(F:Fun K x qual st f fd)
 (h:∀(kV doc pm:Value) (an:Option Addr) (cdv ct:Value) (us:List Value),us.length=ps.length->bindArgs (PySem.W.fnOf x qual (cX st) (cN st) (ax st) .none kV doc pm an cdv ct) ⟨us,[]⟩=pure (ps.zip us)):Binds K fd ps []:=by
 obtain⟨oc,od,kV,doc,pm,an,cdv,ct,osl,rfl,lk,hcd⟩:=F.ex;exact .all (h kV doc pm an cdv ct)
theorem mU{x qual:Str}{st:Stmt}{f:Addr}{oc:Value}{od an:Option Addr}{osl:Array (Option Value)}{kV doc pm cdv ct:Value}(l:K.lookup f=some ⟨oc,od,.func (PySem.W.fnOf x qual (cX st) (cN st) (ax st) .none kV doc pm an cdv ct),osl⟩)
 (c:PySem.W.codeIn K cdv qual=true) (k:PySem.W.keepIn K (.ref f)=true):Fun K x qual st f (PySem.W.fnOf x qual (cX st) (cN st) (ax st) .none kV doc pm an cdv ct):=⟨⟨oc,od,kV,doc,pm,an,cdv,ct,osl,rfl,l,c⟩,k⟩
end
section
variable {X:Cx}
theorem pv(i:Nat){x:Str}{pos:Pos}(hN:X.N[i]?=some x:=by rfl)(hv:Vis X.env.scope x:=by first |exact Or.inl rfl |exact Or.inr (Or.inl rfl) |exact Or.inr (Or.inr rfl))(hd:(x == ("__debug__":Str))=false:=by decide)
 (hcd:(x == ("__classdict__":Str))=false:=by decide):PE X (.Name x pos) (kc i):=qT hN hv hd hcd
end
def Same(H H':Hp):Prop:=∀b o,H b=some o->H' b=some o
theorem Same.refl(H:Hp):Same H H:=λ_ _ h=>h
theorem Same.trans{H H1 H2:Hp}(a:Same H H1)(b:Same H1 H2):Same H H2:=λc o h=>b c o (a c o h)
theorem Same.free{H H':Hp}(e:Same H H'){l:Addr}(h:H' l=Option.none):H l=Option.none:=by
 cases q:H l with
 |none=>rfl
 |some o =>rw[e l o q]at h;cases h
theorem Same.seq{K:PySem.W.Frag}{H H':Hp}{a:Addr}{xs:List V}(e:Same H H')(h:SqL K H a xs):SqL K H' a xs:=by
 rcases h with(h |⟨o,h⟩) |h
 ·exact .inl (.inl (e _ _ h))
 ·exact .inl (.inr ⟨o,e _ _ h⟩)
 ·exact .inr h
end L2
set_option maxHeartbeats 4000000
namespace L2
open PySem PySem.Spec PyProof.Rows
noncomputable def cj(X:Cx)(N:List Str)(scope:Scope)(cl:List (Str×Addr))(C:Addr)(s₀:Shared)(H₀:Hp)(ex:List Addr):Cx where
 prog:=X.prog
 w:=X.w
 K:=X.K
 mg:=X.mg
 base:=X.base
 A:=X.A
 N:=N
 s₀:=s₀
 H₀:=H₀
 env:=compEnvC scope cl C X.env
 outer:=X.stack
 stack:=X.stack
 ex:=ex
 fn:=λ_=>false
 calm:=X.calm
 pn:=[]
 xe:=λ_ _=>False
structure CompOk(X:Cx)(fr:List Str)(js:List Nat)(scope:Scope)(cl:List (Str×Addr)):Prop where
 clos:closureFor scope X.env=pure cl
 cell:∀y∈scope.names,y.2≠.cell
 kind:scope.kind=.function
 names:∀y∈scope.names,y.2=.local->scope.names.lookup y.1=some .local
 clin:∀p∈cl,X.env.cells.lookup p.1=some p.2
 has:scope.names.all (λp=>p.2 != .free || (cl.lookup p.1).isSome)=true
 fre:Paired (λ(x:Str) (j:Nat)=>X.N[j]?=some x/\(X.env.scope.names.lookup x=some .cell\/X.env.scope.names.lookup x=some .free)/\scope.names.lookup x=some .free) fr js
theorem ik{env:Env}{x:Str}{k':NameKind}:∀{names:List (Str×NameKind)},
 (names.map λ(n,k)=>if(k == NameKind.free&&env.scope.kind == .function&&env.kindOf n == some .cell)then(n,NameKind.cell)else(n,k)).lookup x=some k' ->
 ∃k,names.lookup x=some k/\(k'=k\/(k=.free/\k'=.cell))
 | [],h=>by simp at h
 | (n,k)::r,h=>by
  have ih:=@ik env x k' r;change List.lookup x ((if(k == NameKind.free&&env.scope.kind == .function&&env.kindOf n == some .cell)=true then(n,NameKind.cell)else(n,k))::_)=_ at h
  by_cases hc:(k == NameKind.free&&env.scope.kind == .function&&env.kindOf n == some .cell)=true
  ·rw[if_pos hc]at h;cases hx:x == n with
   |true =>simp only[xA,hx]at h ⊢;cases h;refine⟨k,rfl,.inr ⟨?_,rfl⟩⟩;simp only[Bool.and_eq_true,beq_iff_eq]at hc;exact hc.1.1
   |false =>simp only[xA,hx]at h ⊢;exact ih h
  ·rw[if_neg hc]at h;cases hx:x == n with
   |true =>simp only[xA,hx]at h ⊢;cases h;exact⟨_,rfl,.inl rfl⟩
   |false =>simp only[xA,hx]at h ⊢;exact ih h
theorem k3{env:Env}{x:Str}:∀{names:List (Str×NameKind)},names.lookup x=some .free ->
 (names.map λ(n,k)=>if(k == NameKind.free&&env.scope.kind == .function&&env.kindOf n == some .cell)then(n,NameKind.cell)else(n,k)).lookup x=some .cell \/
 (names.map λ(n,k)=>if(k == NameKind.free&&env.scope.kind == .function&&env.kindOf n == some .cell)then(n,NameKind.cell)else(n,k)).lookup x=some .free
 | [],h=>by simp at h
 | (n,k)::r,h=>by
  have ih:=@k3 env x r;show List.lookup x ((if(k == NameKind.free&&env.scope.kind == .function&&env.kindOf n == some .cell)=true then(n,NameKind.cell)else(n,k))::_)=_\/List.lookup x ((if(k == NameKind.free&&env.scope.kind == .function&&env.kindOf n == some .cell)=true then(n,NameKind.cell)else(n,k))::_)=_;by_cases hc:(k == NameKind.free&&env.scope.kind == .function&&env.kindOf n == some .cell)=true
  ·rw[if_pos hc];cases hx:x == n with
   |true=>simp only[xA,hx];exact .inl trivial
   |false=>simp only[xA,hx]at h ⊢;exact ih h
  ·rw[if_neg hc];cases hx:x == n with
   |true =>simp only[xA,hx]at h ⊢;cases h;exact .inr rfl
   |false=>simp only[xA,hx]at h ⊢;exact ih h
noncomputable def cU(n:Nat)(js:List Nat)(σ:St):St:=List.replicate n none++js.map λj=>(σ[j]?).join
def jW(n:Nat)(js:List Nat)(g:TG)(te:TE)(σ:St)(Q:VK)(J:It)(H1:Hp):Prop:=∃W:Nat->Nat->List V->St->Hp->Prop,(∃m,W 0 m [] (cU n js σ) H1) /\
 ∀i m ys σ' H',W i m ys σ' H' ->
  (J.stop i H'/\∀p,H' p=none->Q (.ref p) (upd H' p (.lst ys))) \/
  (J.go i H'/\ys.length<sizeLine/\∃N:V->St->Hp->Prop,(∀y σ'' H'',N y σ'' H''->∃m',m'<m/\W (i+1) m' (ys++[y]) σ'' H'')/\∀x H2,J.yld i H' x H2->g x σ' H2 λσ3 H3=>te σ3 H3 λy H4=>N y σ3 H4)
def kh(n:Nat)(js:List Nat)(wi:TI)(g:TG)(te:TE):TE:=λσ H Q=>wi σ H λJ H1=>jW n js g te σ Q J H1
noncomputable def vx(X:Cx)(pins:List (Addr×Obj))(σ:St)(Q:VK)(D C:Addr)(s':Shared):Prop :=
 ∃H2,Inv X pins σ H2 s'/\Q (.ref D) H2/\H2 C=none/\C≠X.env.locals/\X.s₀.heap.objs.size<=C/\(∀x c,X.env.cells.lookup x=some c->c≠C)/\(∀p∈X.pn++pins,p.1≠C)/\∃m,s'.heap.Ns C m
section
variable {X:Cx}{own fr:List Str}{js:List Nat}{scope:Scope}{cl:List (Str×Addr)}{elt target iter:Expr}{pos:Pos}{wi:TI}{g:TG}{te:TE}
theorem cP(O:CompOk X fr js scope cl){x:Str}{c:Addr}(e:cl.lookup x=some c):X.env.cells.lookup x=some c:=O.clin (x,c) (PySem.mem_of_lookup e)
theorem nF{pins:List (Addr×Obj)}{σ:St}{H:Hp}{s:Shared}{fp:List Addr}{C:Addr}(O:CompOk X fr js scope cl)(I:Inv X pins σ H s)(hC:s.heap.objs.size<=C)(hf:∀b∈fp,cp X pins H b)(ho:∀b∈fp,b<s.heap.objs.size) :
 (cj X (own++fr) scope cl C s H fp).Ok:=by
 refine⟨I.ok.mod,O.kind,I.ok.glob,I.ok.blt,hC,λx y c h1 h2=>I.ok.inj x y c (cP O h1) (cP O h2),λx hx=>?_,λx c h=>(by cases h),I.ok.hd,I.ok.frames,.inl rfl,λb hb=>?_,I.bs,?_,λb o e hb=>?_,λb hb hb'=>?_,I.stack,I.stkFree⟩
 ·have key:scope.names.lookup x=some .free:=by
   have hx':(scope.names.map λ(n,k)=>if(k == NameKind.free&&X.env.scope.kind == .function&&X.env.kindOf n == some .cell)then(n,NameKind.cell)else(n,k)).lookup x=some .cell \/
    (scope.names.map λ(n,k)=>if(k == NameKind.free&&X.env.scope.kind == .function&&X.env.kindOf n == some .cell)then(n,NameKind.cell)else(n,k)).lookup x=some .free:=hx
   rcases hx' with h |h
   ·obtain⟨k,e,z⟩:=ik h;rcases z with z |⟨z,_⟩
    ·subst z;exact absurd rfl (O.cell _ (PySem.mem_of_lookup e))
    ·subst z;exact e
   ·obtain⟨k,e,z⟩:=ik h;rcases z with z |⟨_,z⟩
    ·subst z;exact e
    ·cases z
  have hm:=List.all_eq_true.mp O.has _ (PySem.mem_of_lookup key);have hs:(cl.lookup x).isSome=true:=by simpa using hm
  exact Option.isSome_iff_exists.mp hs
 ·obtain⟨f0,f1,f2,f3,f4,f5⟩:=hf b hb;exact⟨wY (wX (ho b hb) hC),λx c e=>f4 x c (cP O e)⟩
 ·exact xb I.ok.bsz I.sz
 ·obtain⟨f0,f1,f2,f3,f4,f5⟩:=hf b hb;rcases f3 with z |z
  ·exact I.ok.noex b o e z
  ·exact absurd (wX (Heap.lt_size e) (xb I.ok.bsz z)) (xn _)
 ·obtain⟨f0,f1,f2,f3,f4,f5⟩:=hf b hb;rcases wZ.mp (I.stkSub b hb')with z |z
  ·exact f1 z
  ·exact f2 z
theorem Paired.idx{α β:Type}{F:α->β->Prop}:∀{l₁:List α} {l₂:List β},Paired F l₁ l₂->∀(i:Nat) (a:α) (b:β),l₁[i]?=some a->l₂[i]?=some b->F a b
 |_,_,.nil,_,_,_,h,_=>by simp at h
 |_,_,.cons r _,0,a,b,h1,h2=>by simp at h1 h2;subst h1;subst h2;exact r
 |_,_,.cons _ t,i+1,a,b,h1,h2=>Paired.idx t i a b (by simpa using h1) (by simpa using h2)
theorem ut{pins:List (Addr×Obj)}{σ:St}{H:Hp}{s s':Shared}{fp:List Addr}{C:Addr}{m:Str->Option Value}(O:CompOk X fr js scope cl)(hl:fr.length=js.length)(I:Inv X pins σ H s)(hC:s.heap.objs.size<=C)(hf:∀b∈fp,cp X pins H b)
 (ho:∀b∈fp,b<s.heap.objs.size) (os:s'.os=s.os) (hg:s'.gens=s.gens) (old:∀b o,s.heap.get? b=some o->s'.heap.get? b=some o) (hn:s'.heap.Ns C m) :
 Inv (cj X (own++fr) scope cl C s H fp) [] (cU own.length js σ) H s':=by
 refine⟨nF O I hC hf ho,os,by rw[hg];exact I.bare,Un.kept old,⟨m,hn,λi x v e1 e2 e3=>?_⟩,λx c e=>?_,I.hok.fresh hC,λx c e=>I.freeC x c (cP O e),λp hp=>absurd (show p∈([]:List (Addr×Obj))from hp) (by simp),I.hok.kept old,?_⟩
 ·unfold cU at e2
  have e1':(own++fr)[i]?=some x:=e1;by_cases hi:i<own.length
  ·rw[List.getElem?_append_left (by simpa using hi),List.getElem?_replicate]at e2;split at e2<;>cases e2
  ·have hi':own.length<=i:=xr hi;rw[List.getElem?_append_right (by simpa using hi'),w8,List.getElem?_map]at e2;rw[List.getElem?_append_right hi']at e1';cases ej:js[i-own.length]? with
   |none=>rw[ej]at e2;cases e2
   |some j =>
    rw[ej]at e2;have e2':(σ[j]?).join=some v:=Option.some.inj e2
    have eσ:σ[j]?=some (some v):=by
     cases q:σ[j]? with
     |none=>rw[q]at e2';cases e2'
     |some o=>rw[q]at e2';simp at e2';rw[e2']
    obtain⟨hN,hk,hs⟩:=Paired.idx O.fre _ x j e1' ej;obtain⟨mo,hmo,hlo⟩:=I.loc;have vis:Vis X.env.scope x:=hk.elim (λz=>.inr (.inl z)) λz=>.inr (.inr z)
    obtain⟨u,r,l⟩:=hlo j x v hN eσ vis;refine⟨u,r,.inr ⟨k3 hs,?_⟩⟩;have hm:=List.all_eq_true.mp O.has _ (PySem.mem_of_lookup hs);have hs':(cl.lookup x).isSome=true:=by simpa using hm
    obtain⟨c,ec⟩:=Option.isSome_iff_exists.mp hs';refine⟨c,ec,?_⟩;rcases l with⟨k,_⟩ |⟨_,c',e',z⟩
    ·have k':X.env.scope.names.lookup x=some .local:=k;rcases hk with q |q<;>(rw[q]at k';cases k')
    ·have:=cP O ec;rw[e']at this;cases this;obtain⟨oc,hoc,hd⟩:=z;exact⟨oc,old _ _ hoc,hd⟩
 ·obtain⟨v,oc,hoc,hd⟩:=I.cell x c (cP O e);exact⟨v,oc,old _ _ hoc,hd⟩
 ·unfold cU;show _=(own++fr).length;rw[wF,wF,w8,wE,hl]
theorem Un.adopt{fs ex:List Addr}{H H1:Hp}{h h1:Heap}{a:Addr}{o:HO}(u:Un fs ex H H1 h h1)(ha:h.objs.size<=a)(hn:H a=none):Un fs ex H (upd H1 a o) h h1 where
 keep:=u.keep
 slot:=u.slot
 free:=λb ob q n hx=>by rw[ar (wY (wX (Heap.lt_size q) ha))];exact u.free b ob q n hx
 there:=u.there
 tups:=λb xs q=>by rw[ar (aN q hn)];exact u.tups b xs q
 frzs:=λb ob xs q=>by rw[ar (aN q hn)];exact u.frzs b ob xs q
 tbls:=λb ps q=>by rw[ar (aN q hn)];exact u.tbls b ps q
theorem HOk.adopt{P:Program}{w:World}{H:Hp}{h:Heap}{a:Addr}{o:HO}(x:HOk P w H h)(hn:H a=none)(new:ObjOk P w (upd H a o) h a o):HOk P w (upd H a o) h:=λb u e=>by
 by_cases hb:b=a
 ·subst hb;rw[ai]at e;cases e;exact new
 ·rw[ar hb]at e;exact(x b u e).stay (λc v _ q=>q) (λc q=>by rw[ar (aN q hn)];exact q) λc xs q=>by rw[ar (aN q hn)];exact q
theorem nI{pins:List (Addr×Obj)}{σ:St}{H:Hp}{s:Shared}{fp:List Addr}{it:Addr}{tn:Nat->Heap->Prop}{J:It}{E:Value->Shared->Prop}{Q:VK}{RR:Value->Addr->Result->Shared->Prop}(O:CompOk X fr js scope cl)(hl:fr.length=js.length)(hcm:X.calm=true)
 (I:Inv X pins σ H s) (T:Turn X.prog X.w X.K target J fp it tn) (st:tn 0 s.heap) (hf:∀b∈fp,cp X pins H b)
 (hg:∀C s₀ H₀ ex,PG (cj X (own++fr) scope cl C s₀ H₀ ex) target g) (he:∀C s₀ H₀ ex,PE (cj X (own++fr) scope cl C s₀ H₀ ex) elt te)
 (W:Nat->Nat->List V->St->Hp->Prop) {m0:Nat} (w0:W 0 m0 [] (cU own.length js σ) H)
 (turn:∀i m ys σ' H',W i m ys σ' H' ->
   (J.stop i H'/\∀p,H' p=none->Q (.ref p) (upd H' p (.lst ys))) \/
   (J.go i H'/\ys.length<sizeLine/\∃N:V->St->Hp->Prop,(∀y σ'' H'',N y σ'' H''->∃m',m'<m/\W (i+1) m' (ys++[y]) σ'' H'')/\∀x H2,J.yld i H' x H2->g x σ' H2 λσ3 H3=>te σ3 H3 λy H4=>N y σ3 H4))
 (hRR:∀D C s',vx X pins σ Q D C s'->RR (.ref D) C (.ok .next) s') :
 wpAny (model X.prog X.w) X.A (newList []) (λacc s₃=>wpAny (model X.prog X.w) X.A (newFunctionEnv scope X.env.globals cl [] X.env.qual none .none (some X.env)) (λcenv s₄ =>
  codeAny (model X.prog X.w) X.A (.compStart (.ListComp elt [⟨target,iter,[],0⟩] scope pos) 0 (.ref it) acc { cenv with scope:=relabel scope X.env }) (RR acc cenv.locals) s₄) E s₃) E s:=by
 refine wpAny_newObj_type (wpAny_newFunctionEnv O.cell (by intro y hy;simp at hy) (λh₁ hns₁ hsb₁=>?_) O.kind);dsimp only at hns₁ hsb₁ ⊢
 generalize hH2:s.heap.push { cls:=.type "list",dict:=none,data:=.seq ([]:List Value).toArray }=H2 at hns₁ hsb₁ ⊢
 have hCs:H2.objs.size=s.heap.objs.size+1:=by rw[<- hH2,Heap.size_push]
 have hDC:s.heap.objs.size≠H2.objs.size:=by rw[hCs];exact wY (xH _)
 have hCge:s.heap.objs.size<=H2.objs.size:=by rw[hCs];exact Nat.le_succ _
 have below:∀b,b<s.heap.objs.size->b≠H2.objs.size/\b≠s.heap.objs.size:=λb hb=>⟨by rw[hCs];exact wY (Nat.lt_succ_of_lt hb),wY hb⟩
 have old:∀b o,s.heap.get? b=some o->h₁.get? b=some o:=λb o e=>hsb₁.extBut b o (below b (Heap.lt_size e)).1 (Heap.get?_push_of_some _ (hH2 ▸ Heap.get?_push_of_some _ e))
 have hacc:h₁.get? s.heap.objs.size=some { cls:=.type "list",data:=.seq ([]:List Value).toArray 0 }:=hsb₁.extBut _ _ hDC (Heap.get?_push_of_some _ (hH2 ▸ Heap.get?_push_size _ rfl));have ho:∀b∈fp,b<s.heap.objs.size:=λb hb=>by obtain⟨o,e,_⟩:=T.obj 0 _ st b hb;exact Heap.lt_size e
 generalize hDe:s.heap.objs.size=D at *
 generalize hCe:H2.objs.size=C at *
 let X':Cx:=cj X (own++fr) scope cl C s H fp
 have ok':X'.Ok:=nF O I (by rw[hDe];exact hCge) hf (by rw[hDe];exact ho)
 have hDfs:D∉X'.fs:=by
  intro z;rcases wZ.mp (I.stkSub D z)with q |q
  ·exact absurd I.lt (by rw[<- q,hDe];exact xn _)
  ·exact I.nofs (xJ hDe) q
 have hDfp:∀b∈fp,D≠b:=λb hb z=>absurd (ho b hb) (by rw[z];exact xn _)
 have hDcell:∀x c,cl.lookup x=some c->c≠D:=λx c e z=>by obtain⟨v,q⟩:=I.cell x c (cP O e);exact absurd q.lt (by rw[z,hDe];exact xn _)
 have fpok:∀{H':Hp} {pins':List (Addr×Obj)},(∀p∈pins',p.1=D)->(∀b∈fp,H' b=none)->∀b∈fp,cp X' pins' H' b:=λ{H' pins'} hp hn b hb=>by
  obtain⟨f0,f1,f2,f3,f4,f5⟩:=hf b hb;refine⟨hn b hb,(below b (ho b hb)).1,λz=>?_,.inl hb,λx c e=>f4 x c (cP O e),λp hp'=>?_⟩
  ·rcases wZ.mp (I.stkSub b z)with q |q
   ·exact f1 q
   ·exact f2 q
  ·have hp'':p∈pins':=by simpa[X',cj]using hp'
   rw[hp p hp''];exact hDfp b hb
 have loop:∀s₃:Shared,s₃={ s with heap:=h₁,toks:=s.toks+([]:List (Str×Value)).length } ->
  codeAny (model X.prog X.w) X.A (.compLoop (.ListComp elt [⟨target,iter,[],0⟩] scope pos) 0 (.ref it) (.ref D) (compEnvC scope cl C X.env)) (RR (.ref D) C) s₃:=by
  rintro s₃ rfl
  refine PySem.W.kcp_loop (λk s'=>∃i σ' H' ys its nn,Inv X' [] σ' H' s'/\tn i s'.heap/\(∀b∈fp,H' b=none)/\H' D=none/\s'.heap.get? D=some { cls:=.type "list",data:=.seq (its:List Value).toArray nn }/\Vals ys its/\ys.length<=sizeLine/\W i k ys σ' H') ?_ m0
   ⟨0,_,H,[],[],0,ut O hl I (by rw[hDe];exact hCge) hf (by rw[hDe];exact ho) rfl rfl (by intro b o e;exact old b o e) hns₁,T.keep _ _ _ st λb _ o e=>old b o e,λb hb=>(hf b hb).1,I.hok.fresh (xJ hDe),hacc,.nil,wL _,w0⟩
  rintro k s' ⟨i,σ',H',ys,its,nn,I',st',hfn,hDn,hDo,rv,hz,w⟩;have hlen:=rv.length;have hpD:∀p∈[(D,({ cls:=.type "list",data:=.seq its.toArray nn }:Obj))],p.1=D:=λp hp=>by rw[w5.mp hp]
  have Ip:Inv X' [(D,({ cls:=.type "list",data:=.seq its.toArray nn }:Obj))] σ' H' s':=I'.pins_of λp hp=>by rw[w5.mp hp];exact⟨hDo,hDn,hDC,hDfs,λv z=>by cases z⟩
  rcases turn i k ys σ' H' w with⟨stop,fin⟩ |⟨go,hlt,N,hN,step⟩
  ·refine wpAny_mono (T.done X' rfl rfl rfl hcm i _ s' σ' H' (λ_ _=>False) Ip (fpok hpD hfn) st' stop) (λr s4 ⟨hr,I4⟩=>?_) λ_ _ z=>False.elim z
   subst hr;refine hRR D C s4 ?_;have hD4:s4.heap.get? D=some { cls:=.type "list",data:=.seq its.toArray nn }:=(I4.pin _ (xi _ (w5.mpr rfl))).1;have un:Un (frs X.stack) fp H (upd H' D (.lst ys)) s.heap s4.heap:=Un.adopt I4.base (xJ hDe) (I.hok.fresh (xJ hDe));have hok:HOk X.prog X.w (upd H' D (.lst ys)) s4.heap:=HOk.adopt I4.hok hDn ⟨hz,its,nn,rv,hD4⟩;refine⟨upd H' D (.lst ys),I.call' I4.os un hok I4.bare λb hb=>?_,fin D hDn,?_,?_,?_,λx c e z=>?_,λp hp z=>?_,?_⟩
   ·obtain⟨f0,f1,f2,f3,f4,f5⟩:=hf b hb;exact⟨f3,f1,f4,f5⟩
   ·rw[ar (Ne.symm hDC)];exact I4.free
   ·exact Nat.ne_of_gt (wX I.lt (by rw[hDe];exact hCge))
   ·exact xb I.sz (by rw[hDe];exact hCge)
   ·obtain⟨v,q⟩:=I.cell x c e;exact absurd (wX q.lt (by rw[hDe,z];exact hCge)) (xn _)
   ·exact absurd (wX (Heap.lt_size (I.pin p hp).1) (by rw[hDe,z];exact hCge)) (xn _)
   ·obtain⟨m',hn',_⟩:=I4.loc;exact⟨m',hn'⟩
  ·refine wpAny_mono (T.item X' rfl rfl rfl hcm i _ s' σ' H' (λ_ _=>False) Ip (fpok hpD hfn) st' go) (λr s4 ⟨u,hr,h4⟩=>?_) λ_ _ z=>False.elim z
   subst hr;refine wpAny_mono h4 (λ_ s5 ⟨x,H5,I5,r5,y5,st5,fr5⟩=>?_) λ_ _ z=>False.elim z
   have I5':=I5.pinned (fpok hpD fr5) (T.obj _ _ st5);refine wpAny_mono (hg C s H fp _ s5 σ' H5 x u _ I5' r5 (step x H5 y5)) (λ_ s6 ⟨σ6,H6,I6,q6⟩=>?_) λ_ _ z=>False.elim z
   refine wpAny_mono (he C s H fp _ s6 σ6 H6 _ I6 q6) (λv s7 ⟨y,H7,I7,r7,n7⟩=>?_) λ_ _ z=>False.elim z
   obtain⟨m',hm',w7⟩:=hN y σ6 H7 n7;have hD7:=I7.pin (D,{ cls:=.type "list",data:=.seq its.toArray nn }) (xi _ (xX _ (w5.mpr rfl)));refine append_at hD7.1 (λh8 sb hD8=>?_) (by rw[wV,<- hlen];exact hz);have I7':Inv X' [] σ6 H7 s7:=I7.pins_of λp hp=>absurd hp (by simp)
   have I8:Inv X' [] σ6 H7 { s7 with heap:=h8 }:=I7'.turned (t':=s7.toks) (it:=D) (λb o hb e=>(sb.2 b hb).trans e) hD7.2.1 hDC (.inr (xJ hDe)) hDcell (λp hp=>absurd (show p∈([]:List (Addr×Obj))from hp) (by simp));refine⟨m',hm',i+1,σ6,H7,ys++[y],its++[v],nn+1,I8,T.keep _ _ _ st5 λb hb o e=>?_,λb hb=>?_,hD7.2.1,?_,rv.append (.cons r7 .nil),?_,w7⟩
   ·exact(sb.2 b (λz=>hDfp b hb z.symm)).trans (I7.pin (b,o) (xi _ (xi _ (ga hb e)))).1
   ·obtain⟨o,e,d⟩:=T.obj _ _ st5 b hb;exact(I7.pin (b,o) (xi _ (xi _ (ga hb e)))).2.1
   ·rw[hD8,List.push_toArray]
   ·rw[wF,xG];exact hlt
 exact codeAny_compStart_list (loop _ rfl) (T.self _ 0 _ _ _ (T.keep _ _ _ st λb _ o e=>old b o e) (loop _ rfl))
theorem br(O:CompOk X fr js scope cl)(hcm:X.calm=true)(hi:PI X target iter wi)(hg:∀C s₀ H₀ ex,PG (cj X (own++fr) scope cl C s₀ H₀ ex) target g)(he:∀C s₀ H₀ ex,PE (cj X (own++fr) scope cl C s₀ H₀ ex) elt te)
 (hs:∀x,foldedSetIterable iter X.env x=pure x:=by intro _;rfl):PE X (.ListComp elt [⟨target,iter,[],0⟩] scope pos) (kh own.length js wi g te):=by
 intro pins s σ H Q I h;rw[eval_ListComp];refine wpAny_comprehension_free (use:=none) rfl hs O.clos O.kind O.names (thn (hi pins s σ H _ I h) λx s1 h1=>thn h1 λitv s2 h2=>?_);obtain⟨it,fp,tn,J,H2,rfl,I2,T,st,hf,W,⟨m0,w0⟩,turn⟩:=h2;refine nI (RR:=λacc C=>compPost (model X.prog X.w) X.A X.xe none (EP X pins σ Q) acc C) O (Paired.length O.fre) hcm I2 T st hf hg he W w0 turn ?_;rintro D C s' ⟨H3,I3,q,c1,c2,c3,c4,c5,m,hn⟩;exact⟨m,hn,λh' sb=>⟨.ref D,H3,I3.turned (t':=s'.toks) (it:=C) (λb o hb e=>(sb.2 b hb).trans e) c1 c2 (.inr c3) c4 c5,rfl,q⟩⟩
theorem iz{i:Nat}{y:Str}{py spos:Pos}(hN:X.N.Nodup)(hy:X.N[i]?=some y)(hly:Loc X.env.scope y)(O:CompOk X fr js scope cl)(hcm:X.calm=true)(hi:PI X target iter wi)(hg:∀C s₀ H₀ ex,PG (cj X (own++fr) scope cl C s₀ H₀ ex) target g)
 (he:∀C s₀ H₀ ex,PE (cj X (own++fr) scope cl C s₀ H₀ ex) elt te) (hsw:swapsWith (.ListComp elt [⟨target,iter,[],0⟩] scope pos) (some (.Name y py)) spos.line X.env=pure true)
 (hf:X.fn y=true\/X.env.scope.names.lookup y=some .local:=by first |exact .inl rfl |exact .inr rfl |assumption) (hs:∀x,foldedSetIterable iter X.env x=pure x:=by intro _;rfl) :
 PS X (.Assign [.Name y py] (.ListComp elt [⟨target,iter,[],0⟩] scope pos) spos) (cR (kh own.length js wi g te) (cF i)):=by
 intro pins s σ H D I h;rw[exec_Assign_Name_used _ _ _ _ hsw];refine wpAny_bind (wpAny_standAt (wpAny_bind ?_));show wpAny _ X.A (do let _ <- comprehension (.ListComp elt [⟨target,iter,[],0⟩] scope pos) scope X.env _ (newList []) false (eval iter X.env) (some (assign (.Name y py) X.env))) _ _ s
 refine wpAny_bind (wpAny_mono (wpAny_comprehension_free (use:=some (assign (.Name y py) X.env)) (Q:=λ_ s'=>SP X pins D .next s') rfl hs O.clos O.kind O.names
  (thn (hi pins s σ H _ I h) λx s1 h1=>thn h1 λitv s2 h2=>?_)) (λ_ s' hq=>wpAny_pure (wpAny_pure hq)) λ_ _ e=>e)
 obtain⟨it,fp,tn,J,H2,rfl,I2,T,st,hfp,W,⟨m0,w0⟩,turn⟩:=h2;refine nI (Q:=λx H1=>cF i x σ H1 D.nx) (RR:=λacc C=>compPost (model X.prog X.w) X.A X.xe (some (assign (.Name y py) X.env)) (λ_ s'=>SP X pins D .next s') acc C) O (Paired.length O.fre) hcm I2 T st hfp hg he W w0 turn ?_;rintro DD C s' ⟨H3,I3,q,c1,c2,c3,c4,c5,m,hn⟩;show wpAny _ _ (assign (.Name y py) X.env (.ref DD)) _ _ s';refine wpAny_assign_Name (km I3 hN hy hly (v:=.ref DD) rfl (λs4 I4 ⟨a,sb,ha⟩=>?_) hf)
 have hCa:C≠a:=by
  rcases ha with rfl |ha
  ·exact c2
  ·exactλz=>c4 y a ha z.symm
 refine⟨m,hn.sameBut sb hCa,λh' sb'=>⟨_,H3,I4.turned (t':=s4.toks) (it:=C) (λb o hb e=>(sb'.2 b hb).trans e) c1 c2 (.inr c3) c4 c5,q⟩⟩
end
theorem dn{n:Nat}{js:List Nat}{K:PySem.W.Frag}{a:Addr}{xs:List V}{g:TG}{te:TE}{σ0:St}{H:Hp}{Q:VK}(Pv:Nat->List V->St->Hp->Prop)(hz:xs.length<=sizeLine)(h0:Pv 0 [] (cU n js σ0) H)(hl:∀i ys σ H,i<=xs.length->Pv i ys σ H->SqL K H a xs/\ys.length<=i)
 (hs:∀i x ys σ H,xs[i]?=some x->Pv i ys σ H->g x σ H λσ2 H2=>te σ2 H2 λy H3=>Pv (i+1) (ys++[y]) σ2 H3) (hd:∀ys σ H p,Pv xs.length ys σ H->H p=none->Q (.ref p) (upd H p (.lst ys))) :
 jW n js g te σ0 Q (Itl K a) H:=by
 refine⟨λi m ys σ H=>m=xs.length-i/\i<=xs.length/\Pv i ys σ H,⟨xs.length,by simp,wL _,h0⟩,?_⟩;rintro i m ys σ H ⟨rfl,hi,p⟩;obtain⟨q,hy⟩:=hl i ys σ H hi p;by_cases hlt:i<xs.length
 ·refine .inr ⟨⟨xs,xs[i],q,by simp[hlt]⟩,by omega,λy σ'' H''=>Pv (i+1) (ys++[y]) σ'' H'',λy σ' H' p'=>⟨xs.length-(i+1),by omega,rfl,hlt,p'⟩,λx H' y=>?_⟩;obtain⟨e,y⟩:=y;subst e;exact hs i x ys σ _ (y xs q) p
 ·have e:i=xs.length:=by omega
  subst e;exact .inl ⟨⟨xs,q,wG _⟩,λr hr=>hd ys σ H r p hr⟩
theorem bL{k:Nat}{js:List Nat}{lo:Int}{n:Nat}{g:TG}{te:TE}{σ0:St}{H:Hp}{Q:VK}(Pv:Nat->List V->St->Hp->Prop)(hz:n<=sizeLine)(h0:Pv 0 [] (cU k js σ0) H)(hl:∀i ys σ H,i<=n->Pv i ys σ H->ys.length<=i)
 (hs:∀i ys σ H,i<n->Pv i ys σ H->g (.int (lo+i)) σ H λσ2 H2=>te σ2 H2 λy H3=>Pv (i+1) (ys++[y]) σ2 H3) (hd:∀ys σ H p,Pv n ys σ H->H p=none->Q (.ref p) (upd H p (.lst ys))) :
 jW k js g te σ0 Q (Itr lo n) H:=by
 refine⟨λi m ys σ H=>m=n-i/\i<=n/\Pv i ys σ H,⟨n,by simp,wL _,h0⟩,?_⟩;rintro i m ys σ H ⟨rfl,hi,p⟩;have hy:=hl i ys σ H hi p;by_cases hlt:i<n
 ·refine .inr ⟨hlt,by omega,λy σ'' H''=>Pv (i+1) (ys++[y]) σ'' H'',λy σ' H' p'=>⟨n-(i+1),by omega,rfl,hlt,p'⟩,λx H' y=>?_⟩;obtain⟨e,y⟩:=y;subst e y;exact hs i ys σ _ hlt p
 ·have e:i=n:=by omega
  subst e;exact .inl ⟨wG _,λr hr=>hd ys σ H r p hr⟩
def Bits(k:Nat)(i:Int):Prop:=i.natAbs<2^k
theorem Bits.mono{j k:Nat}{i:Int}(h:Bits j i)(hk:j<=k:=by decide):Bits k i:=wX h (Nat.pow_le_pow_right (by decide) hk)
theorem Bits.mul{j k:Nat}{a b:Int}(ha:Bits j a)(hb:Bits k b):Bits (j+k) (a*b):=by
 unfold Bits at *
 rw[Int.natAbs_mul,Nat.pow_add];exact Nat.mul_lt_mul_of_lt_of_lt ha hb
theorem Bits.add{k:Nat}{a b:Int}(ha:Bits k a)(hb:Bits k b):Bits (k+1) (a+b):=by
 unfold Bits at *
 have:=Int.natAbs_add_le a b;rw[Nat.pow_succ];omega
theorem Bits.neg{k:Nat}{a:Int}(ha:Bits k a):Bits k (-a):=by unfold Bits at *;rwa [Int.natAbs_neg]
theorem Bits.sub{k:Nat}{a b:Int}(ha:Bits k a)(hb:Bits k b):Bits (k+1) (a-b):=by rw[Int.sub_eq_add_neg];exact ha.add hb.neg
theorem Bits.of_le{k:Nat}{a b:Int}(hb:Bits k b)(h:a.natAbs<=b.natAbs):Bits k a:=xY h hb
theorem Bits.zero{k:Nat}:Bits k 0:=Nat.pow_pos (by decide)
theorem Bits.log{k:Nat}{i:Int}(h:Bits k i)(hk:0<k):i.natAbs.log2<k:=by
 by_cases h0:i.natAbs=0
 ·rw[h0];simpa using hk
 ·exact(Nat.log2_lt h0).mpr h
theorem Bits.int{k:Nat}{i:Int}(h:Bits k i)(hk:k<=1000000):Builtin.Int.intBits i<=2^20:=by
 have e:(2:Nat)^20=1048576:=by decide
 unfold Builtin.Int.intBits;split
 ·exact wL _
 ·rename_i hn
  have h0:i.natAbs≠0:=by intro z;have:i=0:=Int.natAbs_eq_zero.mp z;exact hn (by simp[this])
  have:=(Nat.log2_lt h0).mpr h;omega
section
variable {X:Cx}{a b:Expr}{ta tb:TE}{pos:Pos}
def vU(i j:Int):Prop:=Bits 1000000 i/\Bits 1000000 j
theorem aV:OpR X (binaryOp .Mult) (rI vU λi j=>.int (i*j)):=opI λ_ _ _ _ _ _ _ hc q=>mul_int q (.of_bits (hc.1.int (wG _)) (hc.2.int (wG _)))
theorem bR:OpR X (binaryOp .Mod) (rI (λ_ j=>0<j) λi j=>.int (i%j)):=qX
def vV(_ j:Int):Prop:=0<j/\Bits 9000 j
theorem cC:OpR X (binaryOp .FloorDiv) (rI vV λi j=>.int (i/j)):=opI λi j _ _ _ _ _ hc q=>by refine floordiv_int (Int.ne_of_gt hc.1) ?_ (.inl (PyProof.noPylong_of_log2 (hc.2.log (by decide))));rw[Int.fdiv_eq_ediv_of_nonneg _ (Int.le_of_lt hc.1)];exact q
theorem cL:OpR X (compareOp .Eq) (rI0 λi j=>.bl (decide (i=j))):=dO λ_ _ _ _ _ _ _ q=>eq_int (by rw[Bool.beq_eq_decide_eq];exact q)
theorem lI:OpR X (compareOp .NotEq) (rI0 λi j=>.bl (!decide (i=j))):=dO λ_ _ _ _ _ _ _ q=>ne_int (by rw[bne,Bool.beq_eq_decide_eq];exact q)
def lc(K:PySem.W.Frag):R2:=λx y H Q=>∃(a b:Addr) (ns ms:List Int),x=.ref a/\y=.ref b/\SqL K H a (ns.map V.int)/\SqL K H b (ms.map V.int)/\Q (.bl (decide (ns=ms))) H
def k8(K:PySem.W.Frag):R2:=λx y H Q=>∃(a b:Addr) (ns ms:List Int),x=.ref a/\y=.ref b/\SqL K H a (ns.map V.int)/\SqL K H b (ms.map V.int)/\Q (.bl (!decide (ns=ms))) H
theorem q5(hu:X.A.units+64<cLine):OpR X (compareOp .Eq) (lc X.K):=by intro pins s σ H x y v u Q I rx ry h;obtain⟨a,b,ns,ms,rfl,rfl,ha,hb,q⟩:=h;cases rx;cases ry;obtain⟨i1,r1,p1,_⟩:=I.list ha;obtain⟨i2,r2,p2,_⟩:=I.list hb;exact PySem.W.eq_intsK p1.isList (gc r1) p2.isList (gc r2) hu ⟨.bl _,H,I,rfl,q⟩
theorem qW(hu:X.A.units+64<cLine):OpR X (compareOp .NotEq) (k8 X.K):=by intro pins s σ H x y v u Q I rx ry h;obtain⟨a,b,ns,ms,rfl,rfl,ha,hb,q⟩:=h;cases rx;cases ry;obtain⟨i1,r1,p1,_⟩:=I.list ha;obtain⟨i2,r2,p2,_⟩:=I.list hb;exact PySem.W.ne_intsK p1.isList (gc r1) p2.isList (gc r2) hu ⟨.bl _,H,I,rfl,q⟩
noncomputable def dH(K:PySem.W.Frag):List V->Hp->VK->Prop:=λxs H Q=>∃(x:V) (t c:Value) (n:V) (k:Bool),xs=[x,n]/\RelV n c/\(∀u,RelV n u->u=c)/\TyOf K H x t/\PySem.W.kitOne K t c=some k/\Q (.bl k) H
theorem uH:bW X (.builtin "isinstance") (dH X.K):=by intro pins s σ H xs us Q I r h;obtain⟨x,t,c,n,k,rfl,rn,hn,ty,e,q⟩:=h;obtain⟨u1,u2,rfl,r1,r2⟩:=r.two;obtain rfl:=hn u2 r2;exact tz I r1 ty e λtk=>⟨.bl k,H,I.tok tk,rfl,q⟩
theorem jh{K:PySem.W.Frag}{H:Hp}{Q:VK}{x:V}{n:String}{t:Value}{k:Bool}(ty:TyOf K H x t)(e:PySem.W.kitOne K t (.type n)=some k)(q:Q (.bl k) H):dH K [x,.ty n] H Q :=
 ⟨x,t,.type n,.ty n,k,rfl,rfl,λ_ h=>h,ty,e,q⟩
end
section
variable {D:Ends}{σ:St}{H:Hp}{Q:VK}{t u:TS}{te ta tb:TE}{c:TT}{i:Nat}{v:V}{r:R2}
theorem qj(P:St->Hp->Prop)(h1:∀σ' H',P σ' H'->u D σ' H')(h2:(∀σ' H',P σ' H'->u D σ' H')->t { D with nx:=u D } σ H):bD t u D σ H:=h2 h1
theorem aA(h:te σ H λx H1=>u D (σ.set i (some x)) H1):bD (cR te (cF i)) u D σ H:=h
theorem im(h:te σ H λ_ H1=>u D σ H1):bD (gv te) u D σ H:=h
theorem il{t1:TS}(h:c σ H λb H1=>if b=true then t1 { D with nx:=u D } σ H1 else u D σ H1):bD (fu c t1 kg) u D σ H:=h
theorem ip{K:PySem.W.Frag}{n:V}(h:ta σ H λx H1=>dH K [x,n] H1 Q):tCB (dH K) (gw ta (gw (tC n) kf)) σ H Q:=h
theorem cx{t1 t2:TS}(P:St->Hp->Prop)(h1:∀σ' H',P σ' H'->u D σ' H')(h2:(∀σ' H',P σ' H'->u D σ' H')->c σ H λb H1=>if b=true then t1 { D with nx:=u D } σ H1 else t2 { D with nx:=u D } σ H1):bD (fu c t1 t2) u D σ H:=h2 h1
theorem cS(h:te σ H λx H1=>D.nx (σ.set i (some x)) H1):cR te (cF i) D σ H:=h
theorem bA(h:te σ H D.rt):kd te D σ H:=h
theorem qi(h:te σ H λ_ H1=>D.nx σ H1):gv te D σ H:=h
theorem qh(h:c σ H λb H1=>if b=true then t D σ H1 else u D σ H1):fu c t u D σ H:=h
theorem k5(h:Q v H):tC v σ H Q:=h
theorem ir{K:Bool->Hp->Prop}(h:te σ H λx H'=>∃k,x=.bl k/\K k H'):tB te σ H K:=h
theorem dG{K:Bool->Hp->Prop}{tt:TT}(h:tt σ H λk H1=>K (!k) H1):ke tt σ H K:=h
theorem qk{K:Bool->Hp->Prop}{t1 t2:TT}(h:t1 σ H λk H1=>if k=true then t2 σ H1 K else K false H1):ki t1 t2 σ H K:=h
theorem fG{K:Bool->Hp->Prop}{t1 t2:TT}(h:t1 σ H λk H1=>if k=true then K true H1 else t2 σ H1 K):tOr t1 t2 σ H K:=h
theorem qg{A B:Prop}(h:A):if true=true then A else B:=by rw[if_pos rfl];exact h
theorem cw{A B:Prop}(h:B):if false=true then A else B:=by rw[if_neg xD];exact h
theorem a0{p A B:Prop}[Decidable p](h1:p->A)(h2:¬p->B):if decide p=true then A else B:=by
 by_cases hp:p
 ·rw[if_pos (decide_eq_true hp)];exact h1 hp
 ·rw[if_neg (by rw[decide_eq_false hp];exact xD)];exact h2 hp
theorem io{p A B:Prop}[Decidable p](h1:¬p->A)(h2:p->B):if(!decide p)=true then A else B:=by
 by_cases hp:p
 ·rw[if_neg (by rw[decide_eq_true hp];exact xD)];exact h2 hp
 ·rw[if_pos (by rw[decide_eq_false hp];rfl)];exact h1 hp
end
structure Cal(P:Program)(w:World)(K:PySem.W.Frag)(mg:Str->Option Value)(base:Heap)(k:Nat)(x:Str)(ps:List Str)(sp:Sp)(f:Addr)(fd:FuncData):Prop where
 ok:FnOk P w K mg base CX0 k f fd ps sp
 mg:mg x=some (.ref f)
 kp:PySem.W.keepIn K (.ref f)=true
 bd:Binds K fd ps []
theorem Same.upd_new{H:Hp}{p:Addr}{o:HO}(h:H p=none):Same H (upd H p o):=λb u e=>by rw[ar (aN e h)];exact e
theorem Same.then_new{H H1:Hp}{p:Addr}{o:HO}(s:Same H H1)(h:H1 p=none):Same H (upd H1 p o):=s.trans (Same.upd_new h)
theorem Same.ne{H H1:Hp}{a p:Addr}{o:HO}(s:Same H H1)(e:H a=some o)(h:H1 p=none):a≠p:=aN (s a o e) h
section
variable {X:Cx}{K:PySem.W.Frag}
theorem aH(h:X.K=K):IxR X (k9 K):=by subst h;exact tw
theorem gC(h:X.K=K):SlR X (iu K):=by subst h;exact pw
noncomputable def qq(K:PySem.W.Frag):List V->Hp->VK->Prop:=λxs H Q=>∃p ys,xs=[.ref p]/\(SqL K H p ys\/SqT K H p ys)/\Q (.int ys.length) H
theorem aY(h:X.K=K):bW X (.builtin "len") (qq K):=by subst h;exact uG
noncomputable def qp(K:PySem.W.Frag):List V->Hp->VK->Prop:=λxs H Q=>∃p ys,xs=[.ref p]/\(SqL K H p ys\/SqT K H p ys)/\∀l,H l=none->Q (.ref l) (upd H l (.lst ys))
theorem nT(h:X.K=K):bW X (.type "list") (qp K):=by subst h;exact uF
theorem iP(h:X.K=K)(hu:X.A.units+64<cLine):OpR X (compareOp .Eq) (lc K):=by subst h;exact q5 hu
theorem fV(h:X.K=K)(hu:X.A.units+64<cLine):OpR X (compareOp .NotEq) (k8 K):=by subst h;exact qW hu
theorem jE(h:X.K=K):bW X (.builtin "isinstance") (dH K):=by subst h;exact uH
theorem cy{tg l:Expr}{tl:TE}(h:X.K=K)(hl:PE X l tl):PI X tg l (mH K tl):=by subst h;exact qR hl
end
noncomputable def Ite(K:PySem.W.Frag)(a:Addr):It :=
 ⟨λi H=>∃xs x,SqL K H a xs/\xs[i]?=some x,λi H x H'=>∃v p,x=.ref p/\H p=none/\H'=upd H p (.tup [.int i,v])/\∀xs,SqL K H a xs->xs[i]?=some v,λi H=>∃xs,SqL K H a xs/\xs.length<=i⟩
theorem oM{P:Program}{w:World}{K:PySem.W.Frag}{es:List Expr}{x1:Nat}{tp:Pos}(a e it:Addr)(hne:e≠it):Turn P w K (.Tuple es x1 tp) (Ite K a) [e,it] e (λi h=>(∃old,IsEnum h e it (i:Int) old)/\h.IsListIter it a i) where
 mem:=by simp
 obj:=λi h st b hb=>by
  obtain⟨⟨old,he⟩,hi⟩:=st;rcases wZ.mp hb with rfl |hb
  ·exact⟨_,he,λv z=>by cases z⟩
  ·have q:b=it:=by simpa using hb
   subst q;obtain⟨o,e,c,d⟩:=hi;exact⟨o,e,λv z=>by rw[d]at z;cases z⟩
 keep:=λi h h' st k=>by obtain⟨⟨old,he⟩,hi⟩:=st;exact⟨⟨old,k e (by simp) _ he⟩,hi.at λo q=>k it (by simp) o q⟩
 item:=by
  intro X hP hw hK hc i pins s σ H E I hf st hg;subst hP hw hK;obtain⟨⟨old,he⟩,hi⟩:=st;obtain⟨xs,x,hq,hx⟩:=hg;obtain⟨its,rv,p,hz⟩:=I.list hq;obtain⟨u,hu,ru⟩:=rv.get hx;refine wpAny_pyNext_enum_item he hi p.isList (x:=u) (by simpa using hu) hne λh' out hit' htup hsz kk=>?_
  have hfp:H s.heap.objs.size=none:=I.hok.fresh (wG _);have nfp:∀b o,H b=some o->b≠e/\b≠it:=λb o q=>⟨λz=>(by rw[z,(hf e (by simp)).1]at q;cases q),λz=>(by rw[z,(hf it (by simp)).1]at q;cases q)⟩
  have I1:Inv X pins σ (upd H s.heap.objs.size (.tup [.int i,x])) { s with heap:=h',toks:=s.toks+1 }:=by
   refine I.step (g':=s.gens) (d':=s.drawn) (ch:=[e,it]) (λb hb=>?_) (λb o _ _ hc q _=>kk b o (λz=>hc (by simp[z])) (λz=>hc (by simp[z])) q)
    (λb o _ _ hc q _=>⟨o.slots,kk b o (λz=>hc (by simp[z])) (λz=>hc (by simp[z])) q⟩) (λb o _ q n=>by rw[ar (wY (Heap.lt_size q))];exact n)
    (λb o hc q=>⟨o,kk b o (λz=>hc (by simp[z])) (λz=>hc (by simp[z])) q⟩) (λb ys q=>by rw[ar (aN q hfp)];exact q) (λb o ys q=>by rw[ar (aN q hfp)];exact q)
    (λb ps q=>⟨#[],by rw[ar (aN q hfp),q];simp⟩) (λm hm=>?_) (λb o q=>?_) I.bare
   ·obtain⟨f0,f1,f2,f3,f4,f5⟩:=hf b hb;exact⟨f3,f1,f4,f5⟩
   ·obtain⟨o,es',ep',ho,r⟩:=hm;exact⟨o,es',ep',kk _ o (Ne.symm (hf e (by simp)).2.1) (Ne.symm (hf it (by simp)).2.1) ho,r⟩
   ·by_cases hb:b=s.heap.objs.size
    ·subst hb;rw[ai]at q;cases q;exact⟨by show 2<=sizeLine;decide,[.int i s.toks,u],.cons ⟨_,rfl⟩ (.cons ru .nil),⟨_,htup,rfl,_,rfl⟩⟩
    ·rw[ar hb]at q;refine(I.hok b o q).stay (λc v hc z=>?_) (λc z=>by rw[ar (aN z hfp)];exact z) λc ys z=>by rw[ar (aN z hfp)];exact z
     rcases hc with rfl |hc
     ·exact kk c v (nfp c o q).1 (nfp c o q).2 z
     ·exact kk c v (nfp c _ hc).1 (nfp c _ hc).2 z
  refine⟨_,rfl,wpAny_letOwnedTupleGo_enum out λh'' he'' sb=>?_⟩;obtain⟨f0,f1,f2,f3,f4,f5⟩:=hf e (by simp)
  have hen:upd H s.heap.objs.size (.tup [.int i,x]) e=none:=by rw[ar (wY (Heap.lt_size he))];exact f0
  have I2:=I1.turned (h':=h'') (t':=s.toks+1) (it:=e) (λb o hb q=>(sb.2 b hb).trans q) hen f1 f3 f4 f5;refine⟨.ref s.heap.objs.size,_,I2,rfl,⟨x,_,rfl,hfp,rfl,λys hy=>by rw[I.list_inj hy hq];exact hx⟩,⟨⟨u,?_⟩,hit'.at λo q=>(sb.2 it (Ne.symm hne)).trans q⟩,λb hb=>?_⟩
  ·have:((i+1:Nat):Int)=(i:Int)+1:=by omega
   rw[this];exact he''
  ·have hlt:b<s.heap.objs.size:=by
    rcases wZ.mp hb with rfl |hb
    ·exact Heap.lt_size he
    ·have q:b=it:=by simpa using hb
     subst q;obtain⟨o,e1,_⟩:=hi;exact Heap.lt_size e1
   rw[ar (wY hlt)];exact(hf b hb).1
 done:=by intro X hP hw hK hc i pins s σ H E I hf st hg;subst hP hw hK;obtain⟨⟨old,he⟩,hi⟩:=st;obtain⟨xs,hq,hx⟩:=hg;obtain⟨its,rv,p,hz⟩:=I.list hq;obtain⟨f0,f1,f2,f3,f4,f5⟩:=hf it (by simp);have hl:=rv.length;exact wpAny_pyNext_enum_end (I.ok.hd hc) he hi p.isList (by simp;omega) λh' eb=>⟨rfl,I.turned (t':=s.toks) (λb o hb e=>eb b o hb e) f0 f1 f3 f4 f5⟩
 self:=λ_ _ _ _ _ st h=>by obtain⟨⟨old,he⟩,hi⟩:=st;exact wpAny_pyIter_enum he h
section
variable {X:Cx}
def tK(K:PySem.W.Frag)(ta:TA):TI:=λσ H R=>ta σ H λvs H1=>∃a,vs=[.ref a]/\(∃xs,SqL K H1 a xs)/\R (Ite K a) H1
theorem ln{es:List Expr}{x1:Nat}{tp:Pos}{a:Expr}{ta:TA}{p pos:Pos}(hg:Gl X "enumerate")(hm:X.mg "enumerate"=none)(ha:PA X [a] ta)(hs:starEach [a] X.env=[(false,eval a X.env)]:=by rfl):PI X (.Tuple es x1 tp) (.Call (.Name "enumerate" p) [a] [] pos) (tK X.K ta):=by
 intro pins s σ H R I h;refine Call_ (cb I hg hm boot_enumerate (PyProof.Rows.callWith_type1 (thn (ha pos pins s σ H _ I h) λus s1 ⟨vs,H1,I1,r1,q1⟩=>?_) hs rfl));obtain⟨a',e,⟨xs,hq⟩,q⟩:=q1;subst e;obtain⟨u,rfl,ru⟩:=r1.one;cases ru;obtain⟨its,rv,pl,hz⟩:=I1.list hq;refine call_enumerate_list pl.isList λh' he hit hsz hk=>?_
 have I2:Inv X pins σ H1 { s1 with heap:=h' }:=I1.kept (t':=s1.toks) hk;refine wpAny_pyIter_enum he ?_;refine⟨s1.heap.objs.size+1,[s1.heap.objs.size+1,s1.heap.objs.size],_,_,H1,rfl,I2,oM a' _ _ (Nat.succ_ne_self _),⟨⟨_,he⟩,hit⟩,λb hb=>?_,q⟩
 have hb':s1.heap.objs.size<=b:=by
  rcases wZ.mp hb with rfl |hb
  ·exact Nat.le_succ _
  ·have q:b=s1.heap.objs.size:=by simpa using hb
   subst q;exact wG _
 exact I1.fpOk hb' (I1.hok.fresh hb')
end
theorem mV{K:PySem.W.Frag}{a:Addr}{xs:List V}{g:TG}{tb:TS}{D:Ends}{σ:St}{H:Hp}(Pv:Nat->St->Hp->Prop)(h0:Pv 0 σ H)(hl:∀i σ H,i<=xs.length->Pv i σ H->SqL K H a xs)
 (hs:∀i x σ H p,xs[i]?=some x->Pv i σ H->H p=none->g (.ref p) σ (upd H p (.tup [.int i,x])) λσ2 H2=>tb { D with nx:=Pv (i+1),ct:=Pv (i+1),bk:=D.nx } σ2 H2) (hd:∀σ H,Pv xs.length σ H->D.nx σ H) :
 ∃W:Nat->Nat->St->Hp->Prop,(∃m,W 0 m σ H)/\∀i m σ H,W i m σ H ->
  ((Ite K a).stop i H/\D.nx σ H)\/((Ite K a).go i H/\∃N:St->Hp->Prop,(∀σ' H',N σ' H'->∃m',m'<m/\W (i+1) m' σ' H')/\∀x H',(Ite K a).yld i H x H'->g x σ H' λσ2 H2=>tb { D with nx:=N,ct:=N,bk:=D.nx } σ2 H2):=by
 refine⟨λi m σ H=>m=xs.length-i/\i<=xs.length/\Pv i σ H,⟨xs.length,by simp,wL _,h0⟩,?_⟩;rintro i m σ H ⟨rfl,hi,p⟩;have q:=hl i σ H hi p;by_cases hlt:i<xs.length
 ·refine .inr ⟨⟨xs,xs[i],q,by simp[hlt]⟩,Pv (i+1),λσ' H' p'=>⟨xs.length-(i+1),by omega,rfl,hlt,p'⟩,λx H' y=>?_⟩;obtain⟨v,r,rfl,hr,rfl,y⟩:=y;exact hs i v σ _ r (y xs q) p hr
 ·have e:i=xs.length:=by omega
  subst e;exact .inl ⟨⟨xs,q,wG _⟩,hd σ H p⟩
noncomputable def Itv(K:PySem.W.Frag)(a:Addr)(xs:List V):It :=
 ⟨λi H=>SqL K H a xs/\i<xs.length,λi H x H'=>H'=H/\xs[xs.length-1-i]?=some x,λi H=>xs.length<=i⟩
theorem oH{P:Program}{w:World}{K:PySem.W.Frag}{tg:Expr}(a it:Addr)(xs:List V):Turn P w K tg (Itv K a xs) [it] it (λi h=>i<=xs.length/\h.IsRevIter it a ((xs.length:Int)-1-i)) where
 mem:=by simp
 obj:=λi h st b hb=>by
  have e:b=it:=by simpa using hb
  subst e;obtain⟨_,o,e,c,d⟩:=st;exact⟨o,e,λv z=>by rw[d]at z;cases z⟩
 keep:=λi h h' st k=>⟨st.1,st.2.at λo e=>k it (by simp) o e⟩
 item:=by
  intro X hP hw hK hc i pins s σ H E I hf st hg;subst hP hw hK;obtain⟨hq,hlt⟩:=hg;obtain⟨its,rv,p,hz⟩:=I.list hq;have hl:=rv.length;obtain⟨x,hx⟩:∃x,xs[xs.length-1-i]?=some x:=⟨_,List.getElem?_eq_getElem (by omega)⟩;obtain⟨u,hu,ru⟩:=rv.get hx;obtain⟨f0,f1,f2,f3,f4,f5⟩:=hf it (by simp);have e1:(xs.length:Int)-1-i=((xs.length-1-i:Nat):Int):=by omega
  have hit:=st.2;rw[e1]at hit;refine wpAny_pyNext_rev_item hit p.isList (x:=u) (by simpa using hu) λh' st' sb=>?_
  have I1:Inv X pins σ H { s with heap:=h' }:=I.turned (t':=s.toks) (λb o hb e=>(sb.2 b hb).trans e) f0 f1 f3 f4 f5;obtain⟨o,e,c,d⟩:=id st';refine⟨u,rfl,ge (s:={ s with heap:=h' }) e c d (by decide) ⟨x,H,I1,ru,⟨rfl,hx⟩,⟨hlt,?_⟩,λb hb=>(hf b hb).1⟩⟩;have e2:(xs.length:Int)-1-((i+1:Nat):Int)=((xs.length-1-i:Nat):Int)-1:=by omega
  rw[e2];exact st'
 done:=by
  intro X hP hw hK hc i pins s σ H E I hf st hg;subst hP hw hK;obtain⟨f0,f1,f2,f3,f4,f5⟩:=hf it (by simp);have hle:xs.length<=i:=hg;have e1:(xs.length:Int)-1-i = -1:=by have:=st.1;omega
  have hit:=st.2;rw[e1]at hit;exact wpAny_pyNext_rev_end (I.ok.hd hc) hit λh' eb=>⟨rfl,I.turned (t':=s.toks) (λb o hb e=>eb b o hb e) f0 f1 f3 f4 f5⟩
 self:=λ_ _ _ _ _ st h=>wpAny_pyIter_revIter st.2 h
section
variable {X:Cx}{tg:Expr}
def tJ(K:PySem.W.Frag)(ta:TA):TI:=λσ H R=>ta σ H λvs H1=>∃a xs,vs=[.ref a]/\SqL K H1 a xs/\R (Itv K a xs) H1
theorem qP{a:Expr}{ta:TA}{p pos:Pos}(hg:Gl X "reversed")(hm:X.mg "reversed"=none)(ha:PA X [a] ta)(hs:starEach [a] X.env=[(false,eval a X.env)]:=by rfl):PI X tg (.Call (.Name "reversed" p) [a] [] pos) (tJ X.K ta):=by
 intro pins s σ H R I h;refine Call_ (cb I hg hm boot_reversed (PyProof.Rows.callWith_type1 (thn (ha pos pins s σ H _ I h) λus s1 ⟨vs,H1,I1,r1,q1⟩=>?_) hs rfl));obtain⟨a',xs,e,hq,q⟩:=q1;subst e;obtain⟨u,rfl,ru⟩:=r1.one;cases ru;obtain⟨its,rv,pl,hz⟩:=I1.list hq;have hl:=rv.length;refine call_reversed_list pl.isList ?_
 have hit:(s1.heap.push (revObj a' ((its.toArray.size:Int)-1))).IsRevIter s1.heap.objs.size a' ((xs.length:Int)-1-((0:Nat):Int)):=by
  have e1:(xs.length:Int)-1-((0:Nat):Int)=(its.toArray.size:Int)-1:=by rw[wV];omega
  rw[e1];exact⟨_,Heap.get?_push_size _ rfl,rfl,rfl⟩
 have I2:Inv X pins σ H1 { s1 with heap:=s1.heap.push (revObj a' ((its.toArray.size:Int)-1)) }:=I1.kept (t':=s1.toks) λb o e=>Heap.get?_push_of_some _ e
 refine wpAny_pyIter_revIter (s:={ s1 with heap:=s1.heap.push (revObj a' ((its.toArray.size:Int)-1)) }) hit ?_;refine⟨s1.heap.objs.size,[s1.heap.objs.size],_,_,H1,rfl,I2,oH a' _ xs,⟨wL _,hit⟩,λb hb=>?_,q⟩;have e:b=s1.heap.objs.size:=by simpa using hb
 subst e;exact I1.fpOk (wG _) (I1.hok.fresh (wG _))
end
theorem ua{K:PySem.W.Frag}{a:Addr}{xs:List V}{g:TG}{tb:TS}{D:Ends}{σ:St}{H:Hp}(Pv:Nat->St->Hp->Prop)(h0:Pv 0 σ H)(hl:∀i σ H,i<=xs.length->Pv i σ H->SqL K H a xs)
 (hs:∀i x σ H,i<xs.length->xs[xs.length-1-i]?=some x->Pv i σ H->g x σ H λσ2 H2=>tb { D with nx:=Pv (i+1),ct:=Pv (i+1),bk:=D.nx } σ2 H2) (hd:∀σ H,Pv xs.length σ H->D.nx σ H) :
 ∃W:Nat->Nat->St->Hp->Prop,(∃m,W 0 m σ H)/\∀i m σ H,W i m σ H ->
  ((Itv K a xs).stop i H/\D.nx σ H)\/((Itv K a xs).go i H/\∃N:St->Hp->Prop,(∀σ' H',N σ' H'->∃m',m'<m/\W (i+1) m' σ' H')/\∀x H',(Itv K a xs).yld i H x H'->g x σ H' λσ2 H2=>tb { D with nx:=N,ct:=N,bk:=D.nx } σ2 H2):=by
 refine⟨λi m σ H=>m=xs.length-i/\i<=xs.length/\Pv i σ H,⟨xs.length,by simp,wL _,h0⟩,?_⟩;rintro i m σ H ⟨rfl,hi,p⟩;by_cases hlt:i<xs.length
 ·refine .inr ⟨⟨hl i σ H hi p,hlt⟩,Pv (i+1),λσ' H' p'=>⟨xs.length-(i+1),by omega,rfl,hlt,p'⟩,λx H' y=>?_⟩;obtain⟨e,y⟩:=y;subst e;exact hs i x σ _ hlt y p
 ·have e:i=xs.length:=by omega
  subst e;exact .inl ⟨wG _,hd σ H p⟩
section
variable {prog:Program}{w:World}{A:Around}{E:Value->Shared->Prop}{s:Shared}
theorem sC:typeLookup (.type "list_reverseiterator") "__len__"=pure none:=by rw[typeLookup_type,builtinLookup_eq_fast];kernel_rfl
theorem sD:typeLookup (.type "list_reverseiterator") "__length_hint__"=pure (some (.builtin "list_reverseiterator.__length_hint__")):=by rw[typeLookup_type,builtinLookup_eq_fast];kernel_rfl
theorem p9{r:Addr}{Q:Bool->Shared->Prop}(hT:s.TypeIs (.ref r) "list_reverseiterator")(h:Q false s):wpAny (model prog w) A (Builtin.List.listLengthHint (.ref r)) Q E s:=by
 unfold Builtin.List.listLengthHint;refine wpAny_bind (wpAny_specialOf hT sC ?_);show wpAny _ A (specialOf (Value.ref r) (Str.ofString "__length_hint__") >>= _) _ _ _;refine wpAny_bind (wpAny_specialOf hT sD ?_);generalize hid:("list_reverseiterator.__length_hint__":String)=id0
 wp_delta
 rw[show splitId id0=some ("list_reverseiterator","__length_hint__")from by subst hid;decide +kernel];subst hid;refine wpAny_bind (wpAny_isInstance (T:="list_reverseiterator") (b:=true) hT (by rw[isSubtype_type];kernel_rfl) ?_);refine wpAny_ite_split (λhab=>absurd hab (by decide)) (λ_=>?_);refine wpAny_ite_split (λ_=>?_) (λhab=>absurd (by decide +kernel) hab);refine wpAny_ite_split (λhab=>absurd hab (by decide +kernel)) (λ_=>?_);exact wpAny_pure h
theorem qa{R:Result->Shared->Prop}{I l:Addr}{items:Array Value}(hh:A.handled=none)(hit:s.heap.IsRevIter I l ((items.size:Int)-1))(hl:s.heap.IsList l items)(hne:l≠I)(S:Addr)(hSI:S≠I)(hSl:S≠l)(res:Value)(c₀:Nat)
 (hS:s.heap.get? S=some { cls:=.type "list",data:=.seq #[] c₀ })
 (hR:∀h' tk acc' c',(∀b o,b≠S->b≠I->s.heap.get? b=some o->h'.get? b=some o)->h'.get? S=some { cls:=.type "list",dict:=none,data:=.seq acc' c',slots:=#[] }->ItemsOf (λi v=>items[items.size-1-i]?=some v) acc' items.size->R (.ok (.ret res)) { s with heap:=h',toks:=tk }) (hn:items.size<=sizeLine) :
 wpAny (model prog w) A.in1 (Builtin.List.listExtendWith (.ref S) (.ref I) res)
  (λfin s'=>match fin with |.done f=>R (.ok f) s' |.again c'=>c'.quiet=true/\codeAny (model prog w) A c' R s') (λe s'=>R (.error e) s') s:=by
 have hSf:S∉[I,l]:=by simp only[wZ,xK,or_false,not_or];exact⟨hSI,hSl⟩
 have W:=Walks.listRev (prog:=prog) (w:=w) (A:=A.in1) hh I l hne items;have st:0<=items.size/\s.heap.IsRevIter I l ((items.size:Int)-1-((0:Nat):Int))/\s.heap.IsList l items:=⟨wL _,by rw[show(items.size:Int)-1-((0:Nat):Int)=(items.size:Int)-1 by omega];exact hit,hl⟩;unfold Builtin.List.listExtendWith;refine wpAny_bind (wpAny_typeOf (T:="list_reverseiterator") hit.typeIs ?_);have h1:Builtin.List.listSameRef (.ref S) (.ref I)=false:=by simp[Builtin.List.listSameRef,hSI]
 have h2:(Value.type "list_reverseiterator" == Value.type "list")=false:=by decide
 have h3:(Value.type "list_reverseiterator" == Value.type "tuple")=false:=by decide
 simp only[h1,h2,h3,Bool.or_false,Bool.false_eq_true,if_false];refine wpAny_bind (wpAny_pyIter_revIter hit ?_);refine wpAny_bind (wpAny_holding (p9 hit.typeIs ?_));refine wpAny_ite_split (λhab=>absurd hab (by decide)) (λ_=>wpAny_pure ⟨plainId_quiet PySem.F.plain_extend_loop _,?_⟩);refine codeAny_extend_loopS W.toS hn S hSf res items.size 0 _ #[] c₀ rfl (wL _) st hS (ItemsOf.nil _) λs' acc' c' hm hS' hacc=>?_
 rw[Moved.eq_with hm];refine hR s'.heap s'.toks acc' c' (λb o hb hb' e=>hm.heap b o (λhmem=>?_) e) hS' hacc;rcases wZ.mp hmem with e' |hmem
 ·exact hb e'
 ·exact hb' (w5.mp hmem)
theorem p8{R:Result->Shared->Prop}{I l:Addr}{items:Array Value}(hh:A.handled=none)(hit:s.heap.IsRevIter I l ((items.size:Int)-1))(hl:s.heap.IsList l items)(hne:l≠I)(S:Addr)(hSI:S≠I)(hSl:S≠l)
 (hS:s.heap.get? S=some { cls:=.type "list",data:=.seq #[] })
 (hR:∀h' tk acc' c',(∀b o,b≠S->b≠I->s.heap.get? b=some o->h'.get? b=some o)->h'.get? S=some { cls:=.type "list",dict:=none,data:=.seq acc' c',slots:=#[] }->ItemsOf (λi v=>items[items.size-1-i]?=some v) acc' items.size->R (.ok (.ret .none)) { s with heap:=h',toks:=tk }) (hn:items.size<=sizeLine) :
 wpAny (model prog w) A.in1 (Builtin.«list.__init__» ⟨[.ref S,.ref I],[]⟩)
  (λfin s'=>match fin with |.done f=>R (.ok f) s' |.again c'=>c'.quiet=true/\codeAny (model prog w) A c' R s') (λe s'=>R (.error e) s') s:=by
 show wpAny _ _ (do let old <- Builtin.List.listItems (.ref S);Builtin.List.listUpdate (.ref S) (λ_=>#[]);letGo old.toList.reverse;Builtin.List.listExtendWith (.ref S) (.ref I) .none) _ _ s;refine wpAny_bind ?_;unfold Builtin.List.listItems;refine wpAny_bind (wpAny_seqItems hS rfl (wpAny_pure ?_));show wpAny _ _ (updateSeq S (λ_=>#[]) >>= λ_=>letGo (#[]:Array Value).toList.reverse >>= λ_=>Builtin.List.listExtendWith (.ref S) (.ref I) .none) _ _ s;refine wpAny_bind (wpAny_updateSeq hS rfl ?_);have hS₂:=Heap.get?_update_self (Obj.mapSeq (λ_=>(#[]:Array Value))) hS rfl
 have oth:∀b o,b≠S->s.heap.get? b=some o->(s.heap.update S (Obj.mapSeq (λ_=>(#[]:Array Value)))).get? b=some o :=
  λb o hb e=>(Heap.get?_update_other _ _ (Ne.symm hb)).trans e
 refine wpAny_bind (wpAny_letGo ?_);refine qa hh (hit.at λo e=>oth I o hSI.symm e) (hl.at λo e=>oth l o hSl.symm e) hne S hSI hSl .none _ hS₂ (λh' tk acc' c' hk hS' hacc=>?_) hn;exact hR h' tk acc' c' (λb o hb hb' e=>hk b o hb hb' (oth b o hb e)) hS' hacc
theorem qb{Q:Value->Shared->Prop}{I l:Addr}{items:Array Value}(hh:A.handled=none)(hit:s.heap.IsRevIter I l ((items.size:Int)-1))(hl:s.heap.IsList l items)(hne:l≠I)(hn:items.size<=sizeLine)
 (hQ:∀h' tk acc' c',(∀b o,b≠I->s.heap.get? b=some o->h'.get? b=some o)->h'.get? s.heap.objs.size=some { cls:=.type "list",dict:=none,data:=.seq acc' c',slots:=#[] }->ItemsOf (λi v=>items[items.size-1-i]?=some v) acc' items.size->Q (.ref s.heap.objs.size) { s with heap:=h',toks:=tk }) :
 wpAny (model prog w) A (call (.type "list") [.ref I]) Q E s:=by
 refine callType_codes (Q₁:=λobj s₁=>obj=.ref s.heap.objs.size/\s₁={ s with heap:=s.heap.push { cls:=.type "list",data:=.seq #[] } }) PySem.F.called_list (PySem.F.typeCall_list_1 _) PySem.F.entry_list_init
  (code_list_new _ ⟨rfl,rfl⟩) λobj s₁ h₁=>?_
 obtain⟨rfl,rfl⟩:=h₁;have hS:(s.heap.push { cls:=.type "list",data:=.seq #[] }).get? s.heap.objs.size=some { cls:=.type "list",data:=.seq #[] }:=Heap.get?_push_size _ rfl;have hI:I<s.heap.objs.size:=by obtain⟨o,e,_⟩:=hit;exact Heap.lt_size e
 have hl':l<s.heap.objs.size:=by obtain⟨o,e,_⟩:=hl;exact Heap.lt_size e
 refine⟨⟨_,hS,rfl⟩,PySem.F.args_list_init_2 _ _,p8 (A:=A.in1) hh (hit.at λo e=>Heap.get?_push_of_some _ e) (hl.at λo e=>Heap.get?_push_of_some _ e) hne _ (Nat.ne_of_gt hI) (Nat.ne_of_gt hl') hS (λh' tk acc' c' hk hS' hacc=>?_) hn⟩;exact⟨rfl,hQ h' tk acc' c' (λb o hb e=>hk b o (wY (Heap.lt_size e)) hb (Heap.get?_push_of_some _ e)) hS' hacc⟩
end
theorem pZ{xs:List V}{its:List Value}{acc:Array Value}(r:Vals xs its)(h:ItemsOf (λi v=>its.toArray[its.toArray.size-1-i]?=some v) acc its.toArray.size):Vals xs.reverse acc.toList:=by
 have e:acc.toList=its.reverse:=by
  apply List.ext_getElem?;intro i;have hs:acc.size=its.length:=by have:=h.1;simpa using this
  by_cases hi:i<its.length
  ·obtain⟨v,hv⟩:∃v,acc[i]?=some v:=⟨_,Array.getElem?_eq_getElem (by omega)⟩;have q:=h.2 i v hv;rw[List.getElem?_reverse hi,Array.getElem?_toList,hv];simpa using q.symm
  ·rw[List.getElem?_eq_none_iff.mpr (by simp;omega),List.getElem?_eq_none_iff.mpr (by simp;omega)]
 rw[e];exact r.reverse
section
variable {X:Cx}{K:PySem.W.Frag}
def o6(K:PySem.W.Frag)(ta:TA):TE:=λσ H Q=>ta σ H λvs H1=>∃a xs,vs=[.ref a]/\SqL K H1 a xs/\∀p,H1 p=none->Q (.ref p) (upd H1 p (.lst xs.reverse))
theorem lx{a:Expr}{ta:TA}{p1 p2 pos1 pos2:Pos}(hK:X.K=K)(hc:X.calm=true)(hg:Gl X "list")(hm:X.mg "list"=none)(hg2:Gl X "reversed")(hm2:X.mg "reversed"=none)(ha:PA X [a] ta)(hs:starEach [a] X.env=[(false,eval a X.env)]:=by rfl)
 (hs2:starEach [.Call (.Name "reversed" p2) [a] [] pos2] X.env=[(false,eval (.Call (.Name "reversed" p2) [a] [] pos2) X.env)]:=by rfl):PE X (.Call (.Name "list" p1) [.Call (.Name "reversed" p2) [a] [] pos2] [] pos1) (o6 K ta):=by
 subst hK;intro pins s σ H Q I h;refine Call_ (cb I hg hm PyProof.Rows.boot_list (PyProof.Rows.callWith_type1 ?_ hs2 rfl));rw[hs2];show wpAny _ _ (spliced ((false,eval (.Call (.Name "reversed" p2) [a] [] pos2) X.env)::[])) _ _ s;refine Calls.spliced_cons (Call_ (cb I hg2 hm2 boot_reversed (PyProof.Rows.callWith_type1 (thn (ha pos2 pins s σ H _ I h) λus s1 ⟨vs,H1,I1,r1,q1⟩=>?_) hs rfl)));obtain⟨a',xs,e,hq,q⟩:=q1;subst e;obtain⟨u,rfl,ru⟩:=r1.one;cases ru;obtain⟨its,rv,pl,hz⟩:=I1.list hq;have hlen:=rv.length;refine call_reversed_list pl.isList (Calls.spliced_nil ?_);have hlt:a'<s1.heap.objs.size:=by obtain⟨o,e,_⟩:=pl.isList;exact Heap.lt_size e
 refine qb (s:={ s1 with heap:=s1.heap.push (revObj a' ((its.toArray.size:Int)-1)) }) (I.ok.hd hc) ⟨_,Heap.get?_push_size _ rfl,rfl,rfl⟩ (pl.isList.at λo e=>Heap.get?_push_of_some _ e) (wY hlt) (by rw[wV];omega) λh' tk acc' c' hk hS' hacc=>?_
 have hsz:(s1.heap.push (revObj a' ((its.toArray.size:Int)-1))).objs.size=s1.heap.objs.size+1:=Heap.size_push ..;have kept:∀b o,s1.heap.get? b=some o->h'.get? b=some o:=λb o e=>hk b o (wY (Heap.lt_size e)) (Heap.get?_push_of_some _ e)
 have hge:s1.heap.objs.size<=(s1.heap.push (revObj a' ((its.toArray.size:Int)-1))).objs.size:=by rw[hsz];exact Nat.le_succ _
 have hf:H1 (s1.heap.push (revObj a' ((its.toArray.size:Int)-1))).objs.size=none:=I1.hok.fresh hge;have rvv:=pZ rv hacc;refine⟨.ref _,_,I1.laid (t':=tk) kept hge ?_,rfl,q _ hf⟩;exact⟨by rw[wW];exact hz,acc'.toList,c',rvv,by rw[Array.toArray_toList];exact hS'⟩
end
noncomputable def dt(lo:Int)(n:Nat):It:=⟨λi _=>i<n,λi H x H'=>H'=H/\x=.int (lo+i * -1),λi _=>n<=i⟩
theorem oI{P:Program}{w:World}{K:PySem.W.Frag}{tg:Expr}(it:Addr)(lo:Int)(n:Nat):Turn P w K tg (dt lo n) [it] it (λi h=>IsRangeIter h it (lo+(i:Nat) * -1) ((n:Int)-(i:Nat)) (-1)) where
 mem:=by simp
 obj:=λi h st b hb=>by
  have e:b=it:=by simpa using hb
  subst e
  exact⟨_,st,λv z=>by
   have z':Data.fields _=Data.cell v:=z
   cases z'⟩
 keep:=λi h h' st k=>k it (by simp) _ st
 item:=by
  intro X hP hw hK hc i pins s σ H E I hf st hg;subst hP hw hK;obtain⟨f0,f1,f2,f3,f4,f5⟩:=hf it (by simp);have W:=Walks.range (prog:=X.prog) (w:=X.w) (I.ok.hd hc) it lo (-1) n;refine W.item i s _ _ hg st λv h' tk hv st' kk=>?_
  obtain⟨t,rfl⟩:=hv;have I1:Inv X pins σ H { s with heap:=h',toks:=tk }:=I.turned (λb o hb e=>kk b o (by simpa using hb) e) f0 f1 f3 f4 f5;exact⟨_,rfl,ge (s:={ s with heap:=h',toks:=tk }) (n:="range_iterator") st' rfl rfl (by decide) ⟨.int (lo+i * -1),H,I1,⟨t,rfl⟩,⟨rfl,rfl⟩,st',λb hb=>(hf b hb).1⟩⟩
 done:=by intro X hP hw hK hc i pins s σ H E I hf st hg;subst hP hw hK;obtain⟨f0,f1,f2,f3,f4,f5⟩:=hf it (by simp);exact wpAny_pyNext_range_end (I.ok.hd hc) st (by have:n<=i:=hg;omega) λh' eb=>⟨rfl,I.turned (t':=s.toks) (λb o hb e=>eb b o hb e) f0 f1 f3 f4 f5⟩
 self:=λ_ _ _ _ _ st h=>wpAny_pyIter_rangeiter st h
theorem k7(a b:Int):Builtin.Range.rangeSize a b (-1)=if b<a then a-b else 0:=by unfold Builtin.Range.rangeSize;rw[if_neg (by decide)];show(if a>b then(a-b-1)/1+1 else 0)=_;rw[Int.ediv_one];split<;>omega
theorem pi{a b:Int}(ha : -(2^61)<=a)(ha':a<2^61)(hb : -(2^61)<=b)(hb':b<2^61):Builtin.Range.small a b (-1)=true:=by unfold Builtin.Range.small;rw[k7];simp only[Builtin.Range.rangeFitsLong,Bool.and_eq_true,Bool.or_eq_true,decide_eq_true_eq,beq_iff_eq,show ¬((-1:Int)>0) by decide,if_false];split<;>omega
section
variable {X:Cx}{tg:Expr}
theorem ql{pins:List (Addr×Obj)}{σ:St}{H:Hp}{s:Shared}{R:It->Hp->Prop}{E:Value->Shared->Prop}{lo hi:Int}{t u v:Tok}{tk:Nat}(I:Inv X pins σ H s)(h1 : -(2^61)<=lo)(h2:lo<2^61)(h3 : -(2^61)<=hi)(h4:hi<2^61)
 (q:R (dt lo (lo-hi).toNat) H):wpAny (model X.prog X.w) X.A (pyIter (.ref s.heap.objs.size)) (PIE X pins σ tg R) E { s with heap:=s.heap.push { cls:=.type "range",data:=.fields #[.int lo t,.int hi u,.int (-1) v] },toks:=tk }:=by
 refine wpAny_pyIter_range (IsRange.new ..) (pi h1 h2 h3 h4) ?_;have I1:Inv X pins σ H { s with heap:=s.heap.push { cls:=.type "range",data:=.fields #[.int lo t,.int hi u,.int (-1) v] },toks:=tk }:=I.kept λb o e=>Heap.get?_push_of_some _ e
 refine⟨(s.heap.push { cls:=.type "range",data:=.fields #[.int lo t,.int hi u,.int (-1) v] }).objs.size,[(s.heap.push { cls:=.type "range",data:=.fields #[.int lo t,.int hi u,.int (-1) v] }).objs.size],_,_,H,rfl,
  I1.kept (t':=tk) λb o e=>Heap.get?_push_of_some _ e,oI _ lo (lo-hi).toNat,?_,λb hb=>?_,q⟩
 ·have e1:lo+((0:Nat):Int) * -1=lo:=by simp
  have e2:(((lo-hi).toNat:Nat):Int)-((0:Nat):Int)=Builtin.Range.rangeSize lo hi (-1):=by rw[k7];split<;>omega
  show IsRangeIter _ _ (lo+((0:Nat):Int) * -1) ((((lo-hi).toNat:Nat):Int)-((0:Nat):Int)) (-1);rw[e1,e2];exact Heap.get?_push_size _ rfl
 ·have e:b=(s.heap.push { cls:=.type "range",data:=.fields #[.int lo t,.int hi u,.int (-1) v] }).objs.size:=by simpa using hb
  subst e;exact I1.fpOk (wG _) (I1.hok.fresh (wG _))
def tG(ta:TA):TI:=λσ H R=>ta σ H λvs H1=>∃i j:Int,vs=[.int i,.int j,.int (-1)]/\(-(2^61)<=i/\i<2^61 /\ -(2^61)<=j/\j<2^61)/\R (dt i (i-j).toNat) H1
theorem qQ{a b c:Expr}{ta:TA}{p pos:Pos}(hg:Gl X "range")(hm:X.mg "range"=none)(ha:PA X [a,b,c] ta)(hs:starEach [a,b,c] X.env=[(false,eval a X.env),(false,eval b X.env),(false,eval c X.env)]:=by rfl)(hs2:starEach [b,c] X.env=[(false,eval b X.env),(false,eval c X.env)]:=by rfl) :
 PI X tg (.Call (.Name "range" p) [a,b,c] [] pos) (tG ta):=by
 intro pins s σ H R I h;refine Call_ (cb I hg hm boot_range (PyProof.Rows.callWith_type1 (thn (ha pos pins s σ H _ I h) λus s1 ⟨vs,H1,I1,r1,q1⟩=>?_) (by rw[hs,hs2]) (by rw[hs2];rfl)));obtain⟨i,j,e,⟨q1,q2,q3,q4⟩,q⟩:=q1;subst e;cases r1 with
 |cons r rr =>
  cases rr with
  |cons r' rr =>
   cases rr with
   |cons r'' rr =>cases rr;obtain⟨t,rfl⟩:=r;obtain⟨t',rfl⟩:=r';obtain⟨t'',rfl⟩:=r'';exact call_range_3 (by decide) (ql I1 q1 q2 q3 q4 q) (Or.inl (PyProof.noPylong_small (by decide)))
end
theorem ub{lo:Int}{n:Nat}{g:TG}{tb:TS}{D:Ends}{σ:St}{H:Hp}(Pv:Nat->St->Hp->Prop)(h0:Pv 0 σ H)
 (hs:∀i σ H,i<n->Pv i σ H->g (.int (lo+i * -1)) σ H λσ2 H2=>tb { D with nx:=Pv (i+1),ct:=Pv (i+1),bk:=D.nx } σ2 H2) (hd:∀σ H,Pv n σ H->D.nx σ H) :
 ∃W:Nat->Nat->St->Hp->Prop,(∃m,W 0 m σ H)/\∀i m σ H,W i m σ H ->
  ((dt lo n).stop i H/\D.nx σ H)\/((dt lo n).go i H/\∃N:St->Hp->Prop,(∀σ' H',N σ' H'->∃m',m'<m/\W (i+1) m' σ' H')/\∀x H',(dt lo n).yld i H x H'->g x σ H' λσ2 H2=>tb { D with nx:=N,ct:=N,bk:=D.nx } σ2 H2):=by
 refine⟨λi m σ H=>m=n-i/\i<=n/\Pv i σ H,⟨n,by simp,wL _,h0⟩,?_⟩;rintro i m σ H ⟨rfl,hi,p⟩;by_cases hlt:i<n
 ·refine .inr ⟨hlt,Pv (i+1),λσ' H' p'=>⟨n-(i+1),by omega,rfl,hlt,p'⟩,λx H' y=>?_⟩;obtain⟨e,y⟩:=y;subst e y;exact hs i σ _ hlt p
 ·have e:i=n:=by omega
  subst e;exact .inl ⟨wG _,hd σ H p⟩
section
variable {X:Cx}{K:PySem.W.Frag}
end
theorem sJ{P:Program}{w:World}{K:PySem.W.Frag}{mg mb:Str->Option Value}{CX:CXT}{k:Nat}{fa a:Addr}{fd:FuncData}{x:Str}{sp:Sp}{s₁:Shared}{vs:List Value}{ns:List Int}
 (KX:K.In s₁.heap) (hns:s₁.heap.Ns mainGlobals mg) (hb:s₁.heap.Ns builtinsNs mb) (hbb:∀x:Str,x≠"__name__"->mb x=bootBuiltins x) (hlim:s₁.heap.NoLimit) (hse:s₁.heap.NoSeer) (hg:s₁.gens=#[])
 (ha:s₁.heap.get? a=some { cls:=.type "list",data:=.seq vs.toArray }) (hi:IntsAre vs ns) (hl:ns.length<=sizeLine) (hr:Room k callerA)
 (F:∀base:Heap,K.In base->base.Ns mainGlobals mg->base.NoSeer->FnOk P w K mg base CX k fa fd [x] sp) (hbind:∀(s:Shared) (u:Value),BindsTo s fd ⟨[u],[]⟩ [(x,u)])
 (hsp:∀H:Hp,jN H->SqL K H a (ns.map V.int)->sp [.ref a] H (λv _=>v=.bl true) λ_ _ _=>False)
 (hCX:∀H e s',CX [] H s₁ (λ_ _ _=>False) e s'->False) :
 codeAny (model P w) callerA (.call (.ref fa) ⟨[.ref a],[]⟩) (λr s'=>r=.ok (.ret (.bool true))/\OldK s₁.heap s'.heap/\s'.os=s₁.os/\AllBare s'.gens) s₁:=by
 have rv:=j2 hi;have lenV:=hi.length
 have core:∀H:Hp,jN H->SqL K H a (ns.map V.int)->HOk P w H s₁.heap->(∀b,H b≠none->b=a)->(H a≠none->K.lookup a=none) ->
  codeAny (model P w) callerA (.call (.ref fa) ⟨[.ref a],[]⟩) (λr s'=>r=.ok (.ret (.bool true))/\OldK s₁.heap s'.heap/\s'.os=s₁.os/\AllBare s'.gens) s₁:=by
  intro H hO hS hok hA hK;have base_of:∀{b:Addr} {o:Obj},s₁.heap.get? b=some o->H b=none->(ci s₁.heap H).get? b=some o:=λe n=>tN e n
  have noA:∀{b:Addr} {o:Obj} {es:Array DictEntry} {ep:Nat},s₁.heap.get? b=some o->o.data=.dict es ep->H b=none:=λ{b o es ep} e d=>by
   cases q:H b with
   |none=>rfl
   |some u =>have e':b=a:=hA b (by rw[q];simp);subst e';rw[ha]at e;cases e;have d':Data.seq vs.toArray _=Data.dict es ep:=d;cases d'
  have nsK:∀{b:Addr} {m:Str->Option Value},s₁.heap.Ns b m->(ci s₁.heap H).Ns b m:=λ{b m} ⟨o,es,ep,e,d,r⟩=>⟨o,es,ep,base_of e (noA e d),d,r⟩
  have hKb:K.In (ci s₁.heap H):=λb o e=>base_of (KX b o e) (by
   cases q:H b with
   |none=>rfl
   |some u =>
    have e':b=a:=hA b (by rw[q];simp);subst e'
    rw[hK (by rw[q];simp)]at e;cases e)
  have hM:Mod K mg (ci s₁.heap H):=⟨hKb,nsK hns,⟨mb,nsK hb,hbb⟩,let⟨mc,h1,h2⟩:=hlim;⟨mc,nsK h1,h2⟩⟩
  have hSb:(ci s₁.heap H).NoSeer:=by
   obtain⟨⟨mc,c1,c2,c3⟩,⟨mm,m1,m2⟩,⟨mb',b1,b2⟩,⟨mg',bm,ob,g1,g2,g3,g4,g5⟩⟩:=hse;refine⟨⟨mc,nsK c1,c2,c3⟩,⟨mm,nsK m1,m2⟩,⟨mb',nsK b1,b2⟩,⟨mg',bm,ob,nsK g1,g2,base_of g3 ?_,g4,g5⟩⟩;cases q:H bm with
   |none=>rfl
   |some u =>have e':bm=a:=hA bm (by rw[q];simp);rw[e',ha]at g3;cases g3;exact absurd (Value.type.inj g4) (by decide)
  have e0:Env0 P w K mg (ci s₁.heap H) callerA [] s₁ H:=⟨rfl,hM,λb o e=>rO e,xJ (tL _ _),trivial,λb hb=>absurd (show b∈([]:List Addr)from hb) (by simp),hok,.of_eq hg⟩;refine codeAny_mono ((F _ hKb (nsK hns) hSb).run callerA [] s₁ H ⟨[.ref a],[]⟩ [.ref a] [.ref a] _ _ hr e0 (hbind s₁ (.ref a)) (.cons rfl .nil) (hsp H hO hS)) λr s' h=>?_
  cases r with
  |error e=>exact(hCX H e s' h).elim
  |ok fl =>
   cases fl with
   |next=>exact False.elim h
   |brk=>exact False.elim h
   |cont=>exact False.elim h
   |ret u =>
    obtain⟨v,H',os,bare,un,hok',r',q⟩:=h;have q':v=.bl true:=q;subst q';obtain rfl:u=Value.bool true:=r';refine⟨rfl,OldK.of_keep λb o e=>?_,os,bare⟩;cases q:H b with
    |none=>exact un.keep b o e q (by intro z;exact absurd (show b∈([]:List Addr)from z) (by simp)) (by simp)
    |some u =>
     rcases hO b with z |⟨ob,xs,z⟩
     ·rw[q]at z;cases z
     ·have z2:=un.frzs b ob _ z;obtain⟨e1,_⟩:=hok b _ z;obtain⟨e2,_⟩:=hok' b _ z2;rw[e]at e1;cases e1;exact e2
 cases hk:K.lookup a with
 |some o =>have e:=KX a o hk;rw[ha]at e;cases e;refine core (λ_=>none) (λ_=>.inl rfl) (.inr ⟨_,vs.toArray,_,hk,rfl,rfl,rfl,by rw[wV,lenV];exact hl,by simpa using rv⟩) (λb u z=>by have z':(none:Option HO)=some u:=z;cases z') (λb z=>absurd rfl z) λz=>absurd rfl z
 |none =>
  refine core (λb=>if b=a then some (.frz { cls:=.type "list",data:=.seq vs.toArray } (.lst (ns.map V.int)))else none) (λb=>?_) (.inl (.inr ⟨{ cls:=.type "list",data:=.seq vs.toArray },if_pos rfl⟩)) (λb u z=>?_) (λb z=>?_) λ_=>hk
  ·by_cases hb:b=a
   ·exact .inr ⟨_,_,if_pos hb⟩
   ·exact .inl (if_neg hb)
  ·by_cases hb:b=a
   ·have z':=(if_pos hb).symm.trans z;cases z';subst hb;exact⟨ha,by rw[wE];exact hl,vs,_,rv,ha⟩
   ·have z':=(if_neg hb).symm.trans z;cases z'
  ·by_cases hb:b=a
   ·exact hb
   ·exact absurd (if_neg hb) z
theorem walk_ofS{l:PySem.W.OpenLaw}{n k:Nat}{q:Program}{loose:List Str}{XP:(Str->Option Value)->Heap->Prop}{YP:World->Heap->Prop}{d:DefRec}{K:Params->PySem.W.Frag}{CX:World->CXT}{sp:World->Sp}{x:Str}
 (hi:PyProof.Rows.importsNone q=true) (hn:l.most=some n) (hn2:n<=sizeLine) (hdf:d.params.defaults=[]) (hr:Room k callerA)
 (hY:∀(w:World) (h:Heap),YP w h->(K w.params).In h)
 (F:∀(w:World) (mg:Str->Option Value) (fa:Addr) (h:Heap),(K w.params).In h->h.Ns mainGlobals mg->mg d.name=some (.ref fa) ->
   ∃fd:FuncData,(∀(s:Shared) (u:Value),BindsTo s fd ⟨[u],[]⟩ [(x,u)]) /\
    ∀base:Heap,(K w.params).In base->base.Ns mainGlobals mg->base.NoSeer->FnOk l.prog w (K w.params) mg base (CX w) k fa fd [x] (sp w))
 (hsp:∀(w:World) (H:Hp) (a:Addr) (ns:List Int),ns.length<=n->jN H->SqL (K w.params) H a (ns.map V.int)->sp w [.ref a] H (λv _=>v=.bl true) λ_ _ _=>False)
 (hCX:∀(w:World) (H:Hp) (s:Shared) (e:Value) (s':Shared),CX w [] H s (λ_ _ _=>False) e s'->False) :
 PySem.W.WalkO q loose XP YP l.row.toRowW d [] (λf vs=>PySem.call f vs):=by
 refine Att.attach_call hn hdf λw s₀ s₁ mg mb fa o pm cd doc a vs ns G Y ho hd hcd hmg hobj hints hlen hg=>?_
 have KX:=hY w _ Y;obtain⟨fd,hb,hF⟩:=F w mg fa _ KX G.T.g hmg;exact sJ KX G.T.g G.T.b G.T.builtins G.T.nolimit (G.T.seer hi) hg hobj hints (xb hlen hn2) hr hF hb (λH hO hS=>hsp w H a ns hlen hO hS) λH e s'=>hCX w H s₁ e s'
section
variable {X:Cx}{e:Env}{l:List Env}
theorem pY{pins:List (Addr×Obj)}{σ:St}{H:Hp}{s:Shared}(hs:X.base.NoSeer)(ht:X.prog.given.tree=none)(hd:X.A.depth+100<recursionLimit)(hst:X.stack=e::l)(h1:e.scope.isGenerator=false)(h2:e.scope.isCoroutine=false)(h3:e.builtins=builtinsNs)(h4:e.globals=mainGlobals)(I:Inv X pins σ H s):PylongRoom (model X.prog X.w) X.A s :=
 PylongRoom.of (I.ok.mod.nolimit.keeps I.bk) hd (SeerAt.of (hs.keeps I.bk) ht (by rw[I.ok.frames,hst]) h1 h2 h3 h4)
theorem qZ(hs:X.base.NoSeer)(ht:X.prog.given.tree=none)(hd:X.A.depth+100<recursionLimit)(hst:X.stack=e::l)(h1:e.scope.isGenerator=false)(h2:e.scope.isCoroutine=false)(h3:e.builtins=builtinsNs)(h4:e.globals=mainGlobals):OpR X (binaryOp .FloorDiv) (rI (λ_ j=>j≠0) λi j=>.int (i.fdiv j)):=by intro pins s σ H x y v u Q I rx ry h;obtain⟨i,j,rfl,rfl,hj,q⟩:=h;obtain⟨t,rfl⟩:=rx;obtain⟨t',rfl⟩:=ry;refine floordiv_int hj ?_ (.inr (pY hs ht hd hst h1 h2 h3 h4 I));exact⟨.int (i.fdiv j),H,I.tok _,⟨_,rfl⟩,q⟩
end
section
variable {X:Cx}{K:PySem.W.Frag}
end
section
variable {X:Cx}
end
theorem mE:∀{ns:List Int} {us:List Value},Vals (ns.map V.int) us->∃l:List (Int×Tok),us=l.map (λp=>Value.int p.1 p.2)/\l.map (·.1)=ns
 | [],_,h=>by cases h;exact⟨[],rfl,rfl⟩
 |n::ns,_,h=>by
  cases h with
  |cons r rr =>obtain⟨t,rfl⟩:=r;obtain⟨l,rfl,e⟩:=mE rr;exact⟨(n,t)::l,rfl,by rw[w6,e]⟩
theorem lh:∀(l:List (Int×Tok)) (n:Nat),n<=l.length->preSum (numAt l.toArray) n=((l.take n).map (·.1)).sum
 |l,0,_=>rfl
 |l,n+1,h=>by rw[preSum,lh l n (by omega),xo,List.getElem?_eq_getElem (by omega)];unfold numAt;rw[List.getElem?_toArray,List.getElem?_eq_getElem (by omega),Option.toList_some,wH,List.sum_append];show _=_+(l[n].1+0);rw[xk];rfl
theorem uD{X:Cx}{K:PySem.W.Frag}(hK:X.K=K)(hc:X.calm=true):bW X (.builtin "sum") (λxs H Q=>∃(p:Addr) (ns:List Int),xs=[.ref p]/\SqL K H p (ns.map V.int)/\Q (.int ns.sum) H):=by
 subst hK;intro pins s σ H xs us Q I r h;obtain⟨p,ns,rfl,hq,q⟩:=h;obtain⟨u,rfl,rx⟩:=fi r;cases rx;obtain⟨its,r',pl,hz⟩:=I.list hq;obtain⟨l,rfl,e⟩:=mE r'
 have hl:s.heap.IsList p (intItems l.toArray):=by
  have h1:=pl.isList;have e2:(l.map (λp=>Value.int p.1 p.2)).toArray=intItems l.toArray:=by unfold intItems;simp
  rw[<- e2];exact h1
 refine sum_intListG (I.ok.hd hc) hl λh' tk t' hk=>⟨.int ns.sum,H,I.kept hk,⟨t',?_⟩,q⟩
 have e3:preSum (numAt l.toArray) l.toArray.size=ns.sum:=by rw[wV,lh l l.length (wG _),xw,e]
 rw[e3]
end L2
namespace RM
noncomputable def cf(l:List Int)(k:Nat):Int:=l.getD k 0
theorem aQ(k:Nat):cf [] k=0:=by simp[cf]
theorem jB(x:Int)(l:List Int):cf (x::l) 0=x:=rfl
theorem b6(x:Int)(l:List Int)(k:Nat):cf (x::l) (k+1)=cf l k:=rfl
theorem ay{l:List Int}{k:Nat}(h:l.length<=k):cf l k=0:=by unfold cf;rw[List.getD,List.getElem?_eq_none_iff.mpr h];rfl
theorem aC{l:List Int}{k:Nat}(h:k<l.length):cf l k=l[k]:=by unfold cf;rw[List.getD,List.getElem?_eq_getElem h];rfl
theorem uz{l:List Int}{k:Nat}{x:Int}(h:l[k]?=some x):cf l k=x:=by unfold cf;rw[List.getD,h];rfl
theorem cV{l:List Int}{k:Nat}(h:k<l.length):l[k]?=some (cf l k):=by rw[aC h,List.getElem?_eq_getElem h]
theorem cO{l r:List Int}{k:Nat}(h:k<l.length):cf (l++r) k=cf l k:=by unfold cf;rw[List.getD,List.getD,List.getElem?_append_left h]
theorem cZ{l r:List Int}{k:Nat}(h:l.length<=k):cf (l++r) k=cf r (k-l.length):=by unfold cf;rw[List.getD,List.getD,List.getElem?_append_right h]
theorem nK{l:List Int}{j k:Nat}{x:Int}(h:j<l.length):cf (l.set j x) k=if k=j then x else cf l k:=by
 unfold cf;rw[List.getD,List.getD,List.getElem?_set];by_cases e:j=k
 ·subst e;simp[h]
 ·rw[if_neg e,if_neg (λz=>e z.symm)]
theorem eH(n k:Nat):cf (List.replicate n 0) k=0:=by unfold cf;rw[List.getD,List.getElem?_replicate];split<;>rfl
theorem cI(f:Nat->Int)(n k:Nat):cf ((List.range n).map f) k=if k<n then f k else 0:=by
 unfold cf;rw[List.getD,List.getElem?_map];by_cases h:k<n
 ·rw[if_pos h,List.getElem?_range h];rfl
 ·rw[if_neg h,List.getElem?_eq_none_iff.mpr (by simpa using h)];rfl
theorem jr{a b:List Int}(hl:a.length=b.length)(h:∀k,k<a.length->cf a k=cf b k):a=b:=by apply List.ext_getElem hl;intro k h1 h2;rw[<- aC h1,<- aC h2];exact h k h1
noncomputable def trim(l:List Int):List Int:=(l.reverse.dropWhile (· == 0)).reverse
theorem fk(l:List Int):trim (l++[0])=trim l:=by unfold trim;rw[List.reverse_append];rfl
theorem dw(l:List Int){x:Int}(h:x≠0):trim (l++[x])=l++[x]:=by unfold trim;rw[List.reverse_append];show((x::l.reverse).dropWhile (· == 0)).reverse=_;rw[List.dropWhile_cons_of_neg (by simpa using h)];simp
def Tr(l:List Int):Prop:=∀n,l.length=n+1->cf l n≠0
theorem cu(l:List Int):l=[]\/∃r x,l=r++[x]:=by
 cases h:l.reverse with
 |nil=>left;simpa using h
 |cons x r=>right;exact⟨r.reverse,x,by rw[<- xR l,h];simp⟩
theorem gj(r:List Int)(x:Int):cf (r++[x]) r.length=x:=by rw[cZ (wG _),xx];rfl
theorem oT:Tr []:=λn h=>by simp at h
theorem tr_snoc{r:List Int}{x:Int}:Tr (r++[x])↔x≠0:=by
 constructor
 ·intro h;have:=h r.length (by simp)
  rwa [gj]at this
 ·intro h n hn;have e:n=r.length:=by simp at hn;omega
  subst e
  rwa [gj]
theorem fj:∀(n:Nat) (l:List Int),l.length=n->Tr (trim l)/\(trim l).length<=l.length/\∀k,cf (trim l) k=cf l k
 |0,l,h=>by have:l=[]:=xl.mp h;subst this;exact⟨oT,wG _,λ_=>rfl⟩
 |n+1,l,h=>by
  rcases cu l with rfl |⟨r,x,rfl⟩
  ·simp at h
  ·by_cases hx:x=0
   ·subst hx;obtain⟨h1,h2,h3⟩:=fj n r (by simpa using h);rw[fk];refine⟨h1,by rw[wF];exact xb h2 (Nat.le_add_right _ _),λk=>?_⟩;rw[h3];by_cases hk:k<r.length
    ·rw[cO hk]
    ·rw[cZ (xr hk),ay (xr hk)];cases e:k-r.length with
     |zero=>rfl
     |succ j=>rw[b6,aQ]
   ·rw[dw r hx];exact⟨tr_snoc.mpr hx,wG _,λ_=>rfl⟩
theorem bX(l:List Int):Tr (trim l):=(fj _ l rfl).1
theorem di(l:List Int):(trim l).length<=l.length:=(fj _ l rfl).2.1
theorem bC(l:List Int)(k:Nat):cf (trim l) k=cf l k:=(fj _ l rfl).2.2 k
theorem gr{l:List Int}(h:Tr l):trim l=l:=by
 rcases cu l with rfl |⟨r,x,rfl⟩
 ·rfl
 ·exact dw r (tr_snoc.mp h)
theorem eD{a b:List Int}(ha:Tr a)(hb:Tr b)(h:∀k,cf a k=cf b k):a=b:=by
 have le:∀{a b:List Int},Tr a->(∀k,cf a k=cf b k)->a.length<=b.length:=λ{a b} ha h=>by
  cases e:a.length with
  |zero=>exact wL _
  |succ n =>apply Classical.byContradiction;intro hn;exact ha n e (by rw[h n,ay (by omega)])
 have hl:a.length=b.length:=Nat.le_antisymm (le ha h) (le hb λk=>(h k).symm);exact jr hl λk _=>h k
theorem oN{l:List Int}{n:Nat}(hn:n<l.length)(h:cf l n=0):trim (l.take (n+1))=trim (l.take n):=by rw[xo,cV hn,h];exact fk _
theorem oO{l:List Int}{n:Nat}(hn:n<l.length)(h:cf l n≠0):trim (l.take (n+1))=l.take (n+1):=by rw[xo,cV hn];exact dw _ h
noncomputable def bK(f:Int)(a b:List Int):List Int:=(List.range (max a.length b.length)).map λk=>cf a k+f*cf b k
theorem cY(f:Int)(a b:List Int)(k:Nat):cf (bK f a b) k=cf a k+f*cf b k:=by
 unfold bK;rw[cI];by_cases h:k<max a.length b.length
 ·rw[if_pos h]
 ·have h1:a.length<=k:=by omega
  have h2:b.length<=k:=by omega
  rw[if_neg h,ay h1,ay h2];simp
noncomputable def aS(a b:List Int):List Int:=trim (bK 1 a b)
noncomputable def tm(a b:List Int)(n i:Nat):Int:=if i<=n then cf a i*cf b (n-i)else 0
noncomputable def sm(a b:List Int)(n:Nat):Nat->Int
 |0=>0
 |j+1=>sm a b n j+tm a b n j
noncomputable def aj(a b:List Int)(n:Nat):Int:=sm a b n a.length
noncomputable def ae(a b:List Int):List Int:=if a=[]\/b=[]then[]else(List.range (a.length+b.length-1)).map (aj a b)
theorem oU{a b:List Int}{n i:Nat}(h:a.length<=i):tm a b n i=0:=by
 unfold tm;split
 ·rw[ay h,Int.zero_mul]
 ·rfl
theorem fo{a b:List Int}{n i:Nat}(h:b.length<=n-i):tm a b n i=0:=by
 unfold tm;split
 ·rw[ay h,w9]
 ·rfl
theorem dB{a b:List Int}{n:Nat}:∀{j:Nat},(∀i,i<j->tm a b n i=0)->sm a b n j=0
 |0,_=>rfl
 |j+1,h=>by rw[sm,dB λi hi=>h i (Nat.lt_succ_of_lt hi),h j (xH _)];rfl
theorem lU{a b:List Int}{n:Nat}(h:a.length+b.length<=n+1):aj a b n=0:=by apply dB;intro i hi;exact fo (by omega)
theorem iU{a b:List Int}{la lb:Nat}(ha:a.length=la+1)(hb:b.length=lb+1):aj a b (la+lb)=cf a la*cf b lb:=by unfold aj;rw[ha,sm,dB λi hi=>fo (by omega)];unfold tm;rw[if_pos (Nat.le_add_right _ _),Nat.add_sub_cancel_left,xt]
theorem aW(a b:List Int)(n:Nat):cf (ae a b) n=aj a b n:=by
 unfold ae;by_cases h:a=[]\/b=[]
 ·rw[if_pos h,aQ]
  symm
  apply dB;intro i hi;rcases h with rfl |rfl
  ·simp at hi
  ·exact fo (wL _)
 ·rw[if_neg h,cI];by_cases hn:n<a.length+b.length-1
  ·rw[if_pos hn]
  ·rw[if_neg hn,lU (by omega)]
theorem cr{a b:List Int}(ha:Tr a)(hb:Tr b):Tr (ae a b):=by
 intro n hn;rw[aW];by_cases h:a=[]\/b=[]
 ·unfold ae at hn;rw[if_pos h]at hn;simp at hn
 ·have h1:a≠[]:=λz=>h (.inl z)
  have h2:b≠[]:=λz=>h (.inr z)
  obtain⟨la,ea⟩:∃la,a.length=la+1:=⟨a.length-1,by have:=wK.mpr h1;omega⟩;obtain⟨lb,eb⟩:∃lb,b.length=lb+1:=⟨b.length-1,by have:=wK.mpr h2;omega⟩;unfold ae at hn
  rw[if_neg h,wE,wN]at hn;have e:n=la+lb:=by omega
  subst e;rw[iU ea eb];exact xf (ha la ea) (hb lb eb)
theorem rW{a b acc:List Int}{j k:Nat}(hj:j<a.length)(hk:k<b.length)(hl:j+k<acc.length)
 (h:∀n,n<acc.length->cf acc n=sm a b n j+(if j<=n/\n-j<k then tm a b n j else 0)) :
 ∀n,n<(acc.set (j+k) (cf acc (j+k)+cf a j*cf b k)).length->cf (acc.set (j+k) (cf acc (j+k)+cf a j*cf b k)) n=sm a b n j+(if j<=n/\n-j<k+1 then tm a b n j else 0):=by
 intro n hn;rw[List.length_set]at hn;rw[nK hl];by_cases e:n=j+k
 ·subst e;rw[if_pos rfl,h _ hl,if_neg (by omega),if_pos ⟨by omega,by omega⟩];unfold tm;rw[if_pos (by omega),Nat.add_sub_cancel_left,xk]
 ·rw[if_neg e,h n hn]
  congr 1
  by_cases h1:j<=n/\n-j<k
  ·rw[if_pos h1,if_pos ⟨h1.1,by omega⟩]
  ·rw[if_neg h1,if_neg (by omega)]
theorem rY{a b acc:List Int}{j:Nat}(h:∀n,n<acc.length->cf acc n=sm a b n j+(if j<=n/\n-j<b.length then tm a b n j else 0)):∀n,n<acc.length->cf acc n=sm a b n (j+1):=by
 intro n hn;rw[h n hn,sm]
 congr 1
 by_cases h1:j<=n/\n-j<b.length
 ·rw[if_pos h1]
 ·rw[if_neg h1];by_cases h2:j<=n
  ·rw[fo (by omega)]
  ·unfold tm;rw[if_neg h2]
theorem rX{a b acc:List Int}{j:Nat}(h:∀n,n<acc.length->cf acc n=sm a b n j):∀n,n<acc.length->cf acc n=sm a b n j+(if j<=n/\n-j<0 then tm a b n j else 0):=by intro n hn;rw[if_neg (by omega),xk];exact h n hn
theorem rZ{a b acc:List Int}(hl:a.length+b.length<=acc.length+1)(h:∀n,n<acc.length->cf acc n=sm a b n a.length)(n:Nat):cf acc n=aj a b n:=by
 by_cases hn:n<acc.length
 ·exact h n hn
 ·rw[ay (xr hn),lU (by omega)]
theorem u7(a b:List Int):trim ((List.range (max a.length b.length)).map λk=>cf a k+cf b k)=aS a b:=by
 unfold aS bK
 congr 2;funext k;rw[xg]
noncomputable def dv(t b:Int):Int:=if b<0 then -((Nat.gcd t.natAbs b.natAbs:Nat):Int)else((Nat.gcd t.natAbs b.natAbs:Nat):Int)
noncomputable def rt(t b:Int):Int:=t.fdiv (dv t b)
noncomputable def sg(x:Int):Int:=if x<0 then -1 else if 0<x then 1 else 0
theorem kQ{x p:Int}(hp:0<p):sg (x*p)=sg x:=by
 unfold sg;by_cases h1:x<0
 ·rw[if_pos h1,if_pos (Int.mul_neg_of_neg_of_pos h1 hp)]
 ·by_cases h2:0<x
  ·have:=Int.mul_pos h2 hp;rw[if_neg h1,if_pos h2,if_neg (by omega),if_pos this]
  ·obtain rfl:x=0:=by omega
   simp
noncomputable def hv(t b:Int):List Int->Int
 | []=>0
 |v::l=>v*b^(l.length+1)+t*hv t b l
noncomputable def mb(a b:Int):Int->List Int->List Int
 |c,[]=>[c]
 |c,x::l=>(-a*x+c)::mb a b (b*x) l
theorem dh(a b:Int):∀(c:Int) (l:List Int),(mb a b c l).length=l.length+1
 |c,[]=>rfl
 |c,x::l=>by show(mb a b (b*x) l).length+1=_;rw[dh];rfl
theorem gi(a b:Int):∀(c:Int) (l:List Int) (k:Nat),cf (mb a b c l) k = -a*cf l k+(if k=0 then c else b*cf l (k-1))
 |c,[],0=>by show c=_;rw[aQ];simp
 |c,[],k+1=>by show cf [] k=_;rw[aQ,aQ];simp[aQ]
 |c,x::l,0=>rfl
 |c,x::l,k+1=>by
  show cf (mb a b (b*x) l) k=_;rw[gi a b (b*x) l k,b6,if_neg (Nat.succ_ne_zero k)];cases k with
  |zero=>rfl
  |succ k=>rw[if_neg (Nat.succ_ne_zero k)];rfl
theorem uy(x y:Int)(k:Nat):cf [x,y] k=if k=0 then x else if k=1 then y else 0:=by
 rcases k with _ |_ |k
 ·rfl
 ·rfl
 ·rw[if_neg (by omega),if_neg (by omega)];exact ay (by simp)
theorem kG(l:List Int)(x y:Int)(n:Nat):∀j,sm l [x,y] n j=(if n<j then cf l n*x else 0)+(if 1<=n/\n-1<j then cf l (n-1)*y else 0)
 |0=>by rw[if_neg (by omega),if_neg (by omega)];rfl
 |j+1=>by
  show sm l [x,y] n j+tm l [x,y] n j=_;rw[kG l x y n j];unfold tm;rw[uy];by_cases h1:n<j
  ·rw[if_pos h1,if_neg (show ¬j<=n by omega),if_pos (show n<j+1 by omega),xk];by_cases h2:1<=n
   ·rw[if_pos ⟨h2,by omega⟩,if_pos ⟨h2,by omega⟩]
   ·rw[if_neg (λz=>h2 z.1),if_neg (λz=>h2 z.1)]
  ·rw[if_neg h1,if_pos (show j<=n by omega),xt];by_cases h2:n=j
   ·subst h2;rw[xx,if_pos rfl,if_pos (xH _),Int.add_comm];by_cases h3:1<=n
    ·rw[if_pos ⟨h3,by omega⟩,if_pos ⟨h3,by omega⟩]
    ·rw[if_neg (λz=>h3 z.1),if_neg (λz=>h3 z.1)]
   ·rw[if_neg (show ¬n-j=0 by omega),if_neg (show ¬n<j+1 by omega),xt,if_neg (show ¬(1<=n/\n-1<j) by omega),xt];by_cases h3:n-j=1
    ·rw[if_pos h3,if_pos (show 1<=n/\n-1<j+1 by omega),show n-1=j by omega]
    ·rw[if_neg h3,if_neg (show ¬(1<=n/\n-1<j+1) by omega),w9]
theorem dR{a b:Int}{l:List Int}(h:l≠[]):ae l [-a,b]=mb a b 0 l:=by
 apply jr
 ·rw[dh];unfold ae;rw[if_neg (by simp[h]),wE,wN];simp
 ·intro k _;rw[aW,gi];unfold aj;rw[kG]
  have e1:(if k<l.length then cf l k * -a else 0) = -a*cf l k:=by
   by_cases hk:k<l.length
   ·rw[if_pos hk,xB]
   ·rw[if_neg hk,ay (xr hk),w9]
  have e2:(if 1<=k/\k-1<l.length then cf l (k-1)*b else 0)=if k=0 then 0 else b*cf l (k-1):=by
   by_cases h0:k=0
   ·rw[if_neg (by omega),if_pos h0]
   ·rw[if_neg h0];by_cases hk:k-1<l.length
    ·rw[if_pos (by omega),xB]
    ·rw[if_neg (by omega),ay (xr hk),w9]
  rw[e1,e2]
theorem iX{a b:Int}(l:List Int):(ae l [-a,b]).length=if l=[]then 0 else l.length+1:=by
 by_cases h:l=[]
 ·subst h;have e:ae [] [-a,b]=[]:=by unfold ae;rw[if_pos (.inl rfl)]
  rw[e,if_pos rfl];rfl
 ·rw[dR h,dh,if_neg h]
theorem qH{g:Int}(h:g≠0)(n:Nat):g^n≠0:=by
 induction n with
 |zero=>simp
 |succ n ih=>rw[wM];exact xf ih h
theorem qG{g:Int}(h:0<g)(n:Nat):0<g^n:=by
 induction n with
 |zero=>simp
 |succ n ih=>rw[wM];exact Int.mul_pos ih h
def At(l:List Int)(t b top bot:Int):Prop:=hv t b l*bot=top*b^l.length
theorem At.sign{l:List Int}{t b top bot:Int}(hb:0<b)(hbot:0<bot)(h:At l t b top bot):sg (hv t b l)=sg top:=by
 unfold At at h
 rw[<- kQ (x:=hv t b l) hbot,h,kQ (qG hb _)]
noncomputable def lv(t b:Int):List Int->Int
 | []=>0
 |v::l=>v*b^l.length+t*lv t b l
noncomputable def clr(head:List Int)(bf:Int)(row:List Int):List Int:=(List.range (row.length-1)).map λk=>(cf head 0*cf row (k+1)-cf row 0*cf head (k+1)).fdiv bf
theorem mj(h:List Int)(b:Int)(r:List Int):(clr h b r).length=r.length-1:=by unfold clr;simp
noncomputable def fnn:List (List Int)->Nat
 | []=>0
 |r::rs=>if cf r 0=0 then fnn rs+1 else 0
theorem gg:∀l:List (List Int),fnn l<=l.length
 | []=>wG _
 |r::rs=>by
  unfold fnn;split
  ·have:=gg rs;simp;omega
  ·exact wL _
theorem gf:∀{l:List (List Int)},fnn l<l.length->cf (l.getD (fnn l) []) 0≠0
 | [],h=>absurd h (by simp)
 |r::rs,h=>by
  unfold fnn at *
  by_cases e:cf r 0=0
  ·rw[if_pos e]at *;exact gf (l:=rs) (by simpa using h)
  ·rw[if_neg e];exact e
theorem jo:∀{l:List (List Int)} {j:Nat},j<fnn l->cf (l.getD j []) 0=0
 | [],j,h=>absurd h (by simp[fnn])
 |r::rs,j,h=>by
  unfold fnn at h
  by_cases e:cf r 0=0
  ·rw[if_pos e]at h;cases j with
   |zero=>exact e
   |succ j=>exact jo (l:=rs) (by omega)
  ·rw[if_neg e]at h;omega
theorem mX{l:List (List Int)}{k:Nat}(hk:k<=l.length)(h0:∀j,j<k->cf (l.getD j []) 0=0)(h1:k=l.length\/cf (l.getD k []) 0≠0):fnn l=k:=by
 have a:=gg l;rcases Nat.lt_trichotomy (fnn l) k with h |h |h
 ·exact absurd (h0 _ h) (gf (by omega))
 ·exact h
 ·rcases h1 with h1 |h1
  ·omega
  ·exact absurd (jo h) h1
noncomputable def bV:Nat->List (List Int)->Int->Int->Int
 |0,_,bf,sg=>sg*bf
 |n+1,left,bf,sg=>if fnn left=left.length then 0 else bV n ((left.take (fnn left)++left.drop (fnn left+1)).map (clr (left.getD (fnn left) []) bf)) (cf (left.getD (fnn left) []) 0) (if fnn left%2=1 then -sg else sg)
abbrev Rw:=Nat->Int
noncomputable def tl(r:Rw):Rw:=λj=>r (j+1)
noncomputable def cmb(a:Int)(r:Rw)(b:Int)(s:Rw):Rw:=λj=>a*r j+b*s j
noncomputable def lap(f:List Rw->Int):List Rw->List Rw->Int
 |_,[]=>0
 |pre,r::rs=>r 0*f (pre++rs)-lap f (pre++[r]) rs
noncomputable def D:Nat->List Rw->Int
 |0,_=>1
 |n+1,rows=>lap (λm=>D n (m.map tl)) [] rows
theorem vt(n:Nat)(rows:List Rw):D (n+1) rows=lap (λm=>D n (m.map tl)) [] rows:=rfl
theorem oY(a:Int)(r:Rw)(b:Int)(s:Rw):tl (cmb a r b s)=cmb a (tl r) b (tl s):=rfl
theorem cQ:∀(n:Nat) (pre post:List Rw) (r s:Rw) (a b:Int),pre.length+1+post.length=n->D n (pre++cmb a r b s::post)=a*D n (pre++r::post)+b*D n (pre++s::post)
 |0,pre,post,r,s,a,b,h=>by omega
 |n+1,pre,post,r,s,a,b,h=>by
  have fl:∀p q:List Rw,p.length+1+q.length=n->D n ((p++cmb a r b s::q).map tl)=a*D n ((p++r::q).map tl)+b*D n ((p++s::q).map tl):=λp q hl=>by rw[wH,w6,wH,w6,wH,w6,oY];exact cQ n (p.map tl) (q.map tl) (tl r) (tl s) a b (by simpa using hl)
  have A:∀(rows p q:List Rw),p.length+1+q.length+rows.length=n+1->lap (λm=>D n (m.map tl)) (p++cmb a r b s::q) rows=a*lap (λm=>D n (m.map tl)) (p++r::q) rows+b*lap (λm=>D n (m.map tl)) (p++s::q) rows:=by
   intro rows
   induction rows with
   |nil=>intro p q _;simp[lap]
   |cons x xs ih =>intro p q hl;rw[wI]at hl;have h1:=fl p (q++xs) (by rw[wF];omega);have h2:=ih p (q++[x]) (by rw[wF];show p.length+1+(q.length+1)+xs.length=n+1;omega);show x 0*D n ((p++cmb a r b s::q++xs).map tl)-lap _ (p++cmb a r b s::q++[x]) xs=a*(x 0*D n ((p++r::q++xs).map tl)-lap _ (p++r::q++[x]) xs)+b*(x 0*D n ((p++s::q++xs).map tl)-lap _ (p++s::q++[x]) xs);simp only[w4,xc]at h1 h2 ⊢;rw[h1,h2];grind
  have B:∀(p p0:List Rw),p0.length+p.length+1+post.length=n+1->lap (λm=>D n (m.map tl)) p0 (p++cmb a r b s::post)=a*lap (λm=>D n (m.map tl)) p0 (p++r::post)+b*lap (λm=>D n (m.map tl)) p0 (p++s::post):=by
   intro p
   induction p with
   |nil =>intro p0 hl;have h2:=A post p0 [] (by simpa using hl);show cmb a r b s 0*D n ((p0++post).map tl)-lap _ (p0++[cmb a r b s]) post=a*(r 0*D n ((p0++post).map tl)-lap _ (p0++[r]) post)+b*(s 0*D n ((p0++post).map tl)-lap _ (p0++[s]) post);rw[h2];show(a*r 0+b*s 0)*_-_=_;grind
   |cons x xs ih =>intro p0 hl;rw[wI]at hl;have h1:=fl (p0++xs) post (by rw[wF];omega);have h2:=ih (p0++[x]) (by rw[wF];show p0.length+1+xs.length+1+post.length=n+1;omega);show x 0*D n ((p0++(xs++cmb a r b s::post)).map tl)-lap _ (p0++[x]) (xs++cmb a r b s::post)=a*(x 0*D n ((p0++(xs++r::post)).map tl)-lap _ (p0++[x]) (xs++r::post))+b*(x 0*D n ((p0++(xs++s::post)).map tl)-lap _ (p0++[x]) (xs++s::post));simp only[w4]at h1;rw[h1,h2];grind
  exact B pre [] (by simpa using h)
theorem du:∀(n:Nat) (pre post:List Rw) (r:Rw),pre.length+2+post.length=n->D n (pre++r::r::post)=0
 |0,pre,post,r,h=>by omega
 |n+1,pre,post,r,h=>by
  have fl:∀p q:List Rw,p.length+2+q.length=n->D n ((p++r::r::q).map tl)=0:=λp q hl=>by rw[wH,w6,w6];exact du n (p.map tl) (q.map tl) (tl r) (by simpa using hl)
  have A:∀(rows p q:List Rw),p.length+2+q.length+rows.length=n+1->lap (λm=>D n (m.map tl)) (p++r::r::q) rows=0:=by
   intro rows
   induction rows with
   |nil=>intro p q _;rfl
   |cons x xs ih =>intro p q hl;rw[wI]at hl;have h1:=fl p (q++xs) (by rw[wF];omega);have h2:=ih p (q++[x]) (by rw[wF];show p.length+2+(q.length+1)+xs.length=n+1;omega);show x 0*D n ((p++r::r::q++xs).map tl)-lap _ (p++r::r::q++[x]) xs=0;simp only[w4,xc]at h1 h2 ⊢;rw[h1,h2,w9];rfl
  have B:∀(p p0:List Rw),p0.length+p.length+2+post.length=n+1->lap (λm=>D n (m.map tl)) p0 (p++r::r::post)=0:=by
   intro p
   induction p with
   |nil =>intro p0 hl;have h2:=A post p0 [] (by simpa using hl);show r 0*D n ((p0++r::post).map tl)-(r 0*D n ((p0++[r]++post).map tl)-lap _ (p0++[r]++[r]) post)=0;simp only[w4,xc,wS]at h2 ⊢;rw[h2];omega
   |cons x xs ih =>intro p0 hl;rw[wI]at hl;have h1:=fl (p0++xs) post (by rw[wF];omega);have h2:=ih (p0++[x]) (by rw[wF];show p0.length+1+xs.length+2+post.length=n+1;omega);show x 0*D n ((p0++(xs++r::r::post)).map tl)-lap _ (p0++[x]) (xs++r::r::post)=0;simp only[w4]at h1;rw[h1,h2,w9];rfl
  exact B pre [] (by simpa using h)
theorem vq{n:Nat}{pre post:List Rw}{r s:Rw}(h:pre.length+2+post.length=n):D n (pre++r::s::post) =-D n (pre++s::r::post):=by have e0:=du n pre post (cmb 1 r 1 s) h;rw[cQ n pre (cmb 1 r 1 s::post) r s 1 1 (by rw[wI];omega)]at e0;have e1:=cQ n (pre++[r]) post r s 1 1 (by rw[wF];show pre.length+1+1+post.length=n;omega);have e2:=cQ n (pre++[s]) post r s 1 1 (by rw[wF];show pre.length+1+1+post.length=n;omega);simp only[w4,xc,wS]at e1 e2;have e3:=du n pre post r h;have e4:=du n pre post s h;rw[e1,e2,e3,e4]at e0;omega
theorem gm{n:Nat}{h:Rw}{post:List Rw}:∀(pre q:List Rw),q.length+pre.length+1+post.length=n->D n (q++pre++h::post)=(-1)^pre.length*D n (q++h::pre++post)
 | [],q,_=>by simp
 |x::pre,q,hl=>by rw[wI]at hl;have ih:=gm (n:=n) (h:=h) (post:=post) pre (q++[x]) (by rw[wF];show q.length+1+pre.length+1+post.length=n;omega);have e:=vq (n:=n) (pre:=q) (post:=pre++post) (r:=x) (s:=h) (by rw[wF];omega);simp only[w4,xc,wS]at ih e ⊢;rw[ih,e,wI,wM];grind
theorem vv{n:Nat}{h:Rw}{q pre post:List Rw}(hl:q.length+pre.length+2+post.length=n):D n (q++h::pre++h::post)=0:=by have e:=gm (n:=n) (h:=h) (post:=post) pre (q++[h]) (by rw[wF];show q.length+1+pre.length+1+post.length=n;omega);have e2:=du n q (pre++post) h (by rw[wF];omega);simp only[w4,xc,wS]at e e2 ⊢;rw[e,e2,w9]
theorem jc{f:List Rw->Int}:∀(X pre:List Rw),(∀x∈X,x 0=0)->lap f pre X=0
 | [],_,_=>rfl
 |x::X,pre,h=>by show x 0*_-lap f (pre++[x]) X=0;rw[h x (wT ..),jc X (pre++[x]) λy hy=>h y (wP _ hy)];omega
theorem jS{m:Nat}{h:Rw}{X:List Rw}(hX:∀x∈X,x 0=0):D (m+1) (h::X)=h 0*D m (X.map tl):=by show h 0*D m (([]++X).map tl)-lap _ ([]++[h]) X=_;rw[jc X _ hX,wS];omega
theorem e7{m:Nat}{X:List Rw}(hX:∀x∈X,x 0=0):D (m+1) X=0:=jc X [] hX
theorem jV{n:Nat}{h:Rw}:∀(R q:List Rw),1+q.length+R.length=n->D n (h::(q++R.map λr=>cmb (h 0) r (-(r 0)) h))=h 0^R.length*D n (h::(q++R))
 | [],q,_=>by simp
 |r::R,q,hl=>by rw[wI]at hl;have e:=cQ n (h::q) (R.map λr=>cmb (h 0) r (-(r 0)) h) r h (h 0) (-(r 0)) (by rw[wE,wI];omega);have e2:=vv (n:=n) (h:=h) (q:=[]) (pre:=q) (post:=R.map λr=>cmb (h 0) r (-(r 0)) h) (by rw[wE,xp];omega);have ih:=jV (n:=n) (h:=h) R (q++[r]) (by rw[wF];show 1+(q.length+1)+R.length=n;omega);simp only[w4,xc,wS]at e e2 ih ⊢;rw[w6,e,e2,ih,wI,wM];grind
theorem jR{n:Nat}{p:Int}{φ:Rw->Rw}:∀(R q:List Rw),q.length+R.length=n->D n (q++R.map λr=>λj=>p*φ r j)=p^R.length*D n (q++R.map φ)
 | [],q,_=>by simp
 |r::R,q,hl=>by
  rw[wI]at hl;have e:=cQ n q (R.map λr=>λj=>p*φ r j) (φ r) (φ r) p 0 (by rw[wE];omega);have e0:cmb p (φ r) 0 (φ r)=λj=>p*φ r j:=by funext j;show p*φ r j+0*φ r j=_;omega
  rw[e0]at e;have ih:=jR (n:=n) (p:=p) (φ:=φ) R (q++[φ r]) (by rw[wF];show q.length+1+R.length=n;omega);simp only[w4,xc,wS]at ih;rw[w6,w6,e,ih,wI,wM];grind
theorem ot{h:Rw}{R:List Rw}{p:Int}{φ:Rw->Rw}(hφ:∀r∈R,∀j,p*φ r j=h 0*r (j+1)-r 0*h (j+1)):h 0^R.length*D (R.length+1) (h::R)=h 0*(p^R.length*D R.length (R.map φ)):=by
 have e:=jV (n:=R.length+1) (h:=h) R [] (by simp;omega);rw[wS,wS]at e
 rw[<- e,jS (λx hx=>by
  obtain⟨r,_,rfl⟩:=wJ.mp hx;show h 0*r 0 + -(r 0)*h 0=0
  grind)]
 have e2:=jR (n:=R.length) (p:=p) (φ:=φ) R [] (by simp);rw[wS,wS]at e2;rw[<- e2,wO]
 congr 2
 refine wR λr hr=>?_
 funext j
 show h 0*r (j+1) + -(r 0)*h (j+1)=p*φ r j;rw[hφ r hr j];grind
theorem mx{f:List Rw->Int}{B F:Nat}{S:Rw->Prop}(hS:∀r,S r->(r 0).natAbs<=B):∀(rows pre:List Rw),(∀r∈pre,S r)->(∀r∈rows,S r)->(∀l:List Rw,l.length+1=pre.length+rows.length->(∀r∈l,S r)->(f l).natAbs<=F)->(lap f pre rows).natAbs<=rows.length*(B*F)
 | [],_,_,_,_=>by simp[lap]
 |r::rs,pre,h1,h2,h3=>by
  have a1:=hS r (h2 r (wT ..));have a2:=h3 (pre++rs) (by rw[wF,wI];omega) (λx hx=>(wQ.mp hx).elim (h1 x) λz=>h2 x (wP _ z));have a3:=mx hS rs (pre++[r]) (λx hx=>(wQ.mp hx).elim (h1 x) λz=>by rw[w5.mp z];exact h2 r (wT ..)) (λx hx=>h2 x (wP _ hx)) (λl hl=>h3 l (by rw[wF]at hl;rw[wI];have:([r]:List Rw).length=1:=rfl;omega));show(r 0*f (pre++rs)-lap f (pre++[r]) rs).natAbs<=(rs.length+1)*(B*F);have a4:(r 0*f (pre++rs)).natAbs<=B*F:=by rw[Int.natAbs_mul];exact xL a1 a2
  have a5:(rs.length+1)*(B*F)=rs.length*(B*F)+B*F:=by rw[Nat.add_mul,Nat.one_mul]
  omega
theorem gn{b:Nat}:∀(n:Nat) (rows:List Rw),n<=16->rows.length=n->(∀r∈rows,∀j,(r j).natAbs<=2^b)->(D n rows).natAbs<=2^((b+4)*n)
 |0,_,_,_,_=>by show(1:Int).natAbs<=2^0;decide
 |n+1,rows,hn,hl,h=>by
  have:=mx (f:=λm=>D n (m.map tl)) (B:=2^b) (F:=2^((b+4)*n)) (S:=λr=>∀j,(r j).natAbs<=2^b) (λr hr=>hr 0) rows [] (λr hr=>nomatch hr) h (λl hl2 hs=>gn n (l.map tl) (by omega) (by rw[wE];rw[xp]at hl2;omega) (λr hr j=>by
   obtain⟨x,hx,rfl⟩:=wJ.mp hr
   exact hs x hx (j+1)))
  refine xb this ?_;rw[hl];have e:(b+4)*(n+1)=4+(b+(b+4)*n):=by rw[Nat.mul_add];omega
  rw[e,Nat.pow_add 2 4,Nat.pow_add 2 b];exact Nat.mul_le_mul_right _ hn
noncomputable def sel(C:Nat->Nat)(r:Rw):Rw:=λj=>r (C j)
def DInv(left:List (List Int))(p:Int)(c k N:Nat):Prop:=∀(R:List Rw) (C:Nat->Nat),R≠[]->R.length+k<=N->(∀r∈R,∃x∈left,r=cf x)->∃M:Int,D R.length (R.map (sel C))=p^(R.length-1)*M/\M.natAbs<=2^(c*(R.length+k))
theorem DInv.start{xss:List (List Int)}{b n:Nat}(hn:n<=16)(h:∀x∈xss,∀j,(cf x j).natAbs<=2^b):DInv xss 1 (b+4) 0 n:=λR C _ hl hR=>by
 refine⟨D R.length (R.map (sel C)),by rw[Int.one_pow,xg],?_⟩
 exact gn R.length _ (by omega) (wE _) λr hr j=>by obtain⟨r',hr',rfl⟩:=wJ.mp hr;obtain⟨x,hx,rfl⟩:=hR r' hr';exact h x hx _
theorem DInv.bits{left:List (List Int)}{p:Int}{c k N:Nat}(h:DInv left p c k N)(hk:1+k<=N){x:List Int}(hx:x∈left)(j:Nat):(cf x j).natAbs<=2^(c*(1+k)):=by
 obtain⟨M,e,hM⟩:=h [cf x] (λ_=>j) (by simp) hk (λr hr=>⟨x,hx,w5.mp hr⟩)
 have e2:D 1 [sel (λ_=>j) (cf x)]=cf x j:=by show cf x j*1-0=_;omega
 have e3:cf x j=M:=by rw[<- e2];show D 1 [sel (λ_=>j) (cf x)]=M;have:D 1 [sel (λ_=>j) (cf x)]=p^0*M:=e;rw[this,xh,xg]
 rw[e3];exact hM
noncomputable def phi(h:Rw)(p:Int)(r:Rw):Rw:=λj=>(h 0*r (j+1)-r 0*h (j+1)).fdiv p
theorem nO{hs x:List Int}{p:Int}(hl:hs.length=x.length):cf (clr hs p x)=phi (cf hs) p (cf x):=by
 funext j
 unfold clr phi;rw[cI];by_cases hj:j<x.length-1
 ·rw[if_pos hj]
 ·rw[if_neg hj,ay (l:=x) (k:=j+1) (by omega),ay (l:=hs) (k:=j+1) (by omega)];simp
theorem DInv.exact{left:List (List Int)}{p:Int}{c k N:Nat}(h:DInv left p c k N)(hp:p≠0)(hk:2+k<=N){hs x:List Int}(h1:hs∈left)(h2:x∈left)(j:Nat):p*phi (cf hs) p (cf x) j=cf hs 0*cf x (j+1)-cf x 0*cf hs (j+1):=by
 obtain⟨M,e,_⟩:=h [cf hs,cf x] (λi=>if i=0 then 0 else j+1) (by simp) hk (λr hr=>by
  simp only[wZ,xK,or_false]at hr;rcases hr with rfl |rfl
  ·exact⟨hs,h1,rfl⟩
  ·exact⟨x,h2,rfl⟩)
 have e2:D 2 [sel (λi=>if i=0 then 0 else j+1) (cf hs),sel (λi=>if i=0 then 0 else j+1) (cf x)]=cf hs 0*cf x (j+1)-cf x 0*cf hs (j+1):=by show cf hs 0*(cf x (j+1)*1-0)-(cf x 0*(cf hs (j+1)*1-0)-0)=_;grind
 have e3:cf hs 0*cf x (j+1)-cf x 0*cf hs (j+1)=p*M:=by rw[<- e2];have:D 2 [sel (λi=>if i=0 then 0 else j+1) (cf hs),sel (λi=>if i=0 then 0 else j+1) (cf x)]=p^1*M:=e;rw[this,wM,xh,xg]
 unfold phi;rw[e3,Int.mul_fdiv_cancel_left _ hp]
theorem lg{P:Rw->Prop}{φ:Rw->Rw}:∀R':List Rw,(∀r'∈R',∃r,P r/\r'=φ r)->∃R:List Rw,R'=R.map φ/\∀r∈R,P r
 | [],_=>⟨[],rfl,λ_ h=>nomatch h⟩
 |x::R',h=>by
  obtain⟨r,hr,rfl⟩:=h x (wT ..);obtain⟨R,rfl,hR⟩:=lg R' λy hy=>h y (wP _ hy)
  exact⟨r::R,rfl,λy hy=>by
   rcases wZ.mp hy with rfl |hy
   ·exact hr
   ·exact hR y hy⟩
noncomputable def upC(C:Nat->Nat):Nat->Nat
 |0=>0
 |j+1=>C j+1
theorem DInv.step{left others:List (List Int)}{p:Int}{c k N:Nat}(h:DInv left p c k N)(hp:p≠0){hs:List Int}(h1:hs∈left)(h0:cf hs 0≠0)(hsub:∀x∈others,x∈left)(hlen:∀x∈others,hs.length=x.length):DInv (others.map (clr hs p)) (cf hs 0) c (k+1) N:=λR' C hne hl hR'=>by
 obtain⟨R,rfl,hR⟩:=lg (P:=λr=>∃x∈others,r=cf x) (φ:=phi (cf hs) p) R' (λr' hr'=>by
  obtain⟨y,hy,rfl⟩:=hR' r' hr';obtain⟨x,hx,rfl⟩:=wJ.mp hy
  exact⟨cf x,⟨x,hx,rfl⟩,nO (hlen x hx)⟩)
 rw[wE]at hl ⊢
 obtain⟨M,e,hM⟩:=h (cf hs::R) (upC C) (by simp) (by rw[wI];omega) (λr hr=>by
  rcases wZ.mp hr with rfl |hr
  ·exact⟨hs,h1,rfl⟩
  ·obtain⟨x,hx,rfl⟩:=hR r hr
   exact⟨x,hsub x hx,rfl⟩)
 have hm:1<=R.length:=by
  have:R≠[]:=λz=>hne (by rw[z];rfl)
  have:=wK.mpr this;omega
 have st:=ot (h:=sel (upC C) (cf hs)) (R:=R.map (sel (upC C))) (p:=p) (φ:=phi (sel (upC C) (cf hs)) p) (λr hr j=>by
  obtain⟨r',hr',rfl⟩:=wJ.mp hr;obtain⟨x,hx,rfl⟩:=hR r' hr'
  exact h.exact hp (by omega) h1 (hsub x hx) (C j))
 rw[wE,wO]at st;have e':D (R.length+1) (sel (upC C) (cf hs)::R.map (sel (upC C)))=p^R.length*M:=e;rw[e']at st;have em:List.map (phi (sel (upC C) (cf hs)) p ∘ sel (upC C)) R=(R.map (phi (cf hs) p)).map (sel C):=by rw[wO];rfl
 rw[em]at st;have hs0:sel (upC C) (cf hs) 0=cf hs 0:=rfl;rw[hs0]at st
 refine⟨M,?_,by rw[wI]at hM;have e5:R.length+(k+1)=R.length+1+k:=by omega
                rw[e5];exact hM⟩
 generalize D R.length ((R.map (phi (cf hs) p)).map (sel C))=D' at st ⊢
 obtain⟨m,em⟩:∃m,R.length=m+1:=⟨R.length-1,by omega⟩;rw[em]at st ⊢;have hpm:p^(m+1)≠0:=xS hp;show D'=cf hs 0^m*M;generalize p^(m+1)=q at st hpm
 rw[wM]at st;generalize cf hs 0^m=x at st ⊢
 generalize cf hs 0=y at st h0
 have hyq:y*q≠0:=xf h0 hpm;refine xZ hyq ?_;grind
theorem qF(k:Nat)(sg:Int):(if k%2=1 then -sg else sg)=(-1)^k*sg:=by
 induction k generalizing sg with
 |zero=>simp
 |succ k ih =>
  rw[wM];have:=ih (-sg);have e:(-1:Int)^k * -1*sg=(-1)^k * -sg:=by grind
  rw[e,<- this];by_cases h:k%2=1
  ·rw[if_pos h,if_neg (by omega),Int.neg_neg]
  ·rw[if_neg h,if_pos (by omega)]
theorem nD{c:Nat}:∀(m:Nat) (left:List (List Int)) (p sg d:Int) (k:Nat),p≠0->left.length=m->(∀x∈left,x.length=m)->DInv left p c k (m+k)->p*sg*D m (left.map cf)=p^m*d->bV m left p sg=d
 |0,left,p,sg,d,k,hp,hl,_,_,h=>by show sg*p=d;have:p*sg*1=p^0*d:=h;rw[xh]at this;grind
 |m+1,left,p,sg,d,k,hp,hl,hw,hI,h=>by
  show(if fnn left=left.length then 0 else bV m ((left.take (fnn left)++left.drop (fnn left+1)).map (clr (left.getD (fnn left) []) p)) (cf (left.getD (fnn left) []) 0) (if fnn left%2=1 then -sg else sg))=d;have hpm:p^(m+1)≠0:=xS hp;by_cases hf:fnn left=left.length
  ·rw[if_pos hf]
   rw[e7 (λx hx=>by
    obtain⟨y,hy,rfl⟩:=wJ.mp hx;obtain⟨i,hi,rfl⟩:=x0.mp hy;have:=jo (l:=left) (j:=i) (by omega)
    simpa[List.getD,hi]using this),w9]at h
   rcases Int.mul_eq_zero.mp h.symm with z |z
   ·exact absurd z hpm
   ·exact z.symm
  ·rw[if_neg hf];have hlt:fnn left<left.length:=by have:=gg left;omega
   have hne:=gf hlt
   have hmem:left.getD (fnn left) []∈left:=by
    have:left.getD (fnn left) []=left[fnn left]:=by simp[List.getD,hlt]
    rw[this];exact xC hlt
   have hdec:left=left.take (fnn left)++left.getD (fnn left) []::left.drop (fnn left+1):=by
    have:left.getD (fnn left) []=left[fnn left]:=by simp[List.getD,hlt]
    rw[this];simp
   generalize fnn left=pl at *
   generalize hh:left.getD pl []=hs at *
   have hmv:D (m+1) (left.map cf)=(-1)^pl*D (m+1) (cf hs::(left.take pl++left.drop (pl+1)).map cf):=by have e:=gm (n:=m+1) (h:=cf hs) (post:=(left.drop (pl+1)).map cf) ((left.take pl).map cf) [] (by rw[wE,wE,wU,xv];simp;omega);rw[wE,wU,xT (by omega)]at e;rw[wH];rw[wS,wS,xc]at e;rw[<- e,<- w6,<- wH,<- hdec]
   have hol:(left.take pl++left.drop (pl+1)).length=m:=by rw[wF,wU,xv];omega
   have hsub:∀x∈left.take pl++left.drop (pl+1),x∈left:=λx hx=>(wQ.mp hx).elim List.mem_of_mem_take x3
   generalize left.take pl++left.drop (pl+1)=others at *
   have hlen:∀x∈others,hs.length=x.length:=λx hx=>by rw[hw hs hmem,hw x (hsub x hx)]
   have hI':=hI.step hp hmem hne hsub hlen;rw[qF]
   refine nD (c:=c) m _ _ _ d (k+1) hne (by rw[wE];exact hol) (λx hx=>by
    obtain⟨y,hy,rfl⟩:=wJ.mp hx
    rw[mj,hw y (hsub y hy)];rfl) ?_ ?_
   ·have:m+(k+1)=m+1+k:=by omega
    rw[this];exact hI'
   have st:cf hs 0^m*D (m+1) (cf hs::others.map cf)=cf hs 0*(p^m*D m ((others.map (clr hs p)).map cf)):=by
    have hex:∀r∈others.map cf,∀j,p*phi (cf hs) p r j=cf hs 0*r (j+1)-r 0*cf hs (j+1):=λr hr j=>by obtain⟨x,hx,rfl⟩:=wJ.mp hr;refine hI.exact hp ?_ hmem (hsub x hx) j;have:=wK.mpr (List.ne_nil_of_mem hx);omega
    have e:=ot (h:=cf hs) (R:=others.map cf) (p:=p) (φ:=phi (cf hs) p) hex;rw[wE,hol]at e
    have e2:(others.map cf).map (phi (cf hs) p)=(others.map (clr hs p)).map cf:=by
     rw[wO,wO];refine wR λx hx=>?_
     show phi (cf hs) p (cf x)=cf (clr hs p x);rw[nO (hlen x hx)]
    rw[e2]at e;exact e
   rw[hmv]at h;generalize D (m+1) (cf hs::others.map cf)=X at *
   generalize D m ((others.map (clr hs p)).map cf)=Y at *
   generalize (-1:Int)^pl=e at *
   generalize cf hs 0=y at *
   have e1:p^(m+1)=p*p^m:=by rw[wM,xB]
   rw[e1]at h hpm;generalize p^m=q at *
   generalize y^m=z at *
   refine xZ hpm ?_;have a1:p*q*(y*(e*sg)*Y)=p*(e*sg)*(y*(q*Y)):=by grind
   rw[a1,<- st];have a2:p*(e*sg)*(z*X)=z*(p*sg*(e*X)):=by grind
   rw[a2,h];grind
theorem ur{xss:List (List Int)}{b:Nat}(hn:xss.length<=16)(hw:∀x∈xss,x.length=xss.length)(hb:∀x∈xss,∀j,(cf x j).natAbs<=2^b):bV xss.length xss 1 1=D xss.length (xss.map cf) :=
 nD (c:=b+4) xss.length xss 1 1 _ 0 (by decide) rfl hw (DInv.start (by omega) hb) (by rw[Int.one_pow,xE])
noncomputable def sh(k:Nat)(r:Rw):Rw:=λj=>r (j+k)
noncomputable def dp:Nat->List Rw->Int
 |_,[]=>1
 |k,r::rs=>r k*dp (k+1) rs
theorem oo:∀(R:List Rw) (k:Nat),(∀(i:Nat) (r:Rw),R[i]?=some r->∀j,j<i->r (j+k)=0)->D R.length (R.map (sh k))=dp k R
 | [],_,_=>rfl
 |h::X,k,hz=>by
  have ih:=oo X (k+1) λi r hr j hj=>by
   have:=hz (i+1) r hr (j+1) (by omega);have e:j+1+k=j+(k+1):=by omega
   rw[e]at this;exact this
  show D (X.length+1) (sh k h::X.map (sh k))=h k*dp (k+1) X
  rw[jS (λx hx=>by
   obtain⟨y,hy,rfl⟩:=wJ.mp hx;obtain⟨i,hi,rfl⟩:=x0.mp hy
   exact hz (i+1) X[i] (by rw[List.getElem?_cons_succ];exact List.getElem?_eq_getElem hi) 0 (by omega)),<- ih,wO]
  have e0:sh k h 0=h k:=by show h (0+k)=h k;rw[Nat.zero_add]
  rw[e0]
  congr 2
  refine wR λr _=>?_
  funext j
  show r (j+1+k)=r (j+(k+1))
  congr 1;omega
noncomputable def bU(d:Nat)(l:List Int):Nat:=l.foldl (λd v=>Nat.gcd d v.natAbs) d
noncomputable def aq(l:List Int):Nat:=bU 0 l
theorem tX(d:Nat):bU d []=d:=rfl
theorem tY(d:Nat)(v:Int)(l:List Int):bU d (v::l)=bU (Nat.gcd d v.natAbs) l:=rfl
theorem tW(d:Nat)(l:List Int)(v:Int):bU d (l++[v])=Nat.gcd (bU d l) v.natAbs:=by unfold bU;rw[List.foldl_append];rfl
theorem tR(l:List Int)(v:Int):aq (l++[v])=Nat.gcd (aq l) v.natAbs:=tW 0 l v
theorem ny{m:Nat}:∀{l:List Int} {d:Nat},m∣bU d l↔m∣d/\∀v∈l,m∣v.natAbs
 | [],d=>by simp[tX]
 |v::l,d=>by rw[tY,ny,Nat.dvd_gcd_iff];simp only[wZ,forall_eq_or_imp];exact⟨λ⟨⟨a,b⟩,c⟩=>⟨a,b,c⟩,λ⟨a,b,c⟩=>⟨⟨a,b⟩,c⟩⟩
theorem dvd_gcdL{m:Nat}{l:List Int}:m∣aq l↔∀v∈l,m∣v.natAbs:=by unfold aq;rw[ny];exact⟨λh=>h.2,λh=>⟨Nat.dvd_zero m,h⟩⟩
theorem eC{l:List Int}{v:Int}(h:v∈l):aq l∣v.natAbs:=dvd_gcdL.mp (Nat.dvd_refl _) v h
theorem tT(v:Int):aq [v]=v.natAbs:=by show Nat.gcd 0 v.natAbs=_;exact Nat.gcd_zero_left _
theorem tO{a b:Int}(ha:0<=a)(hb:0<b):Nat.gcd b.natAbs (a%b).natAbs=Nat.gcd a.natAbs b.natAbs:=by
 have e:(a%b).natAbs=a.natAbs%b.natAbs:=by obtain⟨x,rfl⟩:=Int.eq_ofNat_of_zero_le ha;obtain⟨y,rfl⟩:=Int.eq_ofNat_of_zero_le (Int.le_of_lt hb);rfl
 rw[e,Nat.gcd_comm,<- Nat.gcd_rec,Nat.gcd_comm]
noncomputable def ap(l:List Int):List Int:=l.map λx=>x/(aq l:Int)
noncomputable def bB(l:List Int):Int:=cf l (l.length-1)
theorem d6(r:List Int)(x:Int):bB (r++[x])=x:=by unfold bB;rw[wF];exact gj r x
noncomputable def aU(l:List Int):List Int:=if bB l<0 then l.map λx => -x else l
noncomputable def aB(l:List Int):List Int:=aU (ap l)
theorem j5{c:Int->Int}(h0:∀x,c x=0↔x=0):∀(n:Nat) (l:List Int),l.length=n->trim (l.map c)=(trim l).map c
 |0,l,h=>by rw[xl.mp h];rfl
 |n+1,l,h=>by
  rcases cu l with rfl |⟨r,x,rfl⟩
  ·rfl
  ·rw[wH];show trim (r.map c++[c x])=_;by_cases hx:x=0
   ·subst hx;rw[(h0 0).mpr rfl,fk,fk];exact j5 h0 n r (by simpa using h)
   ·rw[dw r hx,dw _ (λz=>hx ((h0 x).mp z)),wH];rfl
def dr(l:List Int):Prop:=l=[]\/aq l=1
theorem pD{l:List Int}(h:dr l):ap l=l:=by
 rcases h with rfl |h
 ·rfl
 ·unfold ap;rw[h]
  conv=>rhs;rw[<- List.map_id l]
  apply wR;intro x _;show x/1=x;exact Int.ediv_one x
theorem tU{l:List Int}{s:Int}(hs:s=1\/s = -1):aq (l.map λx=>x*s)=aq l:=by
 have key:∀m:Nat,m∣aq (l.map λx=>x*s)↔m∣aq l:=by
  intro m;rw[dvd_gcdL,dvd_gcdL]
  have e:∀x:Int,(x*s).natAbs=x.natAbs:=λx=>by
   rcases hs with rfl |rfl
   ·rw[xE]
   ·rw[Int.mul_neg,xE,Int.natAbs_neg]
  constructor
  ·intro h v hv;have:=h (v*s) (wJ.mpr ⟨v,hv,rfl⟩)
   rwa [e]at this
  ·intro h v hv;obtain⟨u,hu,rfl⟩:=wJ.mp hv;rw[e];exact h u hu
 exact Nat.dvd_antisymm ((key _).mp (Nat.dvd_refl _)) ((key _).mpr (Nat.dvd_refl _))
theorem qB{l:List Int}(h:dr l):dr (l.map λx => -x):=by
 rcases h with rfl |h
 ·exact .inl rfl
 ·right
  have e:(l.map λx => -x)=l.map λx=>x*(-1):=by apply wR;intro x _;omega
  rw[e,tU (.inr rfl),h]
theorem mn(l:List Int):bB (l.map λx => -x) = -bB l:=by
 rcases cu l with rfl |⟨r,x,rfl⟩
 ·rfl
 ·rw[wH];show bB (r.map _++[-x])=_;rw[d6,d6]
theorem qA{l:List Int}(h:dr l):dr (aU l):=by
 unfold aU;split
 ·exact qB h
 ·exact h
theorem fm{c:Int->Int}(h0:∀x,c x=0↔x=0){l:List Int}(h:Tr l):Tr (l.map c):=by rw[<- gr h,<- j5 h0 _ l rfl];exact bX _
theorem oR{l:List Int}(h:Tr l):Tr (aU l):=by
 unfold aU;split
 ·exact fm (λx=>by omega) h
 ·exact h
theorem kJ{q q' b:List Int}{c l:Int}{p n:Nat}(h:∀k,cf q' k=c*cf q k+(if k=p then l else 0)) :
 ∀j,sm q' b n j=c*sm q b n j+(if p<j/\p<=n then l*cf b (n-p)else 0)
 |0=>by rw[sm,sm,if_neg (by omega)];simp
 |j+1=>by
  rw[sm,sm,kJ h j];unfold tm;by_cases hj:j<=n
  ·rw[if_pos hj,if_pos hj,h j];by_cases e:j=p
   ·subst e;rw[if_pos rfl,if_neg (by omega),if_pos ⟨by omega,hj⟩];grind
   ·rw[if_neg e];by_cases h2:p<j/\p<=n
    ·rw[if_pos h2,if_pos ⟨by omega,h2.2⟩];grind
    ·rw[if_neg h2,if_neg (by omega)];grind
  ·rw[if_neg hj,if_neg hj];by_cases h2:p<j/\p<=n
   ·rw[if_pos h2,if_pos ⟨by omega,h2.2⟩];grind
   ·rw[if_neg h2,if_neg (by omega)];grind
theorem rV{q q' b:List Int}{c l:Int}{p n:Nat}(hl:q'.length=q.length)(hp:p<q.length)(h:∀k,cf q' k=c*cf q k+(if k=p then l else 0)) :
 aj q' b n=c*aj q b n+(if p<=n then l*cf b (n-p)else 0):=by
 unfold aj;rw[hl,kJ h];by_cases h2:p<=n
 ·rw[if_pos h2,if_pos ⟨hp,h2⟩]
 ·rw[if_neg h2,if_neg (by omega)]
noncomputable def scL(c:Int)(l:List Int):List Int:=l.map λx=>c*x
theorem dj(c:Int)(l:List Int):(scL c l).length=l.length:=by unfold scL;rw[wE]
theorem cH(c:Int)(l:List Int)(k:Nat):cf (scL c l) k=c*cf l k:=by
 by_cases h:k<l.length
 ·unfold cf scL;simp[h]
 ·rw[ay (by rw[dj];omega),ay (by omega)];simp
noncomputable def d5(r b:List Int)(p:Nat)(l:Int):List Int:=(List.range (r.length-1)).map λk=>cf r k-(if p<=k then l*cf b (k-p)else 0)
theorem sF(r b:List Int)(p:Nat)(l:Int):(d5 r b p l).length=r.length-1:=by unfold d5;simp
theorem uB(r b:List Int)(p:Nat)(l:Int)(k:Nat):cf (d5 r b p l) k=if k<r.length-1 then cf r k-(if p<=k then l*cf b (k-p)else 0)else 0:=by unfold d5;rw[cI]
theorem pE(x:Int):sg x*x=(x.natAbs:Int):=by unfold sg;split<;>(try split)<;>omega
noncomputable def cM(b:List Int)(z:List Int×List Int)(i:Nat):List Int×List Int :=
 let s:Int:=((cf b (b.length-1)).natAbs:Int)
 let l:=sg (cf b (b.length-1))*cf z.2 (z.2.length-1)
 ((scL s z.1).set i l,d5 (scL s z.2) b i l)
noncomputable def bF(a b:List Int):Nat->List Int×List Int
 |0=>(List.replicate (a.length+1-b.length) 0,a)
 |i+1=>cM b (bF a b i) (a.length+1-b.length-1-i)
structure DivInv(a b:List Int)(i:Nat):Prop where
 lq:(bF a b i).1.length=a.length+1-b.length
 lr:(bF a b i).2.length=a.length-i
 low:∀k,k+i<a.length+1-b.length->cf (bF a b i).1 k=0
 eqn:∀n,((cf b (b.length-1)).natAbs:Int)^i*cf a n=aj (bF a b i).1 b n+cf (bF a b i).2 n
theorem iT{a b:List Int}{n:Nat}(h:∀k,cf a k=0):aj a b n=0:=by apply dB;intro i _;unfold tm;rw[h i];simp
theorem uo{A B i:Nat}(hi:i+1<=A+1-B)(hb:0<B):∃p,A+1-B=p+i+1/\p+i+B=A:=⟨A-B-i,by omega,by omega⟩
theorem nB(p i:Nat):p<p+i+1:=Nat.lt_succ_of_le (Nat.le_add_right _ _)
theorem gh{P A C M R:Int}(en:P*A=M+R):P*C*A=C*M+C*R:=by rw[Int.mul_right_comm,en,xB,Int.mul_add]
theorem uq(x y z:Int):x+y=x+z+(y-z):=by omega
theorem jz{a b:List Int}(hb:b≠[]):∀i,i<=a.length+1-b.length->DivInv a b i
 |0,_=>⟨by simp[bF],by simp[bF],λk _=>by show cf (List.replicate _ 0) k=0;rw[eH],λn=>by
  show _=aj (List.replicate _ 0) b n+cf a n
  rw[iT λk=>eH _ _];simp⟩
 |i+1,hi=>by
  obtain⟨lq,lr,low,eqn⟩:=jz (a:=a) hb i (Nat.le_of_succ_le hi);have hbl:=wK.mpr hb;have e:bF a b (i+1)=cM b (bF a b i) (a.length+1-b.length-1-i):=rfl;generalize bF a b i=z at e lq lr low eqn
  obtain⟨p,ep,ed⟩:=uo hi hbl;rw[ep,show p+i+1-1-i=p from xU _ _]at e;rw[ep]at lq low;have lz:z.2.length=p+b.length:=by rw[lr,<- ed,Nat.add_right_comm,xU]
  have hp:p<(scL ((cf b (b.length-1)).natAbs:Int) z.1).length:=by rw[dj,lq];exact nB p i
  have hq:∀k,cf (cM b z p).1 k=((cf b (b.length-1)).natAbs:Int)*cf z.1 k+(if k=p then sg (cf b (b.length-1))*cf z.2 (z.2.length-1)else 0):=by
   intro k;unfold cM;dsimp only
   rw[nK hp,cH];by_cases h:k=p
   ·rw[if_pos h,if_pos h,low k (by rw[h];exact xH _)];simp
   ·rw[if_neg h,if_neg h];simp
  have hlq:(cM b z p).1.length=p+i+1:=by unfold cM;dsimp only;rw[List.length_set,dj,lq]
  refine⟨?_,?_,?_,?_⟩
  ·rw[e,hlq,ep]
  ·rw[e];unfold cM;dsimp only;rw[sF,dj,lr];rfl
  ·intro k hk;rw[ep]at hk;have hk':k<p:=by clear lq lr low eqn hp hq hlq lz e ep ed;omega
   rw[e,hq,if_neg (wY hk'),low k (Nat.lt_trans (Nat.add_lt_add_right hk' i) (xH _))];simp
  ·intro n;rw[e,rV (by rw[hlq,lq]) (by rw[lq];exact nB p i) hq,wM];have en:=eqn n;unfold cM;dsimp only
   rw[uB,dj,cH,lz];clear lq lr low eqn hp hq hlq e ep ed;by_cases h1:n<p+b.length-1
   ·rw[if_pos h1];by_cases h2:p<=n
    ·rw[if_pos h2,gh en];exact uq _ _ _
    ·rw[if_neg h2,gh en,xk,Int.sub_zero]
   ·rw[if_neg h1];have h2:p<=n:=by clear en;omega
    by_cases h3:n=p+b.length-1
    ·have h4:n-p=b.length-1:=by clear en;omega
     rw[if_pos h2,h4];have sg:=pE (cf b (b.length-1));rw[<- h3,gh en,xk,Int.mul_right_comm,sg]
    ·have hc:cf z.2 n=0:=ay (by rw[lz];clear en;omega);rw[if_pos h2,ay (l:=b) (k:=n-p) (by clear en;omega),gh en,hc,w9,w9,xk,xk]
noncomputable def cW(a b:List Int):Nat:=a.length+1-b.length
noncomputable def nC(a b:List Int):Int:=((cf b (b.length-1)).natAbs:Int)^cW a b
noncomputable def nA(a b:List Int):List Int:=(bF a b (cW a b)).1
noncomputable def dk(a b:List Int):List Int:=trim (bF a b (cW a b)).2
theorem um{a b:List Int}(hb:b≠[])(n:Nat):nC a b*cf a n=aj (nA a b) b n+cf (dk a b) n:=by unfold dk nA nC;rw[bC];exact(jz hb (cW a b) (wG _)).eqn n
theorem ul{a b:List Int}(hb:b≠[]):(dk a b).length<b.length:=by
 have h:=(jz (a:=a) hb (cW a b) (wG _)).lr;have h2:=di (bF a b (cW a b)).2;have hbl:=wK.mpr hb;unfold dk;unfold cW at *
 omega
theorem uk(a b:List Int):Tr (dk a b):=bX _
theorem kM{a a' b b':List Int}{n:Nat}(h1:∀k,cf a k=cf a' k)(h2:∀k,cf b k=cf b' k):∀j,sm a b n j=sm a' b' n j
 |0=>rfl
 |j+1=>by rw[sm,sm,kM h1 h2 j];unfold tm;rw[h1 j,h2 (n-j)]
theorem kK{a b:List Int}{n:Nat}:∀d,sm a b n (a.length+d)=aj a b n
 |0=>rfl
 |d+1=>by rw[<- Nat.add_assoc,sm,kK d,oU (by omega)];omega
theorem dC{a b:List Int}{n N:Nat}(h:a.length<=N):sm a b n N=aj a b n:=by obtain⟨d,rfl⟩:=Nat.exists_eq_add_of_le h;exact kK d
theorem lR{a a' b b':List Int}{n:Nat}(h1:∀k,cf a k=cf a' k)(h2:∀k,cf b k=cf b' k):aj a b n=aj a' b' n:=by rw[<- dC (Nat.le_max_left a.length a'.length),<- dC (Nat.le_max_right a.length a'.length)];exact kM h1 h2 _
theorem kI{a b c q:List Int}{x y:Int}{n:Nat}(h:∀k,cf c k=x*cf a k+y*cf b k):∀j,sm c q n j=x*sm a q n j+y*sm b q n j
 |0=>by simp[sm]
 |j+1=>by
  rw[sm,sm,sm,kI h j];unfold tm;rw[h j];by_cases hj:j<=n
  ·rw[if_pos hj,if_pos hj,if_pos hj];grind
  ·rw[if_neg hj,if_neg hj,if_neg hj];grind
theorem df{a b c q:List Int}{x y:Int}{n:Nat}(h:∀k,cf c k=x*cf a k+y*cf b k):aj c q n=x*aj a q n+y*aj b q n:=by
 have h1:a.length<=a.length+b.length+c.length:=by omega
 have h2:b.length<=a.length+b.length+c.length:=by omega
 have h3:c.length<=a.length+b.length+c.length:=by omega
 rw[<- dC h1,<- dC h2,<- dC h3];exact kI h _
theorem kH{a b b':List Int}{c:Int}{n:Nat}(h:∀k,cf b' k=c*cf b k):∀j,sm a b' n j=c*sm a b n j
 |0=>by simp[sm]
 |j+1=>by
  rw[sm,sm,kH h j];unfold tm;rw[h (n-j)];by_cases hj:j<=n
  ·rw[if_pos hj,if_pos hj];grind
  ·rw[if_neg hj,if_neg hj];grind
theorem fZ{a b b':List Int}{c:Int}{n:Nat}(h:∀k,cf b' k=c*cf b k):aj a b' n=c*aj a b n:=kH h _
theorem iV(c:Int)(l:List Int)(n:Nat):aj [c] l n=c*cf l n:=by unfold aj;show sm [c] l n 0+tm [c] l n 0=_;unfold sm tm;rw[if_pos (wL _),jB,xy,xt]
theorem eJ(a b:List Int)(n:Nat):cf (aS a b) n=cf a n+cf b n:=by unfold aS;rw[bC,cY,xg]
theorem rR{l:List Int}(ht:Tr l)(h:∀k,cf l k=0):l=[]:=by
 refine Classical.byContradiction λhne=>?_
 have hl:=wK.mpr hne;exact ht (l.length-1) (by omega) (h _)
theorem rS{d q:List Int}(hq:q≠[])(hqt:Tr q)(h:∀n,q.length<=n+1->aj d q n=0):∀k,cf d k=0:=by
 have e:trim d=[]:=by
  refine Classical.byContradiction λhne=>?_
  have hl:=wK.mpr hne;have hql:=wK.mpr hq;have ht:=bX d ((trim d).length-1) (by omega);have hb:=hqt (q.length-1) (by omega);have h1:=h ((trim d).length-1+(q.length-1)) (by omega);rw[<- lR (a:=trim d) (b:=q) (λk=>bC d k) (λ_=>rfl),iU (la:=(trim d).length-1) (lb:=q.length-1) (by omega) (by omega)]at h1;exact xf ht hb h1
 intro k;rw[<- bC,e,aQ]
theorem mT(c:Int):∀(l:List Int) (d:Nat),bU (c.natAbs*d) (scL c l)=c.natAbs*bU d l
 | [],d=>rfl
 |v::l,d=>by show bU (Nat.gcd (c.natAbs*d) (c*v).natAbs) (scL c l)=c.natAbs*bU (Nat.gcd d v.natAbs) l;rw[Int.natAbs_mul,Nat.gcd_mul_left,mT c l]
theorem jk(c:Int)(l:List Int):aq (scL c l)=c.natAbs*aq l:=by have h:=mT c l 0;rw[Nat.mul_zero]at h;exact h
theorem eA{l:List Int}{x:Int}(h:x∈l):(aq l:Int)∣x:=xI.mpr (eC h)
theorem pB{c:Int}(hc:0<c)(l:List Int):ap (scL c l)=ap l:=by
 unfold ap;rw[jk];unfold scL;rw[wO];refine wR λx _=>?_
 show c*x/((c.natAbs*aq l:Nat):Int)=x/(aq l:Int);have e:((c.natAbs*aq l:Nat):Int)=c*(aq l:Int):=by rw[xM];congr 1;omega
 rw[e,Int.mul_ediv_mul_of_pos _ _ hc]
theorem pC{c:Int}(hc:c<0)(l:List Int):ap (scL c l)=(ap l).map λx => -x:=by
 unfold ap;rw[jk];unfold scL;rw[wO,wO];refine wR λx hx=>?_
 show c*x/((c.natAbs*aq l:Nat):Int) = -(x/(aq l:Int));have e:((c.natAbs*aq l:Nat):Int)=(-c)*(aq l:Int):=by rw[xM];congr 1;omega
 have e2:c*x=(-c)*(-x):=by rw[Int.neg_mul_neg]
 rw[e,e2,Int.mul_ediv_mul_of_pos _ _ (by omega:0 < -c),Int.neg_ediv_of_dvd (eA hx)]
theorem qK{m:List Int}(h:Tr m):aU (m.map λx => -x)=aU m:=by
 rcases cu m with rfl |⟨r,x,rfl⟩
 ·rfl
 have hx:x≠0:=tr_snoc.mp h;have h1:=mn (r++[x]);rw[d6]at h1;unfold aU;rw[h1,d6];by_cases hn:x<0
 ·rw[if_neg (by omega),if_pos hn]
 ·rw[if_pos (by omega),if_neg hn,wO];rw[show((λx:Int => -x) ∘ λx:Int => -x)=id from by funext y;simp];exact List.map_id _
theorem gs{l:List Int}(h:Tr l):Tr (ap l):=by
 intro n hn;have hl:l.length=n+1:=by rw[<- hn];unfold ap;rw[wE]
 have hx:=h n hl;have hm:cf l n∈l:=by rw[aC (by omega)];exact xC _
 have e:cf (ap l) n=cf l n/(aq l:Int):=by
  have h1:n<l.length:=by omega
  unfold ap cf;simp[List.getD,h1]
 rw[e];intro z;have d:=eA hm;have:=Int.mul_ediv_cancel' d;rw[z,w9]at this;exact hx this.symm
theorem iI{c:Int}(hc:c≠0){l:List Int}(h:Tr l):aB (scL c l)=aB l:=by
 unfold aB;by_cases hp:0<c
 ·rw[pB hp]
 ·rw[pC (by omega),qK (gs h)]
theorem gt{c:Int}(hc:c≠0){l:List Int}(h:Tr l):Tr (scL c l):=by intro n hn;rw[dj]at hn;rw[cH];exact xf hc (h n hn)
theorem qM{a b:List Int}{x y:Int}(hx:x≠0)(hy:y≠0)(ha:Tr a)(hb:Tr b)(h:∀k,x*cf a k=y*cf b k):aB a=aB b:=by
 have e:scL x a=scL y b:=eD (gt hx ha) (gt hy hb) λk=>by rw[cH,cH,h k]
 rw[<- iI hx ha,e,iI hy hb]
noncomputable def up(f:Nat->Int)(n:Nat):Int:=if n=0 then 0 else f (n-1)
theorem kL(x:Int)(a b:List Int)(n:Nat):∀j,sm (x::a) b n (j+1)=x*cf b n+(if n=0 then 0 else sm a b (n-1) j)
 |0=>by
  show 0+tm (x::a) b n 0=_;unfold tm;rw[if_pos (wL _)];rw[jB,xy];by_cases h:n=0
  ·rw[if_pos h];omega
  ·rw[if_neg h];show _=_+0;omega
 |j+1=>by
  show sm (x::a) b n (j+1)+tm (x::a) b n (j+1)=_;rw[kL x a b n j];by_cases h:n=0
  ·rw[if_pos h,if_pos h];unfold tm;rw[if_neg (by omega)];omega
  ·rw[if_neg h,if_neg h];show _=_+(sm a b (n-1) j+tm a b (n-1) j)
   have e:tm (x::a) b n (j+1)=tm a b (n-1) j:=by
    unfold tm;rw[b6];by_cases h2:j+1<=n
    ·rw[if_pos h2,if_pos (by omega)]
     congr 2;omega
    ·rw[if_neg h2,if_neg (by omega)]
   rw[e];omega
theorem bZ(x:Int)(a b:List Int)(n:Nat):aj (x::a) b n=x*cf b n+up (aj a b) n:=kL x a b n a.length
theorem cT(b:List Int)(n:Nat):aj [] b n=0:=rfl
theorem jD(x:Int)(a:List Int)(n:Nat):cf (x::a) n=(if n=0 then x else 0)+up (cf a) n:=by
 cases n with
 |zero=>show x=x+0;omega
 |succ n=>show cf a n=0+cf a n;omega
theorem iW(y:Int)(b:List Int):∀(a:List Int) (n:Nat),aj a (y::b) n=y*cf a n+up (aj a b) n
 | [],n=>by
  rw[cT,aQ];unfold up;split
  ·simp
  ·rw[cT];simp
 |x::a,n=>by
  rw[bZ,jD,jD];cases n with
  |zero =>show x*(y+0)+0=y*(x+0)+0;simp only[xk];exact xB _ _
  |succ n =>show x*(0+cf b n)+aj a (y::b) n=y*(0+cf a n)+aj (x::a) b n;rw[iW y b a n,bZ];simp only[xt];omega
theorem lQ:∀(a:List Int) (n:Nat),aj a [] n=0
 | [],n=>rfl
 |x::a,n=>by
  rw[bZ,aQ];unfold up;split
  ·simp
  ·rw[lQ a];simp
theorem lT:∀(a b:List Int) (n:Nat),aj a b n=aj b a n
 | [],b,n=>by rw[lQ];rfl
 |x::a,b,n=>by
  rw[bZ,iW]
  congr 1
  unfold up;split
  ·rfl
  ·exact lT a b _
theorem nJ(a:List Int)(n:Nat):cf (0::a) n=up (cf a) n:=by rw[jD];split<;>omega
theorem rT(a b:List Int)(n:Nat):aj (0::a) b n=up (aj a b) n:=by rw[bZ];omega
theorem f6:∀(a b c:List Int) (n:Nat),aj (ae a b) c n=aj a (ae b c) n
 | [],b,c,n=>by rw[cT,iT λk=>by rw[aW,cT]]
 |x::a,b,c,n=>by
  rw[bZ,aW]
  have e:∀k,cf (ae (x::a) b) k=x*cf b k+1*cf (0::ae a b) k:=λk=>by
   rw[aW,bZ,nJ,xg]
   congr 1
   unfold up;split
   ·rfl
   ·rw[aW]
  rw[df e,rT,xg]
  congr 1
  unfold up;split
  ·rfl
  ·exact f6 a b c _
def Dv(d p:List Int):Prop:=∃(c:Int) (q:List Int),c≠0/\∀n,c*cf p n=aj q d n
theorem Dv.refl(d:List Int):Dv d d:=⟨1,[1],by decide,λn=>by rw[iV]⟩
theorem Dv.nil(d:List Int):Dv d []:=⟨1,[],by decide,λn=>by rw[aQ,cT];rfl⟩
theorem Dv.trans{d e p:List Int}(h1:Dv d e)(h2:Dv e p):Dv d p:=by obtain⟨c1,q1,hc1,e1⟩:=h1;obtain⟨c2,q2,hc2,e2⟩:=h2;refine⟨c1*c2,ae q2 q1,xf hc1 hc2,λn=>?_⟩;rw[f6,Int.mul_assoc,e2,<- fZ (b':=ae q1 d) (λk=>by rw[aW,e1])]
theorem Dv.up{d a b r q:List Int}{f:Int}(hf:f≠0)(h:∀n,f*cf a n=aj q b n+cf r n)(hb:Dv d b)(hr:Dv d r):Dv d a:=by obtain⟨c1,q1,hc1,e1⟩:=hb;obtain⟨c2,q2,hc2,e2⟩:=hr;refine⟨c1*c2*f,bK c1 (scL c2 (ae q q1)) q2,xf (xf hc1 hc2) hf,λn=>?_⟩;rw[df (a:=ae q q1) (b:=q2) (x:=c2) (y:=c1) (λk=>by rw[cY,cH]),f6,<- e2,fZ (b:=b) (b':=ae q1 d) (c:=c1) (λk=>by rw[aW,e1])];have:=h n;grind
theorem Dv.down{d a b r q:List Int}{f:Int}(h:∀n,f*cf a n=aj q b n+cf r n)(ha:Dv d a)(hb:Dv d b):Dv d r:=by obtain⟨c1,q1,hc1,e1⟩:=ha;obtain⟨c2,q2,hc2,e2⟩:=hb;refine⟨c1*c2,bK (-c1) (scL (f*c2) q1) (ae q q2),xf hc1 hc2,λn=>?_⟩;rw[df (a:=q1) (b:=ae q q2) (x:=f*c2) (y := -c1) (λk=>by rw[cY,cH]),f6,<- e1,fZ (b:=b) (b':=ae q2 d) (c:=c2) (λk=>by rw[aW,e2])];have:=h n;grind
theorem Dv.prop_right{d p p':List Int}{x y:Int}(hx:x≠0)(h:∀n,x*cf p' n=y*cf p n)(hd:Dv d p):Dv d p':=by obtain⟨c,q,hc,e⟩:=hd;refine⟨c*x,scL y q,xf hc hx,λn=>?_⟩;rw[df (a:=q) (b:=[]) (x:=y) (y:=0) (λk=>by rw[cH];simp),<- e];have:=h n;grind
theorem iG{l:List Int}(h:Tr l):∃g:Int,g≠0/\∀n,cf l n=g*cf (aB l) n:=by
 by_cases hl:l=[]
 ·subst hl;exact⟨1,by decide,λn=>by rw[aQ];show 0=1*cf [] n;rw[aQ];rfl⟩
 have hg:(aq l:Int)≠0:=by obtain⟨r,x,rfl⟩:=(cu l).resolve_left hl;have hx:x≠0:=tr_snoc.mp h;have h1:0<aq (r++[x]):=Nat.pos_of_dvd_of_pos (eC (by simp:x∈r++[x])) (Int.natAbs_pos.mpr hx);omega
 have e1:∀n,cf l n=(aq l:Int)*cf (ap l) n:=λn=>by
  unfold ap;by_cases hn:n<l.length
  ·rw[aC hn,aC (by rw[wE];exact hn),xm];exact(Int.mul_ediv_cancel' (eA (xC hn))).symm
  ·rw[ay (by omega),ay (by rw[wE];omega),w9]
 unfold aB aU;split
 ·refine⟨-(aq l:Int),by omega,λn=>?_⟩
  have e2:cf ((ap l).map λx => -x) n = -cf (ap l) n:=by
   by_cases hn:n<(ap l).length
   ·rw[aC hn,aC (by rw[wE];exact hn),xm]
   ·rw[ay (l:=ap l) (by omega),ay (l:=(ap l).map λx => -x) (by rw[wE];omega)];rfl
  rw[e1,e2];grind
 ·exact⟨_,hg,e1⟩
theorem Dv.plain{d p:List Int}(hp:Tr p):Dv d (aB p)↔Dv d p:=by obtain⟨g,hg,e⟩:=iG hp;exact⟨λh=>Dv.prop_right (x:=1) (y:=g) (by decide) (λn=>by rw[e];omega) h,λh=>Dv.prop_right (x:=g) (y:=1) hg (λn=>by rw[<- e];omega) h⟩
theorem iH(l:List Int):(aB l).length=l.length:=by unfold aB aU ap;split<;>simp
theorem oS{l:List Int}(h:Tr l):Tr (aB l):=oR (gs h)
def Cop(a:List Int)(m:Nat):Prop:=∀k:Nat,k∣m->(∀n,(k:Int)∣cf a n)->k=1
theorem jl:∀(N:Nat) (a b:List Int) (m:Nat),a.length+b.length<=N->Cop a m->Cop b m->(∀n,(m:Int)∣aj a b n)->m=1
 |_,[],b,m,_,h1,_,_=>h1 m (Nat.dvd_refl _) λn=>by rw[aQ];exact Int.dvd_zero _
 |_,_::_,[],m,_,_,h2,_=>h2 m (Nat.dvd_refl _) λn=>by rw[aQ];exact Int.dvd_zero _
 |0,_::_,_::_,_,h,_,_,_=>absurd h (by simp)
 |N+1,x::a,y::b,m,h,h1,h2,h3=>by
  have d1:Nat.gcd m x.natAbs=1:=by
   refine jl N a (y::b) _ (by simp at h ⊢;omega) (λk hk hn=>h1 k (xN hk (xO _ _)) λn=>?_) (λk hk=>h2 k (xN hk (xO _ _))) λn=>?_
   ·cases n with
    |zero=>exact xI.mpr (xN hk (Nat.gcd_dvd_right _ _))
    |succ n=>exact hn n
   ·have e:=bZ x a (y::b) (n+1);have g1:((Nat.gcd m x.natAbs:Nat):Int)∣aj (x::a) (y::b) (n+1):=Int.dvd_trans (Int.ofNat_dvd.mpr (xO _ _)) (h3 _);have g2:((Nat.gcd m x.natAbs:Nat):Int)∣x*cf (y::b) (n+1):=Int.dvd_mul_of_dvd_left (xI.mpr (Nat.gcd_dvd_right _ _))
    have e2:aj a (y::b) n=aj (x::a) (y::b) (n+1)-x*cf (y::b) (n+1):=by rw[e];show _=_+aj a (y::b) n-_;omega
    rw[e2];exact Int.dvd_sub g1 g2
  have d2:Nat.gcd m y.natAbs=1:=by
   refine jl N (x::a) b _ (by simp at h ⊢;omega) (λk hk=>h1 k (xN hk (xO _ _))) (λk hk hn=>h2 k (xN hk (xO _ _)) λn=>?_) λn=>?_
   ·cases n with
    |zero=>exact xI.mpr (xN hk (Nat.gcd_dvd_right _ _))
    |succ n=>exact hn n
   ·have e:=iW y b (x::a) (n+1);have g1:((Nat.gcd m y.natAbs:Nat):Int)∣aj (x::a) (y::b) (n+1):=Int.dvd_trans (Int.ofNat_dvd.mpr (xO _ _)) (h3 _);have g2:((Nat.gcd m y.natAbs:Nat):Int)∣y*cf (x::a) (n+1):=Int.dvd_mul_of_dvd_left (xI.mpr (Nat.gcd_dvd_right _ _))
    have e2:aj (x::a) b n=aj (x::a) (y::b) (n+1)-y*cf (x::a) (n+1):=by rw[e];show _=_+aj (x::a) b n-_;omega
    rw[e2];exact Int.dvd_sub g1 g2
  have h0:=h3 0;rw[bZ]at h0
  have h0':m∣x.natAbs*y.natAbs:=by
   rw[<- Int.natAbs_mul];refine xI.mp ?_
   have e:x*cf (y::b) 0+up (aj a (y::b)) 0=x*y:=by show x*y+0=x*y;omega
   rwa [e]at h0
  have h4:m∣y.natAbs:=Nat.Coprime.dvd_of_dvd_mul_left d1 h0';rw[Nat.gcd_eq_left h4]at d2;exact d2
theorem sd{l:List Int}{v:Int}(h:v∈l):∃n,n<l.length/\cf l n=v:=by obtain⟨n,hn,e⟩:=List.getElem_of_mem h;exact⟨n,hn,by rw[aC hn,e]⟩
theorem nH{a:List Int}{m:Nat}(h:aq a=1):Cop a m:=λk _ hn=>by
 have:k∣aq a:=dvd_gcdL.mpr λv hv=>by obtain⟨n,_,rfl⟩:=sd hv;exact xI.mp (hn n)
 rw[h]at this;exact Nat.dvd_one.mp this
theorem qC{a b:List Int}(ha:aq a=1)(hb:aq b=1):aq (ae a b)=1:=by
 refine jl _ a b _ (wG _) (nH ha) (nH hb) λn=>?_
 rw[<- aW];by_cases hn:n<(ae a b).length
 ·rw[aC hn];exact eA (xC hn)
 ·rw[ay (by omega)];exact Int.dvd_zero _
structure Pln(l:List Int):Prop where
 tr:Tr l
 ne:l≠[]
 prim:aq l=1
 pos:0<bB l
theorem sL{l:List Int}(h:Tr l)(hne:l≠[]):bB l≠0:=by have:=wK.mpr hne;exact h (l.length-1) (by omega)
theorem Pln.plain{l:List Int}(h:Pln l):aB l=l:=by unfold aB;rw[pD (.inr h.prim)];unfold aU;rw[if_neg (by have:=h.pos;omega)]
theorem pA{l:List Int}:scL (aq l:Int) (ap l)=l:=by unfold scL ap;rw[wO];refine(wR (g:=id) λx hx=>?_).trans (List.map_id _);exact Int.mul_ediv_cancel' (eA hx)
theorem iF{l:List Int}(h:Tr l)(hne:l≠[]):Pln (aB l):=by
 have hg:0<aq l:=by obtain⟨r,x,rfl⟩:=(cu l).resolve_left hne;have hx:x≠0:=tr_snoc.mp h;exact Nat.pos_of_dvd_of_pos (eC (by simp:x∈r++[x])) (Int.natAbs_pos.mpr hx)
 have h1:aq (ap l)=1:=by have e:=jk (aq l:Int) (ap l);rw[pA,xV]at e;exact Nat.eq_of_mul_eq_mul_left hg (by rw[<- e,Nat.mul_one])
 have hs:ap l≠[]:=λz=>hne (by have:=congrArg List.length z;unfold ap at this;simpa using this)
 have hl:=sL (gs h) hs
 have hp:aq (aB l)=1:=by
  rcases qA (.inr h1:dr (ap l))with z |z
  ·exact absurd (congrArg List.length z) (by
    have:=iH l;unfold aB at this
    rw[this]
    exactλq=>hne (xl.mp q))
  ·exact z
 refine⟨oS h,λz=>hne (xl.mp (by rw[<- iH,z];rfl)),hp,?_⟩;unfold aB aU;split
 ·rw[mn];omega
 ·omega
theorem ja{a b:List Int}(ha:a≠[])(hb:b≠[]):(ae a b).length=a.length+b.length-1:=by unfold ae;rw[if_neg (λz=>z.elim ha hb),wE,wN]
theorem sK{a b:List Int}(ha:a≠[])(hb:b≠[]):bB (ae a b)=bB a*bB b:=by
 have h1:=wK.mpr ha;have h2:=wK.mpr hb;unfold bB;rw[ja ha hb,aW];have e:a.length+b.length-1-1=(a.length-1)+(b.length-1):=by omega
 rw[e,iU (by omega) (by omega)]
theorem Pln.mul{a b:List Int}(ha:Pln a)(hb:Pln b):Pln (ae a b):=by
 refine⟨cr ha.tr hb.tr,λz=>?_,qC ha.prim hb.prim,by rw[sK ha.ne hb.ne];exact Int.mul_pos ha.pos hb.pos⟩;have h1:=wK.mpr ha.ne;have h2:=wK.mpr hb.ne;have:=ja ha.ne hb.ne;rw[z]at this;simp at this
 omega
theorem qN{p q d:List Int}{c:Int}(hc:c≠0)(hp:Tr p)(hpn:p≠[])(hq:Tr q)(hd:Pln d)(h:∀n,c*cf p n=aj q d n):ae (aB q) d=aB p:=by
 have hqn:q≠[]:=λz=>by have h1:=wK.mpr hpn;have h2:=h (p.length-1);rw[z,cT]at h2;exact xf hc (hp (p.length-1) (by omega)) h2
 obtain⟨g,hg,e⟩:=iG hq;have hm:=(iF hq hqn).mul hd;rw[<- hm.plain];refine qM hg hc hm.tr hp λk=>?_
 rw[h,aW,df (a:=aB q) (b:=[]) (x:=g) (y:=0) (c:=q) (λk=>by rw[e];simp),cT];simp
theorem Dv.trim{d p:List Int}(h:Dv d p):∃(c:Int) (q:List Int),c≠0/\Tr q/\∀n,c*cf p n=aj q d n:=by obtain⟨c,q,hc,e⟩:=h;exact⟨c,RM.trim q,hc,bX q,λn=>by rw[e];exact(lR (λk=>bC q k) λ_=>rfl).symm⟩
theorem Pln.const{l:List Int}(h:Pln l)(h1:l.length=1):l=[1]:=by
 obtain⟨x,rfl⟩:∃x,l=[x]:=List.length_eq_one_iff.mp h1;have h2:=h.prim;rw[tT]at h2;have h3:0<x:=h.pos;have:x=1:=by omega
 rw[this]
theorem one_mul(l:List Int)(h:Tr l):ae [1] l=l:=by
 refine eD (cr (tr_snoc (r:=[]).mpr (by decide)) h) h λk=>?_
 rw[aW,iV];omega
theorem Dv.short{d r:List Int}(hd:d≠[])(hdt:Tr d)(hr:Tr r)(hl:r.length<d.length)(h:Dv d r):r=[]:=by
 obtain⟨c,q,hc,e⟩:=h;have z:=rS hd hdt (d:=q) λn hn=>by rw[<- e,ay (by omega),w9]
 refine rR hr λk=>?_
 have h1:=e k;rw[iT z]at h1;exact(Int.mul_eq_zero.mp h1).resolve_left hc
theorem Dv.rest{d p:List Int}(hd:d≠[])(hdt:Tr d)(h:Dv d p):dk p d=[] :=
 Dv.short hd hdt (uk _ _) (ul hd) (Dv.down (λn=>um (a:=p) hd n) h (Dv.refl d))
noncomputable def ev(t:Int):List Int->Int
 | []=>0
 |v::l=>v+t*ev t l
theorem jC(l:List Int)(k:Nat):cf l.tail k=cf l (k+1):=by
 cases l with
 |nil=>rw[List.tail_nil,aQ,aQ]
 |cons v l=>rfl
theorem jt(t:Int)(l:List Int):ev t l=cf l 0+t*ev t l.tail:=by
 cases l with
 |nil=>show(0:Int)=cf [] 0+t*0;rw[aQ];simp
 |cons v l=>rfl
theorem nw{t x y:Int}:∀(n:Nat) (a b c:List Int),a.length<=n->b.length<=n->c.length<=n->(∀k,cf c k=x*cf a k+y*cf b k)->ev t c=x*ev t a+y*ev t b
 |0,a,b,c,ha,hb,hc,_=>by rw[xl.mp (Nat.le_zero.mp ha),xl.mp (Nat.le_zero.mp hb),xl.mp (Nat.le_zero.mp hc)];show(0:Int)=x*0+y*0;simp
 |n+1,a,b,c,ha,hb,hc,h=>by
  have ih:=nw (t:=t) (x:=x) (y:=y) n a.tail b.tail c.tail (by rw[List.length_tail];omega) (by rw[List.length_tail];omega) (by rw[List.length_tail];omega) λk=>by rw[jC,jC,jC,h]
  rw[jt t a,jt t b,jt t c,ih,h 0];grind
theorem jw{t x y:Int}{a b c:List Int}(h:∀k,cf c k=x*cf a k+y*cf b k):ev t c=x*ev t a+y*ev t b :=
 nw (max a.length (max b.length c.length)) a b c (by omega) (by omega) (by omega) h
theorem jv(t:Int):∀a b:List Int,ev t (ae a b)=ev t a*ev t b
 | [],b=>by
  have:ae [] b=[]:=by unfold ae;rw[if_pos (.inl rfl)]
  rw[this];show(0:Int)=0*_;simp
 |x::a,b=>by
  have e:∀k,cf (ae (x::a) b) k=x*cf b k+1*cf (0::ae a b) k:=λk=>by
   rw[aW,bZ,nJ,xg]
   congr 1
   unfold up;split
   ·rfl
   ·rw[aW]
  rw[jw e];show x*ev t b+1*(0+t*ev t (ae a b))=(x+t*ev t a)*ev t b;rw[jv t a b];grind
noncomputable def syn(t:Int):List Int->List Int
 | []=>[]
 |_::l=>bK t l (syn t l)
theorem gx(t:Int):∀l:List Int,(syn t l).length<=l.length-1
 | []=>wG _
 |v::l=>by have:=gx t l;show((List.range (max l.length (syn t l).length)).map _).length<=(v::l).length-1;rw[wE,wN,wI];omega
theorem kj(t u:Int):∀l:List Int,ev u l=ev t l+(u-t)*ev u (syn t l)
 | []=>by show(0:Int)=0+(u-t)*0;simp
 |v::l=>by
  have ih:=kj t u l;have e:ev u (bK t l (syn t l))=1*ev u l+t*ev u (syn t l):=jw λk=>by rw[cY];omega
  show v+u*ev u l=v+t*ev t l+(u-t)*ev u (bK t l (syn t l));rw[e];grind
theorem gy(t:Int):∀(l:List Int) (k:Nat),cf l k=(if k=0 then ev t l else 0)+up (cf (syn t l)) k-t*cf (syn t l) k
 | [],k=>by show cf [] k=(if k=0 then 0 else 0)+up (cf []) k-t*cf [] k;unfold up;simp only[aQ];split<;>simp
 |v::l,k=>by
  show cf (v::l) k=(if k=0 then v+t*ev t l else 0)+up (cf (bK t l (syn t l))) k-t*cf (bK t l (syn t l)) k;cases k with
  |zero =>have ih:=gy t l 0;rw[cY,jB];show v=(v+t*ev t l)+0-t*(cf l 0+t*cf (syn t l) 0);have ih':cf l 0=ev t l+0-t*cf (syn t l) 0:=ih;grind
  |succ k =>have ih:=gy t l (k+1);have ih':cf l (k+1)=0+cf (syn t l) k-t*cf (syn t l) (k+1):=ih;rw[b6,cY];show cf l k=0+cf (bK t l (syn t l)) k-t*(cf l (k+1)+t*cf (syn t l) (k+1));rw[cY];grind
variable {ι:Type}
noncomputable def aO(h:ι->Int)(f:List ι->Int):List ι->List ι->Int
 |_,[]=>0
 |pre,r::rs=>h r*f (pre++rs)-aO h f (pre++[r]) rs
theorem mw(F:ι->Rw)(f:List Rw->Int):∀rows pre:List ι,lap f (pre.map F) (rows.map F)=aO (λi=>F i 0) (λm=>f (m.map F)) pre rows
 | [],_=>rfl
 |r::rs,pre=>by show F r 0*f (pre.map F++rs.map F)-lap f (pre.map F++[F r]) (rs.map F)=F r 0*f ((pre++rs).map F)-aO _ _ (pre++[r]) rs;rw[<- mw F f rs (pre++[r]),wH,wH,w6,xF]
theorem cJ(n:Nat)(F:ι->Rw)(l:List ι):D (n+1) (l.map F)=aO (λi=>F i 0) (λm=>D n (m.map λi=>tl (F i))) [] l:=by
 have:=mw F (λm=>D n (m.map tl)) l [];rw[vt];rw[xF]at this;rw[this]
 congr 1
 funext m
 rw[wO];rfl
theorem mr(x y:Int)(h1 h2:ι->Int)(f:List ι->Int):∀rows pre:List ι,aO (λi=>x*h1 i+y*h2 i) f pre rows=x*aO h1 f pre rows+y*aO h2 f pre rows
 | [],_=>by simp[aO]
 |r::rs,pre=>by show(x*h1 r+y*h2 r)*f (pre++rs)-aO _ f (pre++[r]) rs=x*(h1 r*f (pre++rs)-aO h1 f (pre++[r]) rs)+y*(h2 r*f (pre++rs)-aO h2 f (pre++[r]) rs);rw[mr x y h1 h2 f rs (pre++[r])];grind
theorem mt(x y:Int)(h:ι->Int)(f f1 f2:List ι->Int)(hf:∀m,f m=x*f1 m+y*f2 m):∀rows pre:List ι,aO h f pre rows=x*aO h f1 pre rows+y*aO h f2 pre rows
 | [],_=>by simp[aO]
 |r::rs,pre=>by show h r*f (pre++rs)-aO h f (pre++[r]) rs=x*(h r*f1 (pre++rs)-aO h f1 (pre++[r]) rs)+y*(h r*f2 (pre++rs)-aO h f2 (pre++[r]) rs);rw[mt x y h f f1 f2 hf rs (pre++[r]),hf];grind
theorem mv{S:ι->Prop}{h1 h2:ι->Int}{f1 f2:List ι->Int}(hh:∀i,S i->h1 i=h2 i)(hf:∀m,(∀i∈m,S i)->f1 m=f2 m):∀rows pre:List ι,(∀i∈pre,S i)->(∀i∈rows,S i)->aO h1 f1 pre rows=aO h2 f2 pre rows
 | [],_,_,_=>rfl
 |r::rs,pre,hp,hr=>by
  show h1 r*f1 (pre++rs)-aO h1 f1 (pre++[r]) rs=h2 r*f2 (pre++rs)-aO h2 f2 (pre++[r]) rs
  rw[hh r (hr r (wT ..)),hf (pre++rs) (λi hi=>(wQ.mp hi).elim (hp i) λz=>hr i (wP _ z)),
   mv hh hf rs (pre++[r]) (λi hi=>(wQ.mp hi).elim (hp i) λz=>by rw[w5.mp z];exact hr r (wT ..)) (λi hi=>hr i (wP _ hi))]
theorem jT:∀(n:Nat) (l:List ι) (g g':ι->Rw),(∀i∈l,∀j,j<n->g i j=g' i j)->D n (l.map g)=D n (l.map g')
 |0,_,_,_,_=>rfl
 |n+1,l,g,g',h=>by rw[cJ,cJ];refine mv (S:=λi=>∀j,j<n+1->g i j=g' i j) (λi hi=>hi 0 (by omega)) (λm hm=>?_) l [] (λ_ h=>nomatch h) h;exact jT n m (λi=>tl (g i)) (λi=>tl (g' i)) λi hi j hj=>hm i hi (j+1) (by omega)
noncomputable def rc(k:Nat)(c:Int)(r:Rw):Rw:=λj=>if j=k then c else r j
theorem oX(k:Nat)(c:Int)(r:Rw):tl (rc (k+1) c r)=rc k c (tl r):=by
 funext j
 show(if j+1=k+1 then c else r (j+1))=if j=k then c else r (j+1)
 by_cases h:j=k
 ·rw[if_pos h,if_pos (by omega)]
 ·rw[if_neg h,if_neg (by omega)]
theorem oW(c:Int)(r:Rw):tl (rc 0 c r)=tl r:=by
 funext j
 show(if j+1=0 then c else r (j+1))=r (j+1);rw[if_neg (by omega)]
theorem jU:∀(k n:Nat) (l:List ι) (g:ι->Rw) (c d:ι->Int) (x y:Int),k<n->D n (l.map λi=>rc k (x*c i+y*d i) (g i))=x*D n (l.map λi=>rc k (c i) (g i))+y*D n (l.map λi=>rc k (d i) (g i))
 |_,0,_,_,_,_,_,_,h=>by omega
 |0,n+1,l,g,c,d,x,y,_=>by
  rw[cJ,cJ,cJ];simp only[oW];have e:∀c:ι->Int,(λi=>rc 0 (c i) (g i) 0)=c:=λc=>by funext i;rfl
  rw[e (λi=>x*c i+y*d i),e c,e d];exact mr x y c d _ l []
 |k+1,n+1,l,g,c,d,x,y,h=>by
  rw[cJ,cJ,cJ];simp only[oX];have e:∀c:ι->Int,(λi=>rc (k+1) (c i) (g i) 0)=λi=>g i 0:=λc=>by funext i;show(if 0=k+1 then _ else _)=_;rw[if_neg (by omega)]
  rw[e (λi=>x*c i+y*d i),e c,e d];exact mt x y _ _ _ _ (λm=>jU k n m (λi=>tl (g i)) c d x y (by omega)) l []
theorem vw{n:Nat}{rows:List Rw}(hn:rows.length=n)(h2:2<=n)(h:∀r∈rows,r 1=r 0):D n rows=0:=by
 by_cases hz:∀r∈rows,r 0=0
 ·obtain⟨m,rfl⟩:∃m,n=m+1:=⟨n-1,by omega⟩;exact e7 hz
 ·obtain⟨hd,hmem,hne⟩:∃r,r∈rows/\r 0≠0:=by refine Classical.byContradiction λz=>hz λr hr=>Classical.byContradiction λz2=>z ⟨r,hr,z2⟩
  obtain⟨pre,post,rfl⟩:=List.append_of_mem hmem;rw[wF,wI]at hn;have e:=gm (n:=n) (h:=hd) (post:=post) pre [] (by rw[xp];omega);rw[wS,wS,xc]at e;rw[e]
  have hR:∀r∈pre++post,r 1=r 0:=λr hr=>h r (by
   rcases wQ.mp hr with z |z
   ·exact xX _ z
   ·exact xi _ (wP _ z))
  have hd1:=h hd (by simp);have hl:(pre++post).length+1=n:=by rw[wF];omega
  generalize pre++post=R at hR hl
  obtain⟨m,hm⟩:∃m,R.length=m+1:=⟨R.length-1,by omega⟩;have c:=jV (n:=n) (h:=hd) R [] (by rw[xp];omega);rw[wS,wS]at c
  have z:D n (hd::R.map λr=>cmb (hd 0) r (-(r 0)) hd)=0:=by
   obtain⟨n',rfl⟩:∃n',n=n'+2:=⟨n-2,by omega⟩
   rw[jS (λx hx=>by
    obtain⟨r,_,rfl⟩:=wJ.mp hx;show hd 0*r 0 + -(r 0)*hd 0=0
    grind)]
   rw[e7 (λx hx=>by
    obtain⟨y,hy,rfl⟩:=wJ.mp hx;obtain⟨r,hr,rfl⟩:=wJ.mp hy;show hd 0*r 1 + -(r 0)*hd 1=0;rw[hR r hr,hd1]
    grind),w9]
  rw[z]at c;rcases Int.mul_eq_zero.mp c.symm with z1 |z1
  ·exact absurd z1 (xS hne)
  ·rw[z1,w9]
theorem jd{f:List Rw->Int}{S:Rw->Prop}:∀(rows pre:List Rw),(∀r∈pre,S r)->(∀r∈rows,S r)->(∀m:List Rw,m.length+1=pre.length+rows.length->(∀r∈m,S r)->f m=0)->lap f pre rows=0
 | [],_,_,_,_=>rfl
 |r::rs,pre,h1,h2,h3=>by
  show r 0*f (pre++rs)-lap f (pre++[r]) rs=0
  rw[h3 (pre++rs) (by rw[wF,wI];omega) (λx hx=>(wQ.mp hx).elim (h1 x) λz=>h2 x (wP _ z)),
   jd rs (pre++[r]) (λx hx=>(wQ.mp hx).elim (h1 x) λz=>by rw[w5.mp z];exact h2 r (wT ..)) (λx hx=>h2 x (wP _ hx)) (λm hm=>h3 m (by rw[wF]at hm;rw[wI];have:([r]:List Rw).length=1:=rfl;omega))]
  simp
theorem ox:∀(k n:Nat) (rows:List Rw),rows.length=n->k+2<=n->(∀r∈rows,r (k+1)=r k)->D n rows=0
 |0,n,rows,hl,hn,h=>vw hl hn h
 |k+1,0,rows,hl,hn,h=>by omega
 |k+1,n+1,rows,hl,hn,h=>by
  refine jd (S:=λr=>r (k+2)=r (k+1)) rows [] (λ_ z=>nomatch z) h (λm hm hS=>?_)
  exact ox k n (m.map tl) (by rw[wE];rw[xp]at hm;omega) (by omega) (λr hr=>by
   obtain⟨x,hx,rfl⟩:=wJ.mp hr
   exact hS x hx)
noncomputable def tm2(a b:Int)(r:Rw):Rw:=λj=>b*r j-(if j=0 then 0 else a*r (j-1))
noncomputable def tp(a b:Int)(k:Nat)(r:Rw):Rw:=λj=>if k<=j then tm2 a b r j else r j
theorem oq{a b:Int}{n:Nat}{rows:List Rw}(hl:rows.length=n):∀d k,k+d=n->D n (rows.map (tp a b k))=b^d*D n rows
 |0,k,hk=>by
  have e:D n (rows.map (tp a b k))=D n (rows.map id):=jT n rows _ _ λi _ j hj=>by show(if k<=j then _ else i j)=i j;rw[if_neg (by omega)]
  rw[e,List.map_id];simp
 |d+1,k,hk=>by
  have ih:=oq (a:=a) (b:=b) hl d (k+1) (by omega)
  have e1:∀r:Rw,tp a b k r=rc k (b*r k+(-1)*(if k=0 then 0 else a*r (k-1))) (tp a b (k+1) r):=λr=>by
   funext j
   show(if k<=j then b*r j-(if j=0 then 0 else a*r (j-1))else r j)=if j=k then _ else(if k+1<=j then b*r j-(if j=0 then 0 else a*r (j-1))else r j)
   by_cases h:j=k
   ·subst h;rw[if_pos (wG _),if_pos rfl];omega
   ·by_cases h2:k<=j
    ·have h3:k+1<=j:=by omega
     rw[if_pos h2,if_neg h,if_pos h3]
    ·have h3:¬k+1<=j:=by omega
     rw[if_neg h2,if_neg h,if_neg h3]
  have e2:rows.map (tp a b k)=rows.map λr=>rc k (b*r k+(-1)*(if k=0 then 0 else a*r (k-1))) (tp a b (k+1) r):=wR λr _=>e1 r
  rw[e2,jU k n rows (tp a b (k+1)) (λr=>r k) (λr=>if k=0 then 0 else a*r (k-1)) b (-1) (by omega)]
  have e3:(rows.map λr=>rc k (r k) (tp a b (k+1) r))=rows.map (tp a b (k+1)):=wR λr _=>by
   funext j
   show(if j=k then r k else tp a b (k+1) r j)=_;by_cases h:j=k
   ·subst h;rw[if_pos rfl];show r j=if j+1<=j then _ else r j
    rw[if_neg (by omega)]
   ·rw[if_neg h]
  have e4:D n (rows.map λr=>rc k (if k=0 then 0 else a*r (k-1)) (tp a b (k+1) r))=0:=by
   by_cases hk0:k=0
   ·subst hk0;obtain⟨n',rfl⟩:∃n',n=n'+1:=⟨n-1,by omega⟩
    exact e7 λx hx=>by obtain⟨r,_,rfl⟩:=wJ.mp hx;rfl
   ·have e5:=jU k n rows (tp a b (k+1)) (λr=>r (k-1)) (λ_=>0) a 0 (by omega);have e6:(rows.map λr=>rc k (if k=0 then 0 else a*r (k-1)) (tp a b (k+1) r))=rows.map λr=>rc k (a*r (k-1)+0*0) (tp a b (k+1) r):=wR λr _=>by rw[if_neg hk0];simp
    rw[e6,e5,ox (k-1) n _ (by rw[wE];exact hl) (by omega) (λx hx=>by
     obtain⟨r,_,rfl⟩:=wJ.mp hx;have hk1:k-1+1=k:=by omega
     show(if k-1+1=k then r (k-1)else _)=(if k-1=k then _ else(if k+1<=k-1 then _ else r (k-1)))
     rw[if_pos hk1,if_neg (by omega),if_neg (by omega)])]
    simp
  rw[e3,e4,ih,wM];grind
theorem vp{a b:Int}{n:Nat}{rows:List Rw}(hl:rows.length=n):D n (rows.map (tm2 a b))=b^n*D n rows:=by
 have:=oq (a:=a) (b:=b) hl n 0 (by omega)
 have e:rows.map (tp a b 0)=rows.map (tm2 a b):=wR λr _=>by
  funext j
  show(if 0<=j then _ else _)=_;rw[if_pos (wL _)]
 rw[e]at this;exact this
theorem ol:∀(n:Nat) (rows:List Rw),rows.length=n+1->(∀r∈rows,r n=0)->D (n+1) rows=0
 |0,rows,_,h=>e7 h
 |n+1,rows,hl,h=>by
  refine jd (S:=λr=>r (n+1)=0) rows [] (λ_ z=>nomatch z) h (λm hm hS=>?_)
  exact ol n (m.map tl) (by rw[wE];rw[xp]at hm;omega) (λr hr=>by
   obtain⟨x,hx,rfl⟩:=wJ.mp hr
   exact hS x hx)
theorem ow:∀(n:Nat) (rows:List Rw) (u:Rw),rows.length=n->(∀r∈rows,r n=0)->D (n+1) (rows++[u])=u n*D n rows
 |0,rows,u,hl,_=>by obtain rfl:=xl.mp hl;show u 0*1-0=u 0*1;omega
 |n+1,rows,u,hl,h=>by
  have A:∀(rs pre:List Rw),pre.length+rs.length=n+1->(∀r∈pre,r (n+1)=0)->(∀r∈rs,r (n+1)=0)->lap (λm=>D (n+1) (m.map tl)) pre (rs++[u])=u (n+1)*lap (λm=>D n (m.map tl)) pre rs:=by
   intro rs
   induction rs with
   |nil =>
    intro pre hl' hp _;show u 0*D (n+1) ((pre++[]).map tl)-0=u (n+1)*0
    rw[List.append_nil,ol n _ (by rw[wE];simpa using hl') (λr hr=>by
     obtain⟨x,hx,rfl⟩:=wJ.mp hr
     exact hp x hx)]
    simp
   |cons x xs ih =>
    intro pre hl' hp hr;rw[wI]at hl';have h1:=ih (pre++[x]) (by rw[wF];show pre.length+1+xs.length=n+1;omega) (λr hr'=>(wQ.mp hr').elim (hp r) λz=>by rw[w5.mp z];exact hr x (wT ..)) (λr hr'=>hr r (wP _ hr'))
    have h2:=ow n ((pre++xs).map tl) (tl u) (by rw[wE,wF];omega) (λr hr'=>by
     obtain⟨y,hy,rfl⟩:=wJ.mp hr';rcases wQ.mp hy with z |z
     ·exact hp y z
     ·exact hr y (wP _ z))
    show x 0*D (n+1) ((pre++(xs++[u])).map tl)-lap _ (pre++[x]) (xs++[u])=u (n+1)*(x 0*D n ((pre++xs).map tl)-lap _ (pre++[x]) xs);rw[h1,<- w4,wH,w6,xF,h2];show x 0*(u (n+1)*_)-_=_;grind
  exact A rows [] (by simpa using hl) (λ_ z=>nomatch z) h
noncomputable def shr(k:Nat)(f:Rw):Rw:=λj=>if j<k then 0 else f (j-k)
noncomputable def aJ(f:Rw)(n:Nat):List Rw:=(List.range n).map λk=>shr k f
noncomputable def syl(f g:Rw)(n m:Nat):List Rw:=aJ f n++aJ g m
theorem b5(f:Rw)(n:Nat):(aJ f n).length=n:=by unfold aJ;simp
theorem oV(a b:Int)(k:Nat)(f:Rw):tm2 a b (shr k f)=shr k (tm2 a b f):=by
 funext j
 show b*(if j<k then 0 else f (j-k))-(if j=0 then 0 else a*(if j-1<k then 0 else f (j-1-k)))=if j<k then 0 else b*f (j-k)-(if j-k=0 then 0 else a*f (j-k-1))
 by_cases h:j<k
 ·rw[if_pos h,if_pos h,if_pos (show j-1<k by omega)];split<;>simp
 ·rw[if_neg h,if_neg h];by_cases h0:j=0
  ·rw[if_pos h0,if_pos (show j-k=0 by omega)]
  ·rw[if_neg h0];by_cases h1:j-k=0
   ·rw[if_pos h1,if_pos (show j-1<k by omega),w9]
   ·rw[if_neg h1,if_neg (show ¬j-1<k by omega)];have:j-1-k=j-k-1:=by omega
    rw[this]
theorem ux(a b:Int)(k:Nat)(f:Rw):cmb b (shr k f) (-a) (shr (k+1) f)=tm2 a b (shr k f):=by
 funext j
 show b*(if j<k then 0 else f (j-k)) + -a*(if j<k+1 then 0 else f (j-(k+1)))=b*(if j<k then 0 else f (j-k))-(if j=0 then 0 else a*(if j-1<k then 0 else f (j-1-k)));by_cases h0:j=0
 ·subst h0;rw[if_pos (show 0<k+1 by omega),if_pos rfl];omega
 ·rw[if_neg h0];by_cases h:j<k+1
  ·rw[if_pos h,if_pos (show j-1<k by omega)];omega
  ·rw[if_neg h,if_neg (show ¬j-1<k by omega)];have:j-1-k=j-(k+1):=by omega
   rw[this];grind
noncomputable def trr(a b:Int):Rw->List Rw->List Rw
 |x,[]=>[x]
 |x,y::l=>cmb b x (-a) y::trr a b y l
theorem om{a b:Int}{n:Nat}:∀(l:List Rw) (x:Rw) (A:List Rw),A.length+1+l.length=n->D n (A++trr a b x l)=b^l.length*D n (A++x::l)
 | [],x,A,_=>by show D n (A++[x])=_;simp
 |y::l,x,A,h=>by rw[wI]at h;have ih:=om (a:=a) (b:=b) (n:=n) l y (A++[cmb b x (-a) y]) (by rw[wF];show A.length+1+1+l.length=n;omega);simp only[w4,xc,wS]at ih;show D n (A++cmb b x (-a) y::trr a b y l)=_;rw[ih,cQ n A (y::l) x y b (-a) (by rw[wI];omega),du n A l y (by omega),wI,wM];grind
theorem j4(a b:Int)(f:Rw):∀(m i:Nat),trr a b (shr i f) ((List.range' (i+1) m).map λk=>shr k f)=(List.range' i m).map (λk=>tm2 a b (shr k f))++[shr (i+m) f]
 |0,i=>rfl
 |m+1,i=>by
  have ih:=j4 a b f m (i+1);show trr a b (shr i f) (shr (i+1) f::(List.range' (i+1+1) m).map λk=>shr k f)=tm2 a b (shr i f)::(List.range' (i+1) m).map (λk=>tm2 a b (shr k f))++[shr (i+(m+1)) f];show cmb b (shr i f) (-a) (shr (i+1) f)::trr a b (shr (i+1) f) ((List.range' (i+1+1) m).map λk=>shr k f)=_;rw[ux,ih];have:i+1+m=i+(m+1):=by omega
  rw[this];rfl
noncomputable def wj(a b:Int)(h:Rw):Nat->Int
 |0=>h 0
 |j+1=>wj a b h j*a+h (j+1)*b^(j+1)
theorem oy(a b:Int)(f:Rw)(m:Nat):(∀j,j<m->wj a b (shr m f) j=0)/\∀t,wj a b (shr m f) (m+t)=b^m*wj a b f t:=by
 have z:∀j,j<m->wj a b (shr m f) j=0:=by
  intro j
  induction j with
  |zero=>intro h;show(if 0<m then 0 else f (0-m))=0;rw[if_pos h]
  |succ j ih =>intro h;show wj a b (shr m f) j*a+(if j+1<m then 0 else f (j+1-m))*b^(j+1)=0;rw[ih (by omega),if_pos h];simp
 refine⟨z,λt=>?_⟩
 induction t with
 |zero =>
  cases m with
  |zero=>show(if 0<0 then 0 else f (0-0))=b^0*f 0;simp
  |succ m =>show wj a b (shr (m+1) f) m*a+(if m+1<m+1 then 0 else f (m+1-(m+1)))*b^(m+1)=b^(m+1)*f 0;rw[z m (by omega),if_neg (by omega),xx];grind
 |succ t ih =>
  show wj a b (shr m f) (m+t)*a+(if m+t+1<m then 0 else f (m+t+1-m))*b^(m+t+1)=b^m*(wj a b f t*a+f (t+1)*b^(t+1));rw[ih,if_neg (by omega)];have e1:m+t+1-m=t+1:=by omega
  have e2:m+t+1=m+(t+1):=by omega
  rw[e1,e2,Int.pow_add];grind
theorem vo{a b:Int}(hb:b≠0){N:Nat}{G:List Rw}{h:Rw}(hl:G.length=N)(hz:∀r∈G,r N=0):D (N+1) (G.map (tm2 a b)++[h])=wj a b h N*D N G:=by
 have hp:b^(N+1)≠0:=xS hb;refine xZ hp ?_;have e1:=cQ (N+1) (G.map (tm2 a b)) [] h h (b^(N+1)) 0 (by rw[wE,xp];omega);rw[Int.zero_mul,xk]at e1;rw[<- e1]
 let κ:Rw:=λj=>b^(N-j)*wj a b h j
 have hk:∀j,j<N+1->cmb (b^(N+1)) h 0 h j=tm2 a b κ j:=by
  intro j hj;show b^(N+1)*h j+0*h j=b*(b^(N-j)*wj a b h j)-(if j=0 then 0 else a*(b^(N-(j-1))*wj a b h (j-1)));cases j with
  |zero =>rw[if_pos rfl,xy,wM];show _=b*(b^N*h 0)-0;grind
  |succ j =>
   rw[if_neg (by omega)];show _=b*(b^(N-(j+1))*(wj a b h j*a+h (j+1)*b^(j+1)))-a*(b^(N-j)*wj a b h j);have e:N-j=N-(j+1)+1:=by omega
   have e2:N+1=(N-(j+1))+(j+1)+1:=by omega
   have e3:b^(N+1)=b^(N-(j+1))*b^(j+1)*b:=by
    calc b^(N+1)=b^((N-(j+1))+(j+1)+1):=by rw[<- e2]
     _=_:=by rw[wM,Int.pow_add]
   rw[e3,e,wM b (N-(j+1))];generalize b^(N-(j+1))=x;generalize b^(j+1)=y;grind
 have e2:D (N+1) (G.map (tm2 a b)++[cmb (b^(N+1)) h 0 h])=D (N+1) ((G++[κ]).map (tm2 a b)):=by
  rw[wH,w6,xF]
  have:=jT (N+1) ((G.map λg=>(tm2 a b g,tm2 a b g))++[(cmb (b^(N+1)) h 0 h,tm2 a b κ)]) Prod.fst Prod.snd (λi hi j hj=>by
   rcases wQ.mp hi with z |z
   ·obtain⟨g,_,rfl⟩:=wJ.mp z;rfl
   ·rw[w5.mp z]
    exact hk j hj)
  rw[wH,wH,wO,wO]at this;exact this
 have hkN:κ N=wj a b h N:=by show b^(N-N)*_=_;rw[xx];simp
 rw[e2,vp (by rw[wF,hl];rfl),ow N G κ hl hz,hkN]
theorem qc{a b:Int}(hb:b≠0){n m:Nat}{f g:Rw}(hf:∀j,m<j->f j=0)(hg:∀j,n<j->g j=0):D (n+(m+1)) (syl (tm2 a b f) g n (m+1))=wj a b g n*D (n+m) (syl f g n m):=by
 have hp:b^m≠0:=xS hb;refine xZ hp ?_
 have er:aJ g (m+1)=shr 0 g::(List.range' 1 m).map λk=>shr k g:=by unfold aJ;rw[List.range_eq_range',List.range'_succ,w6]
 have e1:=om (a:=a) (b:=b) (n:=n+(m+1)) ((List.range' 1 m).map λk=>shr k g) (shr 0 g) (aJ (tm2 a b f) n) (by rw[b5,wE,List.length_range'];omega);rw[wE,List.length_range',<- er]at e1;have e2:=j4 a b g m 0;rw[Nat.zero_add,Nat.zero_add]at e2;unfold syl;rw[<- e1,e2]
 have e3:aJ (tm2 a b f) n++((List.range' 0 m).map (λk=>tm2 a b (shr k g))++[shr m g])=(aJ f n++aJ g m).map (tm2 a b)++[shr m g]:=by
  rw[<- w4,wH]
  congr 2
  ·unfold aJ;rw[wO];exact wR λk _=>(oV a b k f).symm
  ·unfold aJ;rw[wO,List.range_eq_range'];rfl
 rw[e3];have hN:n+(m+1)=n+m+1:=by omega
 rw[hN,vo hb (by rw[wF,b5,b5]) (λr hr=>by
  rcases wQ.mp hr with z |z
  ·obtain⟨k,hk,rfl⟩:=wJ.mp z;have:=xa.mp hk;show(if n+m<k then 0 else f (n+m-k))=0;rw[if_neg (by omega)];exact hf _ (by omega)
  ·obtain⟨k,hk,rfl⟩:=wJ.mp z;have:=xa.mp hk;show(if n+m<k then 0 else g (n+m-k))=0
   rw[if_neg (by omega)];exact hg _ (by omega))]
 have e4:=(oy a b g m).2 n;have e5:m+n=n+m:=Nat.add_comm _ _;rw[e5]at e4;rw[e4];grind
theorem qd{c:Int}{n:Nat}{f g:Rw}(hf0:f 0=c)(hf:∀j,0<j->f j=0):D (n+0) (syl f g n 0)=c^n:=by
 have e:syl f g n 0=aJ f n:=by unfold syl aJ;simp
 rw[e]
 have e1:=oo (aJ f n) 0 (λi r hr j hj=>by
  unfold aJ at hr
  rw[List.getElem?_map]at hr;by_cases hi:i<n
  ·rw[List.getElem?_range hi]at hr;obtain rfl:=Option.some.inj hr;show(if j+0<i then 0 else f (j+0-i))=0;rw[if_pos (by omega)]
  ·rw[List.getElem?_eq_none_iff.mpr (by simp;omega)]at hr
   cases hr)
 have e2:(aJ f n).map (sh 0)=aJ f n:=by
  have:(aJ f n).map (sh 0)=(aJ f n).map id:=wR λx _=>rfl
  rw[this,List.map_id]
 rw[e2,b5]at e1
 have e3:∀m k,dp k ((List.range' k m).map λk=>shr k f)=c^m:=by
  intro m
  induction m with
  |zero=>intro k;show(1:Int)=c^0;simp
  |succ m ih =>
   intro k;rw[List.range'_succ,w6];show shr k f k*dp (k+1) _=_;rw[ih (k+1)];have:shr k f k=c:=by show(if k<k then 0 else f (k-k))=c;rw[if_neg (by omega),xx,hf0]
   rw[this,wM,xB]
 rw[Nat.add_zero,e1];unfold aJ;rw[List.range_eq_range'];exact e3 n 0
theorem bG(l:List Int)(j:Nat):cf l.reverse j=if j<l.length then cf l (l.length-1-j)else 0:=by
 by_cases h:j<l.length
 ·rw[if_pos h,aC (by rw[wW];exact h),List.getElem_reverse,aC (by omega)]
 ·rw[if_neg h,ay (by rw[wW];omega)]
theorem j8{a b:Int}{l:List Int}(hl:l≠[]):tm2 a b (cf l.reverse)=cf (ae l [-a,b]).reverse:=by
 have hp:=wK.mpr hl
 funext j
 rw[bG,dR hl,dh];show b*cf l.reverse j-(if j=0 then 0 else a*cf l.reverse (j-1))=_;rw[bG,bG];by_cases h:j<l.length+1
 ·rw[if_pos h,gi];by_cases h0:j=0
  ·subst h0;rw[if_pos rfl,if_pos hp,if_neg (show ¬l.length+1-1-0=0 by omega),ay (l:=l) (k:=l.length+1-1-0) (by omega)];have:l.length+1-1-0-1=l.length-1-0:=by omega
   rw[this];omega
  ·rw[if_neg h0,if_pos (show j-1<l.length by omega)];have e1:l.length-1-(j-1)=l.length+1-1-j:=by omega
   rw[e1];by_cases h1:j<l.length
   ·rw[if_pos h1,if_neg (show ¬l.length+1-1-j=0 by omega)];have e2:l.length+1-1-j-1=l.length-1-j:=by omega
    rw[e2];grind
   ·rw[if_neg h1,if_pos (show l.length+1-1-j=0 by omega)];grind
 ·rw[if_neg h,if_neg (show ¬j<l.length by omega),if_neg (show ¬j=0 by omega),if_neg (show ¬j-1<l.length by omega)];simp
theorem uA(k t:Nat)(l:List Int):cf (List.replicate k 0++l++List.replicate t 0)=shr k (cf l):=by
 funext j
 show _=if j<k then 0 else cf l (j-k)
 rw[w4];by_cases h:j<k
 ·rw[if_pos h,cO (by rw[w8];exact h),eH]
 ·rw[if_neg h,cZ (by rw[w8];omega),w8];by_cases h2:j-k<l.length
  ·rw[cO h2]
  ·rw[cZ (by omega),eH,ay (by omega)]
noncomputable def az(l:List Int)(n:Nat):List (List Int):=(List.range n).map λk=>List.replicate k 0++l.reverse++List.replicate (n-1-k) 0
theorem kO(l:List Int)(n:Nat):(az l n).map cf=aJ (cf l.reverse) n:=by unfold az aJ;rw[wO];exact wR λk _=>uA k _ _
noncomputable def au(p q:List Int):Int:=D (q.length-1+(p.length-1)) (syl (cf p.reverse) (cf q.reverse) (q.length-1) (p.length-1))
theorem ig{l:List Int}(j:Nat)(h:l.length-1<j):cf l.reverse j=0:=by rw[bG,if_neg (by omega)]
theorem qe{a b:Int}(hb:b≠0){p q:List Int}(hp:p≠[]):au (ae p [-a,b]) q=wj a b (cf q.reverse) (q.length-1)*au p q:=by
 have hl:=iX (a:=a) (b:=b) p;rw[if_neg hp]at hl;have hpl:=wK.mpr hp;unfold au;rw[hl,<- j8 hp];obtain⟨m,hm⟩:∃m,p.length=m+1:=⟨p.length-1,by omega⟩;have e1:p.length+1-1=m+1:=by omega
 have e2:p.length-1=m:=by omega
 rw[e1,e2];exact qc hb (λj hj=>ig j (by omega)) (λj hj=>ig j hj)
theorem qf(c:Int)(q:List Int):au [c] q=c^(q.length-1):=by unfold au;exact qd (f:=cf [c].reverse) rfl (λj hj=>ig j (by simpa using hj))
structure AltF(n:Nat)(F:List Rw->Int):Prop where
 lin:∀(pre post:List Rw) (r s:Rw) (a b:Int),pre.length+1+post.length=n->F (pre++cmb a r b s::post)=a*F (pre++r::post)+b*F (pre++s::post)
 alt:∀(pre post:List Rw) (r:Rw),pre.length+2+post.length=n->F (pre++r::r::post)=0
theorem AltF.swap{n:Nat}{F:List Rw->Int}(hF:AltF n F){pre post:List Rw}{r s:Rw}(h:pre.length+2+post.length=n):F (pre++r::s::post) =-F (pre++s::r::post):=by have e0:=hF.alt pre post (cmb 1 r 1 s) h;rw[hF.lin pre (cmb 1 r 1 s::post) r s 1 1 (by rw[wI];omega)]at e0;have e1:=hF.lin (pre++[r]) post r s 1 1 (by rw[wF];show pre.length+1+1+post.length=n;omega);have e2:=hF.lin (pre++[s]) post r s 1 1 (by rw[wF];show pre.length+1+1+post.length=n;omega);simp only[w4,xc,wS]at e1 e2;have e3:=hF.alt pre post r h;have e4:=hF.alt pre post s h;rw[e1,e2,e3,e4]at e0;omega
theorem AltF.move{n:Nat}{F:List Rw->Int}(hF:AltF n F){h:Rw}{post:List Rw}:∀(pre q:List Rw),q.length+pre.length+1+post.length=n->F (q++pre++h::post)=(-1)^pre.length*F (q++h::pre++post)
 | [],q,_=>by simp
 |x::pre,q,hl=>by rw[wI]at hl;have ih:=hF.move (h:=h) (post:=post) pre (q++[x]) (by rw[wF];show q.length+1+pre.length+1+post.length=n;omega);have e:=hF.swap (pre:=q) (post:=pre++post) (r:=x) (s:=h) (by rw[wF];omega);simp only[w4,xc,wS]at ih e ⊢;rw[ih,e,wI,wM];grind
theorem AltF.dup{n:Nat}{F:List Rw->Int}(hF:AltF n F){h:Rw}{q pre post:List Rw}(hl:q.length+pre.length+2+post.length=n):F (q++h::pre++h::post)=0:=by have e:=hF.move (h:=h) (post:=post) pre (q++[h]) (by rw[wF];show q.length+1+pre.length+1+post.length=n;omega);have e2:=hF.alt q (pre++post) h (by rw[wF];omega);simp only[w4,xc,wS]at e e2 ⊢;rw[e,e2,w9]
theorem AltF.clear{n:Nat}{F:List Rw->Int}(hF:AltF n F){h:Rw}{c:Int}{d:Rw->Int}:∀(R q:List Rw),1+q.length+R.length=n->F (h::(q++R.map λr=>cmb c r (-(d r)) h))=c^R.length*F (h::(q++R))
 | [],q,_=>by simp
 |r::R,q,hl=>by rw[wI]at hl;have e:=hF.lin (h::q) (R.map λr=>cmb c r (-(d r)) h) r h c (-(d r)) (by rw[wE,wI];omega);have e2:=hF.dup (h:=h) (q:=[]) (pre:=q) (post:=R.map λr=>cmb c r (-(d r)) h) (by rw[wE,xp];omega);have ih:=hF.clear (h:=h) (c:=c) (d:=d) R (q++[r]) (by rw[wF];show 1+(q.length+1)+R.length=n;omega);simp only[w4,xc,wS]at e e2 ih ⊢;rw[w6,e,e2,ih,wI,wM];grind
theorem AltF.cons{n:Nat}{F:List Rw->Int}(hF:AltF (n+1) F)(h:Rw):AltF n (λR=>F (h::R)) :=
 ⟨λpre post r s a b hl=>hF.lin (h::pre) post r s a b (by rw[wI];omega),λpre post r hl=>hF.alt (h::pre) post r (by rw[wI];omega)⟩
theorem AltF.zero{n:Nat}{F:List Rw->Int}(hF:AltF n F){pre post:List Rw}{z:Rw}(hl:pre.length+1+post.length=n)(hz:∀j,z j=0):F (pre++z::post)=0:=by
 have e:=hF.lin pre post z z 0 0 hl;have e2:cmb 0 z 0 z=z:=by funext j;show 0*z j+0*z j=z j;rw[hz j];simp
 rw[e2]at e;omega
noncomputable def oF(k:Nat):Rw:=λj=>if j=k then 1 else 0
noncomputable def units:Nat->Nat->List Rw
 |_,0=>[]
 |k,n+1=>oF k::units (k+1) n
noncomputable def bb:Nat->Nat->Nat
 |0=>λ_=>1
 |t+1=>λi=>Nat.rec 1 (λi r=>bb t (i+1)+r) i
theorem n4(i:Nat):bb 0 i=1:=rfl
theorem uL(t:Nat):bb t 1=t+1:=by
 induction t with
 |zero=>rfl
 |succ t ih=>show bb t 1+bb (t+1) 0=_;rw[ih];rfl
theorem uK(i:Nat):bb 1 i=i+1:=by
 induction i with
 |zero=>rfl
 |succ i ih=>show bb 0 (i+1)+bb 1 i=_;rw[ih];show 1+_=_;omega
theorem jG:∀(t i:Nat),(t+1)*bb (t+1) i=(i+1)*bb t (i+1)
 |t,0=>by rw[uL];show(t+1)*1=1*(t+1);omega
 |0,i+1=>by rw[uK,n4];omega
 |t+1,i+1=>by have h1:=jG (t+1) i;have h2:=jG t (i+1);show(t+1+1)*(bb (t+1) (i+1)+bb (t+2) i)=(i+1+1)*(bb t (i+2)+bb (t+1) (i+1));rw[Nat.mul_add,Nat.mul_add,h1,<- h2];grind
noncomputable def ff:Nat->Int->Int
 |0,_=>1
 |t+1,x=>ff t x*(x-t)
theorem mZ(x:Int):∀t,ff (t+1) (x+1)=(x+1)*ff t x
 |0=>by show 1*(x+1-(0:Nat))=(x+1)*1;simp
 |t+1=>by
  have ih:=mZ x t;show ff (t+1) (x+1)*(x+1-((t+1:Nat):Int))=(x+1)*(ff t x*(x-t));rw[ih];have:x+1-((t+1:Nat):Int)=x-t:=by omega
  rw[this];grind
theorem ud(x:Int)(t:Nat):ff (t+1) (x+1)-ff (t+1) x=(t+1:Nat)*ff t x:=by
 rw[mZ];show(x+1)*ff t x-ff t x*(x-t)=_;have:((t+1:Nat):Int)=t+1:=by omega
 rw[this];grind
theorem mY:∀t,ff (t+1) 0=0
 |0=>rfl
 |t+1=>by show ff (t+1) 0*_=0;rw[mY t,Int.zero_mul]
noncomputable def SF(t:Nat)(x:Int):List Int->Int
 | []=>0
 |c::cs=>c*ff t x+SF (t+1) x cs
noncomputable def dI(i t:Nat):List Int->List Int
 | []=>[]
 |c::cs=>c*(bb t i:Nat)::dI i (t+1) cs
theorem oa(t:Nat):∀cs,SF (t+1) 0 cs=0
 | []=>rfl
 |c::cs=>by show c*ff (t+1) 0+SF (t+1+1) 0 cs=0;rw[mY,oa (t+1) cs];simp
theorem oe(i:Nat)(x:Int):∀(cs:List Int) (t:Nat),SF (t+1) (x+1) (dI i (t+1) cs)-SF (t+1) x (dI i (t+1) cs)=(i+1:Nat)*SF t x (dI (i+1) t cs)
 | [],t=>by show(0:Int)-0=_*0;simp
 |c::cs,t=>by
  have ih:=oe i x cs (t+1);show c*(bb (t+1) i:Nat)*ff (t+1) (x+1)+SF (t+1+1) (x+1) (dI i (t+1+1) cs)-(c*(bb (t+1) i:Nat)*ff (t+1) x+SF (t+1+1) x (dI i (t+1+1) cs))=(i+1:Nat)*(c*(bb t (i+1):Nat)*ff t x+SF (t+1) x (dI (i+1) (t+1) cs));have h1:=ud x t
  have h2:((t+1:Nat):Int)*(bb (t+1) i:Nat)=((i+1:Nat):Int)*(bb t (i+1):Nat):=by
   have:=jG t i
   exact_mod_cast this
  rw[Int.mul_add,<- ih];generalize ((bb (t+1) i:Nat):Int)=u at *
  generalize ((bb t (i+1):Nat):Int)=v at *
  generalize ((t+1:Nat):Int)=p at *
  generalize ((i+1:Nat):Int)=q at *
  have h3:c*u*(ff (t+1) (x+1)-ff (t+1) x)=q*(c*v*ff t x):=by
   rw[h1];have:c*u*(p*ff t x)=c*(p*u)*ff t x:=by grind
   rw[this,h2];grind
  grind
noncomputable def bN(i:Nat)(left:List Int):List Int:=(List.range (left.length-1)).map λj=>(cf left (j+1)-cf left j)/((i:Nat):Int)
noncomputable def bi(i:Nat)(cs:List Int):List Int:=(List.range cs.length).map λj=>SF 0 (j:Nat) (dI i 0 cs)
theorem oC(i:Nat)(c:Int)(cs:List Int):cf (bi i (c::cs)) 0=c:=by unfold bi;rw[cI,if_pos (by simp)];show c*(bb 0 i:Nat)*1+SF 1 0 (dI i 1 cs)=c;rw[n4,oa];simp
theorem oB(i:Nat)(c:Int)(cs:List Int):bN (i+1) (bi i (c::cs))=bi (i+1) cs:=by
 unfold bN;have hl:(bi i (c::cs)).length=cs.length+1:=by unfold bi;simp
 rw[hl];show(List.range cs.length).map _=(List.range cs.length).map _;refine wR λj hj=>?_
 have hj':=xa.mp hj;unfold bi;rw[cI,cI,if_pos (by simp;omega),if_pos (by simp;omega)];have e:((j+1:Nat):Int)=(j:Int)+1:=by omega
 rw[e];show(c*(bb 0 i:Nat)*1+SF 1 ((j:Int)+1) (dI i 1 cs)-(c*(bb 0 i:Nat)*1+SF 1 (j:Int) (dI i 1 cs)))/((i+1:Nat):Int)=SF 0 (j:Int) (dI (i+1) 0 cs);have h:SF 1 ((j:Int)+1) (dI i 1 cs)-SF 1 (j:Int) (dI i 1 cs)=(i+1:Nat)*SF 0 (j:Int) (dI (i+1) 0 cs):=oe i (j:Int) cs 0
 have h2:c*(bb 0 i:Nat)*1+SF 1 ((j:Int)+1) (dI i 1 cs)-(c*(bb 0 i:Nat)*1+SF 1 (j:Int) (dI i 1 cs))=(i+1:Nat)*SF 0 (j:Int) (dI (i+1) 0 cs):=by rw[<- h];omega
 rw[h2];exact Int.mul_ediv_cancel_left _ (by omega)
noncomputable def bE:Nat->Nat->List Int->List Int
 |0,_,_=>[]
 |n+1,i,left=>cf left 0::bE n (i+1) (bN (i+1) left)
theorem mk:∀(cs:List Int) (i:Nat),bE cs.length i (bi i cs)=cs
 | [],_=>rfl
 |c::cs,i=>by show cf (bi i (c::cs)) 0::bE cs.length (i+1) (bN (i+1) (bi i (c::cs)))=c::cs;rw[oC,oB,mk cs (i+1)]
noncomputable def nc:Nat->Nat->List Int->List Int
 |_,0,_=>[]
 |k,n+1,W=>ev (k:Nat) W::nc (k+1) n (syn (k:Nat) W)
theorem i9:∀(n k:Nat) (W:List Int),(nc k n W).length=n
 |0,_,_=>rfl
 |n+1,k,W=>by show(nc (k+1) n (syn (k:Nat) W)).length+1=n+1;rw[i9 n (k+1)]
theorem lL(x:Int):∀(n k:Nat) (W:List Int),W.length<=n->SF k x (nc k n W)=ff k x*ev x W
 |0,k,W,h=>by obtain rfl:=xl.mp (Nat.le_zero.mp h);show(0:Int)=_*0;simp
 |n+1,k,W,h=>by have hl:=gx (k:Nat) W;have ih:=lL x n (k+1) (syn (k:Nat) W) (by omega);show ev (k:Nat) W*ff k x+SF (k+1) x (nc (k+1) n (syn (k:Nat) W))=ff k x*ev x W;rw[ih,kj (k:Nat) x W];show _+ff k x*(x-k)*ev x (syn (k:Nat) W)=_;grind
theorem uJ(t:Nat):bb t 0=1:=by cases t<;>rfl
theorem nE:∀(cs:List Int) (t:Nat),dI 0 t cs=cs
 | [],_=>rfl
 |c::cs,t=>by show c*(bb t 0:Nat)::dI 0 (t+1) cs=_;rw[uJ,nE cs (t+1)];simp
theorem oD{W:List Int}{n:Nat}(h:W.length<=n):bi 0 (nc 0 n W)=(List.range n).map λj=>ev (j:Nat) W:=by
 unfold bi;rw[i9];refine wR λj _=>?_
 rw[nE,lL _ n 0 W h];show 1*_=_;omega
noncomputable def bz:Nat->List Int->List Int
 |_,[]=>[]
 |k,c::cs=>aS (ae (bz (k+1) cs) [-(k:Nat),1]) (trim [c])
theorem lP(l:List Int)(x y:Int)(n:Nat):aj l [x,y] n=x*cf l n+y*up (cf l) n:=by
 rw[lT,bZ]
 congr 1
 unfold up;by_cases h:n=0
 ·rw[if_pos h,if_pos h];simp
 ·rw[if_neg h,if_neg h,iV]
theorem oE{f g:Nat->Int}(h:∀n,f n=g n)(n:Nat):up f n=up g n:=by unfold up;split;rfl;exact h _
theorem mI:∀(n k:Nat) (W:List Int),W.length<=n->bz k (nc k n W)=trim W
 |0,k,W,h=>by obtain rfl:=xl.mp (Nat.le_zero.mp h);rfl
 |n+1,k,W,h=>by
  have hl:=gx (k:Nat) W;have ih:=mI n (k+1) (syn (k:Nat) W) (by omega);show aS (ae (bz (k+1) (nc (k+1) n (syn (k:Nat) W))) [-(k:Nat),1]) (trim [ev (k:Nat) W])=trim W;rw[ih];refine eD (bX _) (bX _) λm=>?_
  rw[eJ,aW,lP,bC,bC,bC,gy (k:Nat) W m,oE (bC _)]
  have:cf [ev (k:Nat) W] m=if m=0 then ev (k:Nat) W else 0:=by
   cases m with
   |zero=>rfl
   |succ m=>rw[b6,aQ,if_neg (by omega)]
  rw[this];grind
theorem ft{W:List Int}{n:Nat}(h:W.length<=n)(ht:Tr W):bz 0 (bE n 0 ((List.range n).map λj=>ev (j:Nat) W))=W:=by have e:=mk (nc 0 n W) 0;rw[i9,oD h]at e;rw[e,mI n 0 W h,gr ht]
theorem mf(t b v:Int):∀l:List Int,lv t b (l++[v])=lv t b l*b+v*t^l.length
 | []=>by show v*b^0+t*0=0*b+v*t^0;simp
 |x::l=>by show x*b^(l++[v]).length+t*lv t b (l++[v])=(x*b^l.length+t*lv t b l)*b+v*t^(l.length+1);rw[mf t b v l,wF,wM t];show x*b^(l.length+1)+_=_;rw[wM];grind
theorem jZ{a b:Int}{f g:Rw}:∀n,(∀j,j<=n->f j=g j)->wj a b f n=wj a b g n
 |0,h=>h 0 (wG _)
 |n+1,h=>by show wj a b f n*a+f (n+1)*b^(n+1)=wj a b g n*a+g (n+1)*b^(n+1);rw[jZ n λj hj=>h j (by omega),h (n+1) (wG _)]
theorem gp(a b:Int):∀l:List Int,l≠[]->wj a b (cf l.reverse) (l.length-1)=lv a b l
 | [v],_=>by show v=v*b^0+a*0;simp
 |v::x::l,_=>by
  have ih:=gp a b (x::l) (by simp);generalize hA:x::l=A at *
  have hl:1<=A.length:=by rw[<- hA,wI];omega
  obtain⟨n,hn⟩:∃n,A.length=n+1:=⟨A.length-1,by omega⟩;rw[wI,hn];show wj a b (cf (v::A).reverse) n*a+cf (v::A).reverse (n+1)*b^(n+1)=v*b^A.length+a*lv a b A;rw[xP];have e1:wj a b (cf (A.reverse++[v])) n=wj a b (cf A.reverse) n:=jZ n λj hj=>cO (by rw[wW];omega)
  have e2:cf (A.reverse++[v]) (n+1)=v:=by
   have:n+1=A.reverse.length:=by rw[wW,hn]
   rw[this];exact gj _ _
  have e3:A.length-1=n:=by omega
  rw[e3]at ih;rw[e1,e2,ih,hn,xB (lv a b A)];omega
theorem i6(t u a b:Int):∀(c:Int) (l:List Int),lv t u (mb a b c l)=c*u^l.length+(b*t-a*u)*lv t u l
 |c,[]=>by show c*u^0+t*0=c*u^0+(b*t-a*u)*0;simp
 |c,x::l=>by show(-a*x+c)*u^(mb a b (b*x) l).length+t*lv t u (mb a b (b*x) l)=c*u^(l.length+1)+(b*t-a*u)*(x*u^l.length+t*lv t u l);rw[i6 t u a b (b*x) l,dh,wM];generalize u^l.length=p;generalize lv t u l=h;grind
theorem sB(t u a b:Int){l:List Int}(h:l≠[]):lv t u (ae l [-a,b])=(b*t-a*u)*lv t u l:=by rw[dR h,i6];simp
noncomputable def aK(s:Int)(ps:List (Int×Int)):List Int:=ps.foldl (λl p=>ae l [-p.1,p.2]) [s]
theorem pX(s:Int)(ps:List (Int×Int))(p:Int×Int):aK s (ps++[p])=ae (aK s ps) [-p.1,p.2]:=by unfold aK;rw[List.foldl_append];rfl
theorem i8{a b:Int}{l:List Int}(h:l≠[]):(ae l [-a,b]).length=l.length+1:=by rw[iX,if_neg h]
theorem ie:∀(ps:List (Int×Int)) (l:List Int),l≠[]->ps.foldl (λl p=>ae l [-p.1,p.2]) l≠[]/\(ps.foldl (λl p=>ae l [-p.1,p.2]) l).length=l.length+ps.length
 | [],l,h=>⟨h,rfl⟩
 |p::ps,l,h=>by
  have e:=i8 (a:=p.1) (b:=p.2) h;have h':ae l [-p.1,p.2]≠[]:=λz=>by rw[z]at e;simp at e
  obtain⟨a,b⟩:=ie ps (ae l [-p.1,p.2]) h';exact⟨a,by show(ps.foldl (λl p=>ae l [-p.1,p.2]) (ae l [-p.1,p.2])).length=_;rw[b,e,wI];omega⟩
theorem kX(s:Int)(ps:List (Int×Int)):aK s ps≠[]:=(ie ps [s] (by simp)).1
theorem kY(s:Int)(ps:List (Int×Int)):(aK s ps).length=ps.length+1:=by have:=(ie ps [s] (by simp)).2;unfold aK;rw[this,xG];omega
noncomputable def prI(f:Int×Int->Int):List (Int×Int)->Int
 | []=>1
 |p::ps=>f p*prI f ps
theorem da{f g:Int×Int->Int}:∀ps:List (Int×Int),(∀p∈ps,f p=g p)->prI f ps=prI g ps
 | [],_=>rfl
 |p::ps,h=>by show f p*prI f ps=g p*prI g ps;rw[h p (wT ..),da ps λq hq=>h q (wP _ hq)]
theorem li(f:Int×Int->Int):∀a b:List (Int×Int),prI f (a++b)=prI f a*prI f b
 | [],b=>by show prI f b=1*prI f b;omega
 |p::a,b=>by show f p*prI f (a++b)=f p*prI f a*prI f b;rw[li f a b,Int.mul_assoc]
theorem mi(t u:Int):∀(ps:List (Int×Int)) (l:List Int),l≠[]->lv t u (ps.foldl (λl p=>ae l [-p.1,p.2]) l)=lv t u l*prI (λp=>p.2*t-p.1*u) ps
 | [],l,_=>by show _=_*1;rw[xE];rfl
 |p::ps,l,h=>by
  have e:=i8 (a:=p.1) (b:=p.2) h;have h':ae l [-p.1,p.2]≠[]:=λz=>by rw[z]at e;simp at e
  show lv t u (ps.foldl (λl p=>ae l [-p.1,p.2]) (ae l [-p.1,p.2]))=lv t u l*((p.2*t-p.1*u)*prI _ ps);rw[mi t u ps _ h',sB t u p.1 p.2 h];grind
theorem mh(t u s:Int)(ps:List (Int×Int)):lv t u (aK s ps)=s*prI (λp=>p.2*t-p.1*u) ps:=by
 have:=mi t u ps [s] (by simp);unfold aK;rw[this];have e:lv t u [s]=s:=by show s*u^0+t*0=s;simp
 rw[e]
theorem kZ{q:List Int}(hq:q≠[]):∀(ps:List (Int×Int)) (l:List Int),l≠[]->(∀p∈ps,p.2≠0)->au (ps.foldl (λl p=>ae l [-p.1,p.2]) l) q=au l q*prI (λp=>lv p.1 p.2 q) ps
 | [],l,_,_=>by show _=_*1;rw[xE];rfl
 |p::ps,l,h,hp=>by
  have e:=i8 (a:=p.1) (b:=p.2) h;have h':ae l [-p.1,p.2]≠[]:=λz=>by rw[z]at e;simp at e
  show au (ps.foldl (λl p=>ae l [-p.1,p.2]) (ae l [-p.1,p.2])) q=au l q*(lv p.1 p.2 q*prI _ ps);rw[kZ hq ps _ h' (λx hx=>hp x (wP _ hx)),qe (hp p (wT ..)) h,gp _ _ q hq];grind
theorem ii{q:List Int}(hq:q≠[])(s:Int)(ps:List (Int×Int))(hp:∀p∈ps,p.2≠0):au (aK s ps) q=s^(q.length-1)*prI (λp=>lv p.1 p.2 q) ps:=by have:=kZ hq ps [s] (by simp) hp;rw[qf]at this;exact this
theorem nv(x s:Int):∀(ps:List (Int×Int)) (l:List Int),ev x (ps.foldl (λl p=>ae l [-p.1,p.2]) l)=ev x l*prI (λp=>p.2*x-p.1) ps
 | [],l=>by show _=_*1;rw[xE];rfl
 |p::ps,l=>by
  show ev x (ps.foldl (λl p=>ae l [-p.1,p.2]) (ae l [-p.1,p.2]))=ev x l*((p.2*x-p.1)*prI _ ps);rw[nv x s ps,jv];have e:ev x [-p.1,p.2]=p.2*x-p.1:=by show -p.1+x*(p.2+x*0)=_;grind
  rw[e];grind
theorem ju(x s:Int)(ps:List (Int×Int)):ev x (aK s ps)=s*prI (λp=>p.2*x-p.1) ps:=by
 have:=nv x s ps [s];unfold aK;rw[this];have e:ev x [s]=s:=by show s+x*0=s;simp
 rw[e]
theorem j6:∀(ps:List (Int×Int)) (l:List Int),Tr l->(∀p∈ps,p.2≠0)->Tr (ps.foldl (λl p=>ae l [-p.1,p.2]) l)
 | [],l,h,_=>h
 |p::ps,l,h,hp=>j6 ps _ (cr h ((tr_snoc (r:=[-p.1])).mpr (hp p (wT ..)))) λx hx=>hp x (wP _ hx)
theorem oQ{s:Int}(hs:s≠0){ps:List (Int×Int)}(hp:∀p∈ps,p.2≠0):Tr (aK s ps):=j6 ps [s] ((tr_snoc (r:=[])).mpr hs) hp
noncomputable def opp(x:Int):List Int->List Int
 | []=>[]
 |v::l=>aS (ae (opp x l) [x,-1]) (trim [v])
theorem cB(x:Int):∀l:List Int,Tr l->l≠[]->Tr (opp x l)/\(opp x l).length=l.length/\∀a b,lv a b (opp x l)=lv (x*b-a) b l
 | [v],ht,_=>by
  have hv:v≠0:=(tr_snoc (r:=[])).mp ht
  have e:opp x [v]=[v]:=by
   show aS (ae [] [x,-1]) (trim [v])=[v];have e1:ae [] [x,-1]=[]:=by unfold ae;rw[if_pos (.inl rfl)]
   rw[e1,gr ht];refine eD (bX _) ht λk=>?_
   rw[eJ,aQ];omega
  rw[e];exact⟨ht,rfl,λa b=>by show v*b^0+a*0=v*b^0+(x*b-a)*0;simp⟩
 |v::w::l,ht,_=>by
  have ht':Tr (w::l):=λn hn=>ht (n+1) (by rw[wI,hn])
  obtain⟨i1,i2,i3⟩:=cB x (w::l) ht' (by simp);show Tr (aS (ae (opp x (w::l)) [x,-1]) (trim [v]))/\(aS (ae (opp x (w::l)) [x,-1]) (trim [v])).length=(w::l).length+1/\∀a b,lv a b (aS (ae (opp x (w::l)) [x,-1]) (trim [v]))=v*b^(w::l).length+(x*b-a)*lv (x*b-a) b (w::l);generalize hA:w::l=A at *
  have hAl:1<=A.length:=by rw[<- hA,wI];omega
  generalize opp x A=O at *
  have hO:O≠[]:=λz=>by rw[z,xp]at i2;omega
  have hm:ae O [x,-1]=mb (-x) (-1) 0 O:=by have:=dR (a := -x) (b := -1) hO;rw[Int.neg_neg]at this;exact this
  have hml:(ae O [x,-1]).length=A.length+1:=by rw[hm,dh,i2]
  have hmt:Tr (ae O [x,-1]):=cr i1 ((tr_snoc (r:=[x])).mpr (by decide))
  obtain⟨c,m,hcm⟩:∃c m,ae O [x,-1]=c::m:=by
   cases e:ae O [x,-1]with
   |nil=>rw[e]at hml;simp at hml
   |cons c m=>exact⟨c,m,rfl⟩
  have hmlen:m.length=A.length:=by rw[hcm]at hml;simpa using hml
  have e:aS (ae O [x,-1]) (trim [v])=(c+v)::m:=by
   refine eD (bX _) (λn hn=>?_) λk=>?_
   ·have hn':m.length=n:=by simpa using hn
    obtain⟨n',rfl⟩:∃n',n=n'+1:=⟨n-1,by omega⟩;rw[b6];have:=hmt (n'+1) (by rw[hcm,wI,hn']);rw[hcm,b6]at this;exact this
   ·rw[eJ,bC,hcm];cases k with
    |zero=>rfl
    |succ k=>rw[b6,b6,b6,aQ];omega
  rw[e];refine⟨by rw[<- e];exact bX _,by rw[wI,hmlen],λa b=>?_⟩
  have h1:lv a b (ae O [x,-1])=(-1*a - -x*b)*lv a b O:=by rw[hm,i6];simp
  rw[hcm]at h1
  have h2:lv a b ((c+v)::m)=lv a b (c::m)+v*b^m.length:=by show(c+v)*b^m.length+a*lv a b m=c*b^m.length+a*lv a b m+v*b^m.length;grind
  rw[h2,h1,i3,hmlen];grind
noncomputable def aw(x:Int)(l:List Int):List Int:=(List.range l.length).map λi=>cf l i*x^i
theorem oA(a b x:Int){l:List Int}(h:l≠[]):lv a b (aw x l).reverse=lv (x*b) a l:=by
 have hl:(aw x l).length=l.length:=by unfold aw;simp
 have hp:=wK.mpr h
 have hne:(aw x l).reverse≠[]:=λz=>by have:=List.reverse_eq_nil_iff.mp z;rw[this]at hl;simp at hl;omega
 rw[<- gp a b _ hne,xR,wW,hl]
 have key:∀j,j<l.length->wj a b (cf (aw x l)) j=lv (x*b) a (l.take (j+1)):=by
  intro j
  induction j with
  |zero =>
   intro hj;show cf (aw x l) 0=_;unfold aw;rw[cI,if_pos hj,xh]
   have:l.take 1=[cf l 0]:=by rw[List.take_one,aC hj];cases l with
    |nil=>simp at hj
    |cons v l=>rfl
   rw[this];show _=cf l 0*a^0+x*b*0;simp
  |succ j ih =>
   intro hj;show wj a b (cf (aw x l)) j*a+cf (aw x l) (j+1)*b^(j+1)=_;have e:l.take (j+1+1)=l.take (j+1)++[cf l (j+1)]:=by rw[xo,cV hj];rfl
   rw[ih (by omega),e,mf,wU,xT (by omega)];have e2:cf (aw x l) (j+1)=cf l (j+1)*x^(j+1):=by unfold aw;rw[cI,if_pos hj]
   rw[e2,Int.mul_pow];grind
 have:=key (l.length-1) (by omega);rw[this,xW (by omega)]
theorem md(a b c:Int):∀k,lv a b (List.replicate k 0++[c])=c*a^k
 |0=>by show c*b^0+a*0=c*a^0;simp
 |k+1=>by rw[xz];show 0*_+a*lv a b (List.replicate k 0++[c])=_;rw[md a b c k,wM];grind
theorem qI(a b x:Int)(k:Nat)(hk:1<=k):lv a b ([x]++List.replicate (k-1) 0++[-1])=x*b^k-a^k:=by show x*b^(List.replicate (k-1) (0:Int)++[-1]).length+a*lv a b (List.replicate (k-1) 0++[-1])=_;rw[md,wF,w8];obtain⟨j,rfl⟩:∃j,k=j+1:=⟨k-1,by omega⟩;show x*b^(j+1-1+1)+a*(-1*a^(j+1-1))=_;rw[show j+1-1=j by omega,wM a];grind
theorem qL{a b:List Int}(ha:Tr a)(han:a≠[])(hb:Tr b)(hbn:b≠[]):aB (ae a b)=ae (aB a) (aB b):=by
 obtain⟨g,hg,e⟩:=iG hb
 have hab:ae a b≠[]:=λz=>by have:=ja han hbn;rw[z,xp]at this;have:=wK.mpr han;have:=wK.mpr hbn;omega
 have:=qN (p:=ae a b) (q:=scL g a) (d:=aB b) (c:=1) (by decide) (cr ha hb) hab (gt hg ha) (iF hb hbn) (λn=>by
  rw[aW,xg];have e1:aj a b n=g*aj a (aB b) n:=fZ λk=>e k
  have e2:aj (scL g a) (aB b) n=g*aj a (aB b) n+0*aj a (aB b) n:=df λk=>by rw[cH];omega
  rw[e1,e2];omega)
 rw[<- this,iI hg ha]
noncomputable def dm(g:Int×Int->Int×Int->Int×Int)(ones others:List (Int×Int)):List (Int×Int):=ones.flatMap λp=>others.map (g p)
theorem iA(f:Int×Int->Int)(g:Int×Int->Int×Int):∀ps,prI f (ps.map g)=prI (λp=>f (g p)) ps
 | []=>rfl
 |p::ps=>by show f (g p)*prI f (ps.map g)=f (g p)*prI _ ps;rw[iA f g ps]
theorem iB(f:Int×Int->Int)(g:Int×Int->Int×Int->Int×Int)(others:List (Int×Int)):∀ones,prI f (dm g ones others)=prI (λp=>prI (λq=>f (g p q)) others) ones
 | []=>rfl
 |p::ones=>by show prI f (others.map (g p)++dm g ones others)=_*prI _ ones;rw[li,iA,iB f g others ones]
theorem iC(c:Int)(h:Int×Int->Int):∀ps,prI (λp=>c*h p) ps=c^ps.length*prI h ps
 | []=>by show(1:Int)=c^0*1;simp
 |p::ps=>by show c*h p*prI (λp=>c*h p) ps=c^(ps.length+1)*(h p*prI h ps);rw[iC c h ps,wM];grind
noncomputable def gS(p q:Int×Int):Int×Int:=(p.1*q.2+q.1*p.2,p.2*q.2)
noncomputable def gM(p q:Int×Int):Int×Int:=(p.1*q.1,p.2*q.2)
noncomputable def gP(k:Nat)(p:Int×Int):Int×Int:=(p.1^k,p.2^k)
variable {s1 s2:Int}{ones others:List (Int×Int)}
theorem o9(h2:s2≠0)(ho:∀p∈ones,p.2≠0)(hq:∀p∈others,p.2≠0)(x:Int):au (aK s1 ones) (opp x (aK s2 others))=ev x (aK (s1^others.length*s2^ones.length) (dm gS ones others)):=by
 obtain⟨o1,o2,o3⟩:=cB x (aK s2 others) (oQ h2 hq) (kX _ _);rw[kY]at o2;rw[ii (λz=>by rw[z]at o2;simp at o2) s1 ones ho,o2,ju,iB]
 have e:∀p∈ones,lv p.1 p.2 (opp x (aK s2 others))=s2*prI (λq=>(gS p q).2*x-(gS p q).1) others:=λp _=>by
  rw[o3,mh]
  congr 1
  refine da others λq _=>?_
  show q.2*(x*p.2-p.1)-q.1*p.2=p.2*q.2*x-(p.1*q.2+q.1*p.2);grind
 rw[da ones e,iC];show s1^(others.length+1-1)*_=_;rw[xU];grind
theorem qy(ho:∀p∈ones,p.2≠0)(x:Int):au (aK s1 ones) (aw x (aK s2 others)).reverse=ev x (aK (s1^others.length*s2^ones.length) (dm gM ones others)):=by
 have hl:(aw x (aK s2 others)).reverse.length=others.length+1:=by rw[wW];unfold aw;rw[wE,wN,kY]
 rw[ii (λz=>by rw[z]at hl;simp at hl) s1 ones ho,hl,ju,iB]
 have e:∀p∈ones,lv p.1 p.2 (aw x (aK s2 others)).reverse=s2*prI (λq=>(gM p q).2*x-(gM p q).1) others:=λp _=>by
  rw[oA _ _ _ (kX _ _),mh]
  congr 1
  refine da others λq _=>?_
  show q.2*(x*p.2)-q.1*p.1=p.2*q.2*x-p.1*q.1;grind
 rw[da ones e,iC,xU];grind
theorem qD(ho:∀p∈ones,p.2≠0){k:Nat}(hk:1<=k)(x:Int):au (aK s1 ones) ([x]++List.replicate (k-1) 0++[-1])=ev x (aK (s1^k) (ones.map (gP k))):=by
 have hl:([x]++List.replicate (k-1) (0:Int)++[-1]).length=k+1:=by rw[wF,wF,w8];show 1+(k-1)+1=k+1;omega
 rw[ii (by simp) s1 ones ho,hl,ju,iA,xU]
 congr 1
 refine da ones λp _=>?_
 rw[qI _ _ _ k hk];show x*p.2^k-p.1^k=p.2^k*x-p.1^k;grind
theorem qO{c:Int}(hc:c≠0):aB [c]=[1]:=by have h:=iF (l:=[c]) ((tr_snoc (r:=[])).mpr hc) (by simp);exact h.const (by rw[iH];rfl)
abbrev En:=Nat->Int
inductive PF:(En->Int)->Prop
 |con (c:Int):PF λ_=>c
 |var (i:Nat):PF λv=>v i
 |add {f g:En->Int}:PF f->PF g->PF λv=>f v+g v
 |mul {f g:En->Int}:PF f->PF g->PF λv=>f v*g v
theorem PF.comp{f:En->Int}(h:PF f){φ:En->En}(hφ:∀i,PF λv=>φ v i):PF λv=>f (φ v):=by
 induction h with
 |con c=>exact .con c
 |var i=>exact hφ i
 |add _ _ i1 i2=>exact .add i1 i2
 |mul _ _ i1 i2=>exact .mul i1 i2
theorem PF.cg{f g:En->Int}(h:PF f)(e:∀v,g v=f v):PF g:=by rw[funext e];exact h
theorem PF.neg{f:En->Int}(h:PF f):PF λv =>-f v:=((PF.con (-1)).mul h).cg λv=>by grind
theorem PF.sub{f g:En->Int}(h:PF f)(k:PF g):PF λv=>f v-g v:=(h.add k.neg).cg λv=>by grind
theorem PF.pow{f:En->Int}(h:PF f):∀n:Nat,PF λv=>f v^n
 |0=>(PF.con 1).cg λv=>xh _
 |n+1=>((h.pow n).mul h).cg λv=>wM _ _
noncomputable def hF:List (En->Int)->Int->En->Int
 | [],_,_=>0
 |G::Gs,x,u=>G u+x*hF Gs x u
def AP(Gs:List (En->Int)):Prop:=∀G∈Gs,PF G
theorem AP.nil:AP []:=λG h=>by cases h
theorem AP.cons{G:En->Int}{Gs:List (En->Int)}(h:PF G)(k:AP Gs):AP (G::Gs):=λX hX=>by
 rcases wZ.mp hX with rfl |z
 ·exact h
 ·exact k _ z
theorem AP.hd{G:En->Int}{Gs:List (En->Int)}(h:AP (G::Gs)):PF G:=h _ (wT ..)
theorem AP.tl{G:En->Int}{Gs:List (En->Int)}(h:AP (G::Gs)):AP Gs:=λX hX=>h _ (wP _ hX)
noncomputable def adF:List (En->Int)->List (En->Int)->List (En->Int)
 | [],Hs=>Hs
 |G::Gs,[]=>G::Gs
 |G::Gs,H::Hs=>(λu=>G u+H u)::adF Gs Hs
noncomputable def scF(G:En->Int):List (En->Int)->List (En->Int)
 | []=>[]
 |H::Hs=>(λu=>G u*H u)::scF G Hs
noncomputable def muF:List (En->Int)->List (En->Int)->List (En->Int)
 | [],_=>[]
 |G::Gs,Hs=>adF (scF G Hs) ((λ_=>0)::muF Gs Hs)
theorem jj(x:Int)(u:En):∀Gs Hs,hF (adF Gs Hs) x u=hF Gs x u+hF Hs x u
 | [],Hs=>by show hF Hs x u=0+hF Hs x u;omega
 |G::Gs,[]=>by show hF (G::Gs) x u=hF (G::Gs) x u+0;omega
 |G::Gs,H::Hs=>by show G u+H u+x*hF (adF Gs Hs) x u=G u+x*hF Gs x u+(H u+x*hF Hs x u);rw[jj x u Gs Hs];grind
theorem mL(x:Int)(u:En)(G:En->Int):∀Hs,hF (scF G Hs) x u=G u*hF Hs x u
 | []=>by show(0:Int)=G u*0;omega
 |H::Hs=>by show G u*H u+x*hF (scF G Hs) x u=G u*(H u+x*hF Hs x u);rw[mL x u G Hs];grind
theorem mO(x:Int)(u:En):∀Gs Hs,hF (muF Gs Hs) x u=hF Gs x u*hF Hs x u
 | [],Hs=>by show(0:Int)=0*_;omega
 |G::Gs,Hs=>by show hF (adF (scF G Hs) ((λ_=>0)::muF Gs Hs)) x u=(G u+x*hF Gs x u)*hF Hs x u;rw[jj,mL];show G u*hF Hs x u+(0+x*hF (muF Gs Hs) x u)=_;rw[mO x u Gs Hs];grind
theorem AP.ad:∀{Gs Hs:List (En->Int)},AP Gs->AP Hs->AP (adF Gs Hs)
 | [],_,_,k=>k
 |_::_,[],h,_=>h
 |_::_,_::_,h,k=>.cons (h.hd.add k.hd) (AP.ad h.tl k.tl)
theorem AP.sc{G:En->Int}(h:PF G):∀{Hs:List (En->Int)},AP Hs->AP (scF G Hs)
 | [],_=>.nil
 |_::_,k=>.cons (h.mul k.hd) (AP.sc h k.tl)
theorem AP.mu:∀{Gs Hs:List (En->Int)},AP Gs->AP Hs->AP (muF Gs Hs)
 | [],_,_,_=>.nil
 |_::_,_,h,k=>AP.ad (AP.sc h.hd k) (.cons (.con 0) (AP.mu h.tl k))
theorem PF.split{f:En->Int}(h:PF f):∃Gs,AP Gs/\∀v,f v=hF Gs (v 0) (tl v):=by
 induction h with
 |con c=>exact⟨[λ_=>c],.cons (.con c) .nil,λv=>by show c=c+v 0*0;omega⟩
 |var i =>
  cases i with
  |zero=>exact⟨[λ_=>0,λ_=>1],.cons (.con 0) (.cons (.con 1) .nil),λv=>by show v 0=0+v 0*(1+v 0*0);grind⟩
  |succ i=>exact⟨[λu=>u i],.cons (.var i) .nil,λv=>by show v (i+1)=v (i+1)+v 0*0;omega⟩
 |add _ _ i1 i2 =>obtain⟨G1,a1,e1⟩:=i1;obtain⟨G2,a2,e2⟩:=i2;exact⟨adF G1 G2,a1.ad a2,λv=>by rw[jj,<- e1,<- e2]⟩
 |mul _ _ i1 i2 =>obtain⟨G1,a1,e1⟩:=i1;obtain⟨G2,a2,e2⟩:=i2;exact⟨muF G1 G2,a1.mu a2,λv=>by rw[mO,<- e1,<- e2]⟩
theorem PF.tl{f:En->Int}(h:PF f):PF λv=>f (tl v):=h.comp λi=>.var (i+1)
theorem mN:∀{Gs:List (En->Int)},AP Gs->PF λv=>hF Gs (v 0) (tl v)
 | [],_=>.con 0
 |_::_,h=>h.hd.tl.add ((PF.var 0).mul (mN h.tl))
noncomputable def PD:Nat->(Int->Int)->Prop
 |0,f=>∀t,f t=0
 |n+1,f=>PD n λt=>f (t+1)-f t
theorem PD.cg{n:Nat}{f g:Int->Int}(h:PD n f)(e:∀t,g t=f t):PD n g:=by rw[funext e];exact h
theorem PD.nought:∀(n:Nat) {f:Int->Int},(∀t,f t=0)->PD n f
 |0,_,h=>h
 |n+1,_,h=>PD.nought n λt=>by rw[h,h];rfl
theorem PD.up:∀{n:Nat} {f:Int->Int},PD n f->PD (n+1) f
 |0,f,h=>λt=>by show f (t+1)-f t=0;rw[h,h];rfl
 |n+1,f,h=>PD.up (n:=n) (f:=λt=>f (t+1)-f t) h
theorem PD.more{n:Nat}{f:Int->Int}(h:PD n f):∀k,PD (n+k) f
 |0=>h
 |k+1=>(h.more k).up
theorem PD.next:∀{n:Nat} {f:Int->Int},PD n f->PD n λt=>f (t+1)
 |0,_,h=>λt=>h (t+1)
 |n+1,f,h=>PD.next (n:=n) (f:=λt=>f (t+1)-f t) h
theorem PD.add:∀{n:Nat} {f g:Int->Int},PD n f->PD n g->PD n λt=>f t+g t
 |0,_,_,h,k=>λt=>by show _+_=(0:Int);rw[h,k];rfl
 |n+1,f,g,h,k=>show PD n (λt=>f (t+1)+g (t+1)-(f t+g t))from PD.cg (PD.add (n:=n) (f:=λt=>f (t+1)-f t) (g:=λt=>g (t+1)-g t) h k) λt=>by grind
theorem PD.mul:∀(n m:Nat) {f g:Int->Int},PD n f->PD m g->PD (n+m) λt=>f t*g t
 |0,m,f,g,h,_=>PD.nought _ λt=>by show f t*g t=0;rw[h];omega
 |n+1,0,f,g,_,k=>PD.nought _ λt=>by show f t*g t=0;rw[k];omega
 |n+1,m+1,f,g,h,k=>by
  have a:=PD.mul (n+1) m (PD.next h) (show PD m (λt=>g (t+1)-g t)from k);have b:=PD.mul n (m+1) (show PD n (λt=>f (t+1)-f t)from h) k;have e:n+1+m=n+(m+1):=by omega
  rw[e]at a;show PD (n+1+m) _;rw[e];exact(a.add b).cg λt=>by grind
theorem PD.far:∀(n:Nat) {f:Int->Int} {T:Int},PD n f->(∀t,T<=t->f t=0)->∀t,f t=0
 |0,_,_,h,_=>h
 |n+1,f,T,h,k=>λt=>by
  have d:=PD.far n (f:=λt=>f (t+1)-f t) (T:=T) h λt ht=>by show f (t+1)-f t=0;rw[k _ ht,k _ (by omega)];rfl
  have down:∀j:Nat,f (T-j)=0:=λj=>by
   induction j with
   |zero=>exact k _ (by omega)
   |succ j ih =>
    have h1:f (T-((j+1:Nat):Int)+1)-f (T-((j+1:Nat):Int))=0:=d (T-((j+1:Nat):Int));have e:T-((j+1:Nat):Int)+1=T-(j:Int):=by omega
    rw[e,ih]at h1;omega
  by_cases z:T<=t
  ·exact k t z
  ·have:=down (T-t).toNat;have e:T-((T-t).toNat:Int)=t:=by omega
   rwa [e]at this
def PL(f:Int->Int):Prop:=∃n,PD n f
theorem PL.con(c:Int):PL λ_=>c:=⟨1,λt=>by show c-c=0;omega⟩
theorem PL.id:PL λt=>t:=⟨2,λt=>by show t+1+1-(t+1)-(t+1-t)=0;omega⟩
theorem PL.add{f g:Int->Int}(h:PL f)(k:PL g):PL λt=>f t+g t:=by obtain⟨n,h⟩:=h;obtain⟨m,k⟩:=k;exact⟨n+m,(h.more m).add (by rw[Nat.add_comm];exact k.more n)⟩
theorem PL.mul{f g:Int->Int}(h:PL f)(k:PL g):PL λt=>f t*g t:=by obtain⟨n,h⟩:=h;obtain⟨m,k⟩:=k;exact⟨n+m,PD.mul n m h k⟩
theorem PF.pl{F:En->Int}(h:PF F){φ:Int->En}(hφ:∀i,PL λt=>φ t i):PL λt=>F (φ t):=by
 induction h with
 |con c=>exact .con c
 |var i=>exact hφ i
 |add _ _ i1 i2=>exact i1.add i2
 |mul _ _ i1 i2=>exact i1.mul i2
noncomputable def rtL:List Int->List Int
 | []=>[1]
 |x::r=>ae (rtL r) [-x,1]
theorem aZ:∀r:List Int,(rtL r).length=r.length+1
 | []=>rfl
 |x::r=>by have i:=aZ r;show(ae (rtL r) [-x,1]).length=_;rw[iX,if_neg (λz=>by rw[z]at i;simp at i),i];rfl
theorem kU(r:List Int):rtL r≠[]:=λz=>by have:=aZ r;rw[z]at this;simp at this
theorem eF(x:Int)(r:List Int)(k:Nat):cf (rtL (x::r)) k = -x*cf (rtL r) k+(if k=0 then 0 else cf (rtL r) (k-1)):=by show cf (ae (rtL r) [-x,1]) k=_;rw[dR (kU r),gi];split<;>simp
theorem dD:∀r:List Int,cf (rtL r) r.length=1
 | []=>rfl
 |x::r=>by rw[eF,wI,if_neg (by omega),ay (by rw[aZ];omega)];have:=dD r;rw[show r.length+1-1=r.length by omega,this];omega
theorem kT(r:List Int):cf (rtL (0::r)) 0=0/\tl (cf (rtL (0::r)))=cf (rtL r):=by refine⟨by rw[eF];simp,funext λk=>?_⟩;show cf (rtL (0::r)) (k+1)=_;rw[eF,if_neg (by omega)];simp
theorem kW:∀{r:List Int},(∀x∈r,x≠0)->cf (rtL r) 0≠0
 | [],_=>by show(1:Int)≠0;decide
 |x::r,h=>by rw[eF,if_pos rfl,xk];exact xf (by have:=h x (wT ..);omega) (kW λy hy=>h y (wP _ hy))
theorem h9:∀(r:List Int) (k:Nat),PL λt=>cf (rtL (r.map (·+t))) k
 | [],k=>PL.con (cf [1] k)
 |x::r,k=>by
  have e:(λt=>cf (rtL ((x::r).map (·+t))) k)=λt=>(-x + -1*t)*cf (rtL (r.map (·+t))) k+(if k=0 then 0 else cf (rtL (r.map (·+t))) (k-1)):=funext λt=>by show cf (rtL ((x+t)::r.map (·+t))) k=_;rw[eF];grind
  rw[e];refine((PL.add (.con _) (PL.mul (.con _) .id)).mul (h9 r k)).add ?_;by_cases z:k=0
  ·simp only[if_pos z];exact .con 0
  ·simp only[if_neg z];exact h9 r (k-1)
theorem m8:∀r:List Int,∃T:Int,∀t,T<=t->∀x∈r.map (·+t),x≠0
 | []=>⟨0,λt _ x hx=>by simp at hx⟩
 |y::r=>by
  obtain⟨T,h⟩:=m8 r;refine⟨if T<=1-y then 1-y else T,λt ht x hx=>?_⟩;rcases wZ.mp hx with z |z
  ·have z':x=y+t:=z;split at ht<;>omega
  ·exact h t (by split at ht<;>omega) x z
theorem ji:∀(m:Nat) {F:En->Int},PF F->(∀r:List Int,r.length=m->F (cf (rtL r))=0)->∀l:List Int,l.length=m->F (cf (l++[1]))=0
 |0,F,_,h,l,hl=>by have:l=[]:=xl.mp hl;subst this;exact h [] rfl
 |m+1,F,hF',h,l,hl=>by
  obtain⟨Gs,aG,eG⟩:=hF'.split;rw[eG];have h':∀r:List Int,r.length=m+1->hF Gs (cf (rtL r) 0) (tl (cf (rtL r)))=0:=λr hr=>by rw[<- eG];exact h r hr
  clear h eG hF'
  induction Gs with
  |nil=>rfl
  |cons G Gs ih =>
   have g0:∀l':List Int,l'.length=m->G (cf (l'++[1]))=0:=ji m aG.hd λr hr=>by have:=h' (0::r) (by rw[wI,hr]);rw[(kT r).1,(kT r).2]at this;have e:G (cf (rtL r))+0*hF Gs 0 (cf (rtL r))=0:=this;omega
   have tlm:∀l:List Int,l.length=m+1->G (tl (cf (l++[1])))=0:=λl hl=>by
    match l,hl with
    |x::l,hl =>have:=g0 l (by simpa using hl);exact this
   have rl:∀r:List Int,r.length=m+1->G (tl (cf (rtL r)))=0:=λr hr=>by
    have e1:(rtL r).take (m+1)++[1]=rtL r:=by
     have hlen:=aZ r;refine List.ext_getElem? λk=>?_
     by_cases hk:k<m+1
     ·rw[List.getElem?_append_left (by rw[wU];omega),List.getElem?_take,if_pos hk]
     ·by_cases hk2:k=m+1
      ·subst hk2;rw[List.getElem?_append_right (by rw[wU];omega),wU];have h1:=dD r;rw[aC (by omega)]at h1;rw[List.getElem?_eq_getElem (l:=rtL r) (by omega)];have:m+1-min (m+1) (rtL r).length=0:=by omega
       rw[this];show some 1=_
       congr 1
       rw[<- h1]
       congr 1
      ·rw[List.getElem?_eq_none (by rw[wF,wU];show _+1<=_;omega),List.getElem?_eq_none (by omega)]
    have:=tlm ((rtL r).take (m+1)) (by rw[wU,aZ];omega)
    rwa [e1]at this
   have key:∀r:List Int,r.length=m+1->hF Gs (cf (rtL r) 0) (tl (cf (rtL r)))=0:=λr hr=>by
    obtain⟨T,hT⟩:=m8 r;have pl:PL λt=>(λv:En=>hF Gs (v 0) (tl v)) (cf (rtL (r.map (·+t)))):=(mN aG.tl).pl λi=>h9 r i
    obtain⟨n,pd⟩:=pl
    have:=PD.far n (T:=T) pd (λt ht=>by
     show hF Gs (cf (rtL (r.map (·+t))) 0) (tl (cf (rtL (r.map (·+t)))))=0;have l1:(r.map (·+t)).length=m+1:=by rw[wE,hr]
     have a:=h' _ l1;have b:=rl _ l1;have c:G (tl (cf (rtL (r.map (·+t)))))+cf (rtL (r.map (·+t))) 0*hF Gs (cf (rtL (r.map (·+t))) 0) (tl (cf (rtL (r.map (·+t)))))=0:=a;rw[b,xt]at c;rcases Int.mul_eq_zero.mp c with z |z
     ·exact absurd z (kW (hT t ht))
     ·exact z) 0
    have e0:r.map (·+(0:Int))=r:=by simp
    have this':hF Gs (cf (rtL (r.map (·+(0:Int)))) 0) (tl (cf (rtL (r.map (·+(0:Int))))))=0:=this
    rwa [e0]at this'
   show G (tl (cf (l++[1])))+cf (l++[1]) 0*hF Gs (cf (l++[1]) 0) (tl (cf (l++[1])))=0;rw[tlm l hl,ih aG.tl key];omega
noncomputable def sI:Nat->(Nat->Int)->Int
 |0,_=>0
 |n+1,f=>sI n f+f n
theorem bH{f g:Nat->Int}:∀n,(∀i,i<n->f i=g i)->sI n f=sI n g
 |0,_=>rfl
 |n+1,h=>by show sI n f+f n=sI n g+g n;rw[bH n λi hi=>h i (by omega),h n (by omega)]
theorem c8(f g:Nat->Int):∀n,sI n (λi=>f i+g i)=sI n f+sI n g
 |0=>rfl
 |n+1=>by show sI n _+(f n+g n)=sI n f+f n+(sI n g+g n);rw[c8 f g n];omega
theorem c6(c:Int)(f:Nat->Int):∀n,sI n (λi=>c*f i)=c*sI n f
 |0=>by show(0:Int)=c*0;omega
 |n+1=>by show sI n _+c*f n=c*(sI n f+f n);rw[c6 c f n,Int.mul_add]
theorem c7(f:Nat->Int):∀n,sI (n+1) f=f 0+sI n λi=>f (i+1)
 |0=>by show(0:Int)+f 0=f 0+0;omega
 |n+1=>by have:=c7 f n;show sI (n+1) f+f (n+1)=f 0+(sI n (λi=>f (i+1))+f (n+1));rw[this];omega
theorem h6{f:Nat->Int}(n:Nat)(h:∀i,i<n->f i=0):sI n f=0:=by
 induction n with
 |zero=>rfl
 |succ n ih=>show sI n f+f n=0;rw[ih λi hi=>h i (by omega),h n (by omega)];rfl
theorem h7{φ:Nat->En->Int}:∀(n:Nat),(∀i,i<n->PF (φ i))->PF λv=>sI n λi=>φ i v
 |0,_=>.con 0
 |n+1,h=>(h7 n λi hi=>h i (by omega)).add (h n (by omega))
noncomputable def pS(k:Nat):List Int->Int
 | []=>0
 |x::r=>pS k r+x^k
theorem fP(k:Nat):∀a b,pS k (a++b)=pS k a+pS k b
 | [],b=>by show pS k b=0+pS k b;omega
 |x::a,b=>by show pS k (a++b)+x^k=pS k a+x^k+pS k b;rw[fP k a b];omega
noncomputable def eS(r:List Int):Nat->Int:=cf (rtL r).reverse
theorem uj:∀r,eS r 0=1
 |r=>by
  unfold eS;rw[bG,if_pos (by rw[aZ];omega),aZ];have:=dD r
  rwa [show r.length+1-1-0=r.length by omega]
theorem jy(x:Int)(r:List Int)(j:Nat):eS (x::r) j=eS r j-(if j=0 then 0 else x*eS r (j-1)):=by have h:=j8 (a:=x) (b:=1) (kU r);have h':=congrFun h j;show cf (ae (rtL r) [-x,1]).reverse j=_;rw[<- h'];show 1*cf (rtL r).reverse j-_=_;rw[xg];rfl
theorem newton:∀(r:List Int) (k:Nat),sI k (λi=>eS r i*pS (k-i) r)+k*eS r k=0
 | [],k=>by
  rw[h6 k λi _=>by show eS [] i*0=0;omega];cases k with
  |zero=>show(0:Int)+0*_=0;omega
  |succ k =>have:eS [] (k+1)=0:=rfl;rw[this];omega
 |x::r,0=>by show(0:Int)+0*_=0;omega
 |x::r,q+1=>by
  have n1:=newton r (q+1);have n0:=newton r q
  have e1:sI (q+1) (λi=>eS (x::r) i*pS (q+1-i) (x::r))=sI (q+1) (λi=>eS r i*pS (q+1-i) (x::r)) + -x*sI q (λi=>eS r i*pS (q-i) (x::r)):=by
   rw[c7,c7 (λi=>eS r i*pS (q+1-i) (x::r)),jy,if_pos rfl,Int.sub_zero,<- c6,Int.add_assoc,<- c8]
   congr 1
   refine bH q λi _=>?_
   rw[jy,if_neg (by omega),show i+1-1=i by omega,show q+1-(i+1)=q-i by omega];grind
  have e2:∀n k,n<=k->sI n (λi=>eS r i*pS (k-i) (x::r))=sI n (λi=>eS r i*pS (k-i) r)+sI n (λi=>eS r i*x^(k-i)):=λn k _=>by
   rw[<- c8];refine bH n λi _=>?_
   show eS r i*(pS (k-i) r+x^(k-i))=_;rw[Int.mul_add]
  have e3:sI (q+1) (λi=>eS r i*x^(q+1-i))=x*sI q (λi=>eS r i*x^(q-i))+eS r q*x:=by
   show sI q (λi=>eS r i*x^(q+1-i))+eS r q*x^(q+1-q)=_;rw[show q+1-q=1 by omega,wM,xh,xg,<- c6]
   congr 1
   refine bH q λi hi=>?_
   rw[show q+1-i=q-i+1 by omega,wM];grind
  rw[e1,e2 _ _ (wG _),e2 _ _ (wG _),e3,jy,if_neg (by omega),show q+1-1=q by omega];have c1:((q+1:Nat):Int)=(q:Int)+1:=by omega
  rw[c1]at n1 ⊢;generalize sI (q+1) (λi=>eS r i*pS (q+1-i) r)=A at *
  generalize sI q (λi=>eS r i*pS (q-i) r)=B at *
  generalize sI q (λi=>eS r i*x^(q-i))=C at *
  generalize eS r (q+1)=E1 at *
  generalize eS r q=E0 at *
  have hA:A = -((q+1)*E1):=by omega
  have hB:B = -(q*E0):=by omega
  rw[hA,hB];grind
noncomputable def bY(c:Nat->Int)(N:Nat)(fd:List Int):Int:=sI (min (fd.length-1) N) (λi => -(c (N-(i+1))*cf fd (fd.length-(i+1))))-(if fd.length<=N then(fd.length:Int)*c (N-fd.length)else 0)
noncomputable def nL(c:Nat->Int)(N:Nat):Nat->List Int
 |0=>[(N:Int)]
 |K+1=>nL c N K++[bY c N (nL c N K)]
theorem aX(c:Nat->Int)(N:Nat):∀K,(nL c N K).length=K+1
 |0=>rfl
 |K+1=>by show(nL c N K++[_]).length=_;rw[wF,aX c N K];rfl
theorem de(c:Nat->Int)(N:Nat){k:Nat}:∀{K:Nat},k<=K->cf (nL c N K) k=cf (nL c N k) k
 |0,h=>by rw[show k=0 by omega]
 |K+1,h=>by
  by_cases z:k=K+1
  ·rw[z]
  ·show cf (nL c N K++[_]) k=_;rw[cO (by rw[aX];omega)];exact de c N (by omega)
theorem iR(c:Nat->Int)(N K:Nat):cf (nL c N (K+1)) (K+1)=bY c N (nL c N K):=by show cf (nL c N K++[_]) (K+1)=_;rw[cZ (by rw[aX];omega),aX,show K+1-(K+1)=0 by omega];rfl
theorem dP(r:List Int):∀(K k:Nat),k<=K->cf (nL (cf (rtL r)) r.length K) k=pS k r
 |0,k,h=>by
  rw[show k=0 by omega];show((r.length:Nat):Int)=pS 0 r
  induction r with
  |nil=>rfl
  |cons x r ih =>show((r.length+1:Nat):Int)=pS 0 r+x^0;rw[xh,<- ih];omega
 |K+1,k,h=>by
  by_cases z:k=K+1
  ·subst z
   have eE:∀i,i<=r.length->cf (rtL r) (r.length-i)=eS r i:=λi hi=>by unfold eS;rw[bG,if_pos (by rw[aZ];omega),aZ,show r.length+1-1-i=r.length-i by omega]
   have eZ:∀i,r.length<i->eS r i=0:=λi hi=>by unfold eS;rw[bG,if_neg (by rw[aZ];omega)]
   have n1:=newton r (K+1);rw[c7,uj,xg]at n1;rw[iR];unfold bY;rw[aX];have ih:=dP r K
   have a1:sI K (λi=>eS r (i+1)*pS (K+1-(i+1)) r) =-sI (min K r.length) (λi => -(cf (rtL r) (r.length-(i+1))*cf (nL (cf (rtL r)) r.length K) (K+1-(i+1)))):=by
    have m1:∀n,n<=K->sI n (λi=>eS r (i+1)*pS (K+1-(i+1)) r)=sI (min n r.length) (λi=>eS r (i+1)*pS (K+1-(i+1)) r):=λn=>by
     induction n with
     |zero=>intro _;rw[Nat.zero_min]
     |succ n ihn =>
      intro hn;by_cases zz:n<r.length
      ·rw[show min (n+1) r.length=n+1 by omega]
      ·rw[show min (n+1) r.length=min n r.length by omega,<- ihn (by omega)];show sI n _+eS r (n+1)*_=_;rw[eZ _ (by omega)];omega
    rw[m1 K (wG _)]
    have:∀n,n<=min K r.length->sI n (λi=>eS r (i+1)*pS (K+1-(i+1)) r) =-sI n (λi => -(cf (rtL r) (r.length-(i+1))*cf (nL (cf (rtL r)) r.length K) (K+1-(i+1)))):=λn hn=>by
     rw[show(λi => -(cf (rtL r) (r.length-(i+1))*cf (nL (cf (rtL r)) r.length K) (K+1-(i+1))))=λi => -1*(cf (rtL r) (r.length-(i+1))*cf (nL (cf (rtL r)) r.length K) (K+1-(i+1)))from funext λi=>by omega,c6];rw[show ∀z:Int,-(-1*z)=z fromλz=>by omega];refine bH n λi hi=>?_
     rw[eE _ (by omega),ih _ (by omega)]
    exact this _ (wG _)
   have a2:((K+1:Nat):Int)*eS r (K+1)=if K+1<=r.length then((K+1:Nat):Int)*cf (rtL r) (r.length-(K+1))else 0:=by
    by_cases zz:K+1<=r.length
    ·rw[if_pos zz,eE _ zz]
    ·rw[if_neg zz,eZ _ (by omega)];omega
   rw[a1,a2]at n1;rw[show K+1-1=K by omega];rw[show K+1-0=K+1 by omega]at n1;omega
  ·rw[de _ _ (show k<=K+1 by omega),<- de _ _ (show k<=K by omega)];exact dP r K k (by omega)
theorem dQ{c:En->Nat->Int}(N:Nat)(hc:∀i,PF λv=>c v i):∀(K k:Nat),PF λv=>cf (nL (c v) N K) k
 |0,k=>.con (cf [(N:Int)] k)
 |K+1,k=>by
  by_cases z:k<K+1
  ·exact(dQ N hc K k).cg λv=>by show cf (nL (c v) N K++[_]) k=_;rw[cO (by rw[aX];omega)]
  ·by_cases z2:k=K+1
   ·subst z2
    have e:(λv=>cf (nL (c v) N (K+1)) (K+1))=λv=>sI (min K N) (λi => -(c v (N-(i+1))*cf (nL (c v) N K) (K+1-(i+1))))-(if K+1<=N then((K+1:Nat):Int)*c v (N-(K+1))else 0):=funext λv=>by rw[iR];unfold bY;rw[aX];rfl
    rw[e];refine PF.sub (h7 _ λi _=>((hc _).mul (dQ N hc K _)).neg) ?_;by_cases zz:K+1<=N
    ·simp only[if_pos zz];exact(PF.con _).mul (hc _)
    ·simp only[if_neg zz];exact .con 0
   ·exact(PF.con 0).cg λv=>ay (by rw[aX];omega)
noncomputable def paL:Nat->List Int
 |0=>[1]
 |k+1=>[1]++((List.range ((paL k).length-1)).map λi=>cf (paL k) i+cf (paL k) (i+1))++[1]
theorem bQ:∀k,(paL k).length=k+1
 |0=>rfl
 |k+1=>by show([1]++((List.range ((paL k).length-1)).map λi=>cf (paL k) i+cf (paL k) (i+1))++[1]).length=_;rw[wF,wF,wE,wN,bQ k];show 1+(k+1-1)+1=_;omega
theorem fO:∀k,cf (paL k) 0=1/\cf (paL k) k=1
 |0=>⟨rfl,rfl⟩
 |k+1=>by refine⟨rfl,?_⟩;show cf ([1]++((List.range ((paL k).length-1)).map λi=>cf (paL k) i+cf (paL k) (i+1))++[1]) (k+1)=1;rw[cZ (by rw[wF,wE,wN,bQ k];show 1+(k+1-1)<=_;omega),wF,wE,wN,bQ k];rw[show k+1-([(1:Int)].length+(k+1-1))=0 by show k+1-(1+(k+1-1))=0;omega];rfl
theorem qU(k i:Nat):cf (paL (k+1)) (i+1)=cf (paL k) i+cf (paL k) (i+1):=by
 by_cases z:i<k
 ·show cf ([1]++((List.range ((paL k).length-1)).map λi=>cf (paL k) i+cf (paL k) (i+1))++[1]) (i+1)=_;rw[w4,cZ (by show 1<=_;omega),cO (by rw[wE,wN,bQ];show i+1-1<_;omega)];rw[show i+1-[(1:Int)].length=i by show i+1-1=i;omega,aC (by rw[wE,wN,bQ];omega),xm,x4]
 ·by_cases z2:i=k
  ·subst z2;rw[(fO (i+1)).2,(fO i).2,ay (by rw[bQ];omega)];rfl
  ·rw[ay (by rw[bQ];omega),ay (by rw[bQ];omega),ay (by rw[bQ];omega)];rfl
theorem nV(x y:Int):∀k,(x+y)^k=sI (k+1) λi=>cf (paL k) i*(x^i*y^(k-i))
 |0=>by show(x+y)^0=0+1*(x^0*y^0);rw[xh,xh,xh];rfl
 |k+1=>by
  have ih:=nV x y k
  have a1:x*sI (k+1) (λi=>cf (paL k) i*(x^i*y^(k-i)))=sI (k+1) (λi=>cf (paL k) i*(x^(i+1)*y^(k-i))):=by
   rw[<- c6];refine bH _ λi _=>?_
   rw[wM];grind
  have a2:y*sI (k+1) (λi=>cf (paL k) i*(x^i*y^(k-i)))=y^(k+1)+sI (k+1) (λi=>cf (paL k) (i+1)*(x^(i+1)*y^(k-i))):=by
   have b1:sI (k+1) (λi=>cf (paL k) (i+1)*(x^(i+1)*y^(k-i)))=sI k (λi=>cf (paL k) (i+1)*(x^(i+1)*y^(k-i))):=by show sI k _+cf (paL k) (k+1)*_=_;rw[ay (l:=paL k) (by rw[bQ];omega)];omega
   rw[b1,c7,(fO k).1,Int.mul_add,<- c6]
   congr 1
   ·rw[xh,xy,wM];grind
   ·refine bH _ λi hi=>?_
    rw[show k-i=k-(i+1)+1 by omega,wM y];grind
  rw[wM,ih,xB,Int.add_mul,a1,a2,c7 (λi=>cf (paL (k+1)) i*_),(fO (k+1)).1]
  have a3:sI (k+1) (λi=>cf (paL (k+1)) (i+1)*(x^(i+1)*y^(k+1-(i+1))))=sI (k+1) (λi=>cf (paL k) i*(x^(i+1)*y^(k-i)))+sI (k+1) (λi=>cf (paL k) (i+1)*(x^(i+1)*y^(k-i))):=by
   rw[<- c8];refine bH _ λi _=>?_
   rw[qU,show k+1-(i+1)=k-i by omega,Int.add_mul]
  rw[a3,xh,xg,xg,xy];omega
noncomputable def crs(g:Int->Int->Int)(r s:List Int):List Int:=r.flatMap λx=>s.map (g x)
theorem jA(g:Int->Int->Int)(s:List Int):∀r,(crs g r s).length=r.length*s.length
 | []=>by show 0=0*_;omega
 |x::r=>by show((s.map (g x))++crs g r s).length=(r.length+1)*s.length;rw[wF,wE,jA g s r,Nat.add_mul];omega
theorem lD(x:Int)(k:Nat):∀s,pS k (s.map (x+·))=sI (k+1) λi=>cf (paL k) i*(x^i*pS (k-i) s)
 | []=>by rw[h6 _ λi _=>by show cf (paL k) i*(x^i*0)=0;simp];rfl
 |y::s=>by
  show pS k (s.map (x+·))+(x+y)^k=_;rw[lD x k s,nV,<- c8];refine bH _ λi _=>?_
  show _=cf (paL k) i*(x^i*(pS (k-i) s+y^(k-i)));grind
theorem lC(k:Nat)(s:List Int):∀r,pS k (crs (·+·) r s)=sI (k+1) λi=>cf (paL k) i*(pS i r*pS (k-i) s)
 | []=>by rw[h6 _ λi _=>by show cf (paL k) i*(0*_)=0;simp];rfl
 |x::r=>by
  show pS k (s.map (x+·)++crs (·+·) r s)=_;rw[fP,lD,lC k s r,<- c8];refine bH _ λi _=>?_
  show _=cf (paL k) i*((pS i r+x^i)*pS (k-i) s);grind
theorem lG(x:Int)(k:Nat):∀s,pS k (s.map (x*·))=x^k*pS k s
 | []=>by show(0:Int)=_*0;omega
 |y::s=>by show pS k (s.map (x*·))+(x*y)^k=x^k*(pS k s+y^k);rw[lG x k s,Int.mul_pow];grind
theorem lE(k:Nat)(s:List Int):∀r,pS k (crs (·*·) r s)=pS k r*pS k s
 | []=>by show(0:Int)=0*_;omega
 |x::r=>by show pS k (s.map (x*·)++crs (·*·) r s)=(pS k r+x^k)*pS k s;rw[fP,lG,lE k s r];grind
theorem lF(k e:Nat):∀r:List Int,pS k (r.map (·^e))=pS (k*e) r
 | []=>rfl
 |x::r=>by show pS k (r.map (·^e))+(x^e)^k=pS (k*e) r+x^(k*e);rw[lF k e r,<- Int.pow_mul,Nat.mul_comm]
theorem mq{ι:Type}{h:En->ι->Int}{f:En->List ι->Int}{S:ι->Prop}(hh:∀i,S i->PF λv=>h v i)(hf:∀m,(∀i∈m,S i)->PF λv=>f v m):∀rows pre:List ι,(∀i∈pre,S i)->(∀i∈rows,S i)->PF λv=>aO (h v) (f v) pre rows
 | [],_,_,_=>.con 0
 |r::rs,pre,hp,hr=>((hh r (hr r (wT ..))).mul (hf (pre++rs) λi hi=>(wQ.mp hi).elim (hp i) λz=>hr i (wP _ z))).sub (mq hh hf rs (pre++[r]) (λi hi=>(wQ.mp hi).elim (hp i) λz=>by rw[w5.mp z];exact hr r (wT ..)) λi hi=>hr i (wP _ hi))
theorem ou{ι:Type}:∀(n:Nat) (l:List ι) (F:En->ι->Rw),(∀i∈l,∀j,PF λv=>F v i j)->PF λv=>D n (l.map (F v))
 |0,_,_,_=>.con 1
 |n+1,l,F,h=>by
  have e:(λv=>D (n+1) (l.map (F v)))=λv=>aO (λi=>F v i 0) (λm=>D n (m.map λi=>tl (F v i))) [] l:=funext λv=>cJ n (F v) l
  rw[e];exact mq (S:=λi=>i∈l) (h:=λv i=>F v i 0) (f:=λv m=>D n (m.map λi=>tl (F v i))) (λi hi=>h i hi 0) (λm hm=>ou n m (λv i=>tl (F v i)) λi hi j=>h i (hm i hi) (j+1)) l [] (λi hi=>by cases hi) (λi hi=>hi)
theorem kP{r:En->Rw}(h:∀j,PF λv=>r v j)(k j:Nat):PF λv=>shr k (r v) j:=by
 show PF λv=>if j<k then 0 else r v (j-k)
 by_cases z:j<k
 ·simp only[if_pos z];exact .con 0
 ·simp only[if_neg z];exact h _
theorem gz{r1 r2:En->Rw}(h1:∀j,PF λv=>r1 v j)(h2:∀j,PF λv=>r2 v j)(n m:Nat):PF λv=>D (n+m) (syl (r1 v) (r2 v) n m):=by
 have e:(λv=>D (n+m) (syl (r1 v) (r2 v) n m))=λv=>D (n+m) ((((List.range n).map λk=>(λv=>shr k (r1 v):En->Rw))++((List.range m).map λk=>(λv=>shr k (r2 v):En->Rw))).map λR=>R v):=funext λv=>by rw[wH,wO,wO];rfl
 rw[e];refine ou (ι:=En->Rw) (n+m) _ (λv R=>R v) λR hR j=>?_
 rcases wQ.mp hR with z |z
 ·obtain⟨k,_,rfl⟩:=wJ.mp z;exact kP h1 k j
 ·obtain⟨k,_,rfl⟩:=wJ.mp z;exact kP h2 k j
noncomputable def cE(x:Int)(u:En):En
 |0=>x
 |k+1=>u k
noncomputable def MIX(u v:En):En:=λk=>if k%2=0 then u (k/2)else v (k/2)
theorem iY(u v:En)(i:Nat):MIX u v (2*i)=u i:=by unfold MIX;rw[if_pos (by omega),show 2*i/2=i by omega]
theorem f9(u v:En)(i:Nat):MIX u v (2*i+1)=v i:=by unfold MIX;rw[if_neg (by omega),show(2*i+1)/2=i by omega]
theorem r8(v:En)(i:Nat):PF λu=>MIX u v i:=by
 show PF λu=>if i%2=0 then u (i/2)else v (i/2)
 by_cases z:i%2=0
 ·simp only[if_pos z];exact .var _
 ·simp only[if_neg z];exact .con _
theorem r6(u:En)(i:Nat):PF λv=>MIX u v i:=by
 show PF λv=>if i%2=0 then u (i/2)else v (i/2)
 by_cases z:i%2=0
 ·simp only[if_pos z];exact .con _
 ·simp only[if_neg z];exact .var _
noncomputable def MX(a b:List Int):En:=MIX (cf (a++[1])) (cf (b++[1]))
noncomputable def MR(r s:List Int):En:=MIX (cf (rtL r)) (cf (rtL s))
theorem mG{F:En->Int}(h:PF F){m n:Nat}(h0:∀r s:List Int,r.length=m->s.length=n->F (MR r s)=0){a b:List Int}(ha:a.length=m)(hb:b.length=n):F (MX a b)=0 :=
 ji n (F:=λv=>F (MIX (cf (a++[1])) v)) (h.comp (r6 _)) (λs hs=>ji m (F:=λu=>F (MIX u (cf (rtL s)))) (h.comp (r8 _)) (λr hr=>h0 r s hr hs) a ha) b hb
theorem mF{F G:En->Int}(h:PF F)(k:PF G){m n:Nat}(h0:∀r s:List Int,r.length=m->s.length=n->F (MR r s)=G (MR r s)){a b:List Int}(ha:a.length=m)(hb:b.length=n):F (MX a b)=G (MX a b):=by have:=mG (h.sub k) (m:=m) (n:=n) (λr s hr hs=>by have:=h0 r s hr hs;show F _-G _=0;omega) ha hb;have:F (MX a b)-G (MX a b)=0:=this;omega
theorem mQ(x:Int)(u:En):∀Gs,hF Gs x u=ev x (Gs.map (· u))
 | []=>rfl
 |G::Gs=>by show G u+x*hF Gs x u=G u+x*ev x (Gs.map (· u));rw[mQ x u Gs]
theorem jx{t:Int}{a b:List Int}(h:∀k,cf a k=cf b k):ev t a=ev t b:=by
 have:=jw (t:=t) (x:=1) (y:=0) (a:=b) (b:=b) (c:=a) λk=>by rw[h];omega
 omega
theorem ui{a b:List Int}(h:∀x:Nat,ev (x:Int) a=ev (x:Int) b)(k:Nat):cf a k=cf b k:=by
 have ha:=ft (W:=trim a) (n:=max (trim a).length (trim b).length) (by omega) (bX _);have hb:=ft (W:=trim b) (n:=max (trim a).length (trim b).length) (by omega) (bX _)
 have e:(λj:Nat=>ev (j:Int) (trim a))=λj:Nat=>ev (j:Int) (trim b):=funext λj=>by rw[jx (bC a),jx (bC b),h]
 rw[e]at ha;have:trim a=trim b:=by rw[<- ha,hb]
 rw[<- bC a,this,bC]
structure Op(m n N:Nat)(f:En->Int)(T:List Int->List Int->List Int):Prop where
 pf:PF f
 len:∀r s:List Int,r.length=m->s.length=n->(T r s).length=N
 val:∀r s:List Int,r.length=m->s.length=n->∀x,f (cE x (MR r s))=ev x (rtL (T r s))
theorem nN(V:Nat->Int)(n k:Nat):cf ((List.range n).map V) k=if k<n then V k else 0:=by
 by_cases z:k<n
 ·rw[if_pos z,aC (by rw[wE,wN];exact z),xm,x4]
 ·rw[if_neg z,ay (by rw[wE,wN];omega)]
theorem Op.coef{m n N:Nat}{f:En->Int}{T:List Int->List Int->List Int}(h:Op m n N f T):∃V:Nat->En->Int,(∀j,PF (V j))/\(∀r s:List Int,r.length=m->s.length=n->∀j,V j (MR r s)=cf (rtL (T r s)) j)/\∀a b:List Int,a.length=m->b.length=n->(∀j,cf ((List.range (N+1)).map λj=>V j (MX a b)) j=V j (MX a b))/\V N (MX a b)=1/\∀x,f (cE x (MX a b))=ev x ((List.range (N+1)).map λj=>V j (MX a b)):=by
 obtain⟨Gs,aG,eG⟩:=h.pf.split;have e0:∀x u,f (cE x u)=ev x (Gs.map (· u)):=λx u=>by rw[eG,<- mQ];rfl
 have cG:∀(u:En) (j:Nat),cf (Gs.map (· u)) j=(Gs.getD j λ_=>0) u:=λu j=>by
  by_cases z:j<Gs.length
  ·rw[aC (by rw[wE];exact z),xm,List.getD_eq_getElem?_getD,List.getElem?_eq_getElem z];rfl
  ·rw[ay (by rw[wE];omega),List.getD_eq_getElem?_getD,List.getElem?_eq_none (by omega)];rfl
 have pV:∀j,PF (Gs.getD j λ_=>0):=λj=>by
  by_cases z:j<Gs.length
  ·rw[List.getD_eq_getElem?_getD,List.getElem?_eq_getElem z];exact aG _ (xC _)
  ·rw[List.getD_eq_getElem?_getD,List.getElem?_eq_none (by omega)];exact .con 0
 have sV:∀r s:List Int,r.length=m->s.length=n->∀j,(Gs.getD j λ_=>0) (MR r s)=cf (rtL (T r s)) j:=λr s hr hs j=>by rw[<- cG];exact ui (λx=>by rw[<- e0,h.val r s hr hs]) j
 refine⟨λj=>Gs.getD j λ_=>0,pV,sV,λa b ha hb=>?_⟩;have hi:∀j,N<j->(Gs.getD j λ_=>0) (MX a b)=0:=λj hj=>mG (pV j) (λr s hr hs=>by rw[sV r s hr hs,ay (by rw[aZ,h.len r s hr hs];omega)]) ha hb
 have cc:∀j,cf ((List.range (N+1)).map λj=>(Gs.getD j λ_=>0) (MX a b)) j=(Gs.getD j λ_=>0) (MX a b):=λj=>by
  rw[nN];by_cases z:j<N+1
  ·rw[if_pos z]
  ·rw[if_neg z,hi j (by omega)]
 refine⟨cc,?_,λx=>?_⟩
 ·exact mF (pV N) (.con 1) (λr s hr hs=>by rw[sV r s hr hs,<- h.len r s hr hs,dD]) ha hb
 ·rw[e0];exact jx λk=>by rw[cG,cc]
theorem Op.newton{m n N:Nat}{f:En->Int}{T:List Int->List Int->List Int}(h:Op m n N f T){K k:Nat}(hk:k<=K){G:En->Int}(pG:PF G)(hG:∀r s:List Int,r.length=m->s.length=n->pS k (T r s)=G (MR r s)){V:Nat->En->Int}(pV:∀j,PF (V j))(sV:∀r s:List Int,r.length=m->s.length=n->∀j,V j (MR r s)=cf (rtL (T r s)) j){a b:List Int}(ha:a.length=m)(hb:b.length=n):cf (nL (λj=>V j (MX a b)) N K) k=G (MX a b) :=
 mF (F:=λu=>cf (nL (λj=>V j u) N K) k) (dQ (c:=λu j=>V j u) N pV K k) pG (λr s hr hs=>by
  show cf (nL (λj=>V j (MR r s)) N K) k=_
  rw[show(λj=>V j (MR r s))=cf (rtL (T r s))from funext (sV r s hr hs),<- h.len r s hr hs,dP _ K k hk,hG r s hr hs]) ha hb
theorem iQ{m n K k:Nat}(hk:k<=K):PF (λw:En=>cf (nL (λi=>w (2*i)) m K) k)/\PF (λw:En=>cf (nL (λi=>w (2*i+1)) n K) k)/\(∀r s:List Int,r.length=m->s.length=n->cf (nL (λi=>MR r s (2*i)) m K) k=pS k r/\cf (nL (λi=>MR r s (2*i+1)) n K) k=pS k s)/\∀a b:List Int,cf (nL (λi=>MX a b (2*i)) m K) k=cf (nL (cf (a++[1])) m K) k/\cf (nL (λi=>MX a b (2*i+1)) n K) k=cf (nL (cf (b++[1])) n K) k:=by
 refine⟨dQ (c:=λw i=>w (2*i)) m (λi=>.var _) K k,dQ (c:=λw i=>w (2*i+1)) n (λi=>.var _) K k,λr s hr hs=>⟨?_,?_⟩,λa b=>⟨?_,?_⟩⟩
 ·rw[show(λi=>MR r s (2*i))=cf (rtL r)from funext λi=>iY _ _ i,<- hr,dP _ K k hk]
 ·rw[show(λi=>MR r s (2*i+1))=cf (rtL s)from funext λi=>f9 _ _ i,<- hs,dP _ K k hk]
 ·rw[show(λi=>MX a b (2*i))=cf (a++[1])from funext λi=>iY _ _ i]
 ·rw[show(λi=>MX a b (2*i+1))=cf (b++[1])from funext λi=>f9 _ _ i]
theorem cA(k:Nat):∀r,pS k r.reverse=pS k r
 | []=>rfl
 |x::r=>by rw[xP,fP,cA k r];show pS k r+(0+x^k)=pS k r+x^k;omega
noncomputable def pr1(r:List Int):List (Int×Int):=r.reverse.map λx=>(x,1)
theorem cv:∀r:List Int,rtL r=aK 1 (pr1 r)
 | []=>rfl
 |x::r=>by show ae (rtL r) [-x,1]=aK 1 ((x::r).reverse.map λx=>(x,1));rw[xP,wH,cv r];exact(pX 1 _ (x,1)).symm
theorem fI{r:List Int}:∀p∈pr1 r,p.2≠0:=λp hp=>by obtain⟨x,_,rfl⟩:=wJ.mp hp;show(1:Int)≠0;decide
theorem dd(k:Nat):(1:Int)^k=1:=Int.one_pow
theorem nG{g:Int×Int->Int×Int->Int×Int}{h:Int->Int->Int}(e:∀x y,g (x,1) (y,1)=(h x y,1))(r s:List Int):dm g (pr1 r) (pr1 s)=pr1 (crs h r.reverse s.reverse).reverse:=by
 unfold dm pr1 crs;rw[xR];generalize r.reverse=r';generalize s.reverse=s'
 induction r' with
 |nil=>rfl
 |cons x r' ih =>
  rw[w6,List.flatMap_cons,List.flatMap_cons,wH,ih]
  congr 1
  rw[wO,wO];exact wR λy _=>e x y
noncomputable def tS(r s:List Int):List Int:=(crs (·+·) r.reverse s.reverse).reverse
noncomputable def tM(r s:List Int):List Int:=(crs (·*·) r.reverse s.reverse).reverse
noncomputable def tP(e:Nat)(r _s:List Int):List Int:=(r.reverse.map (·^e)).reverse
noncomputable def bg(x:Int):List Int->Nat->Int
 | [],_=>0
 |v::l,k=>x*bg x l k-(if k=0 then 0 else bg x l (k-1))+(if k=0 then v else 0)
theorem eI(x:Int):∀(l:List Int) (k:Nat),cf (opp x l) k=bg x l k
 | [],k=>aQ k
 |v::l,k=>by
  show cf (aS (ae (opp x l) [x,-1]) (trim [v])) k=_;rw[eJ,aW,lP,bC,eI x l k];show _=x*bg x l k-(if k=0 then 0 else bg x l (k-1))+(if k=0 then v else 0);cases k with
  |zero =>show x*bg x l 0 + -1*up (cf (opp x l)) 0+v=_;have:up (cf (opp x l)) 0=0:=rfl;rw[this,if_pos rfl,if_pos rfl];omega
  |succ k =>have:up (cf (opp x l)) (k+1)=cf (opp x l) k:=rfl;rw[this,b6,aQ,if_neg (by omega),if_neg (by omega),show k+1-1=k by omega,eI x l k];omega
theorem iM(x c:Int):∀(l:List Int) (k:Nat),bg x (l.map (c*·)) k=c*bg x l k
 | [],k=>by show(0:Int)=c*0;omega
 |v::l,k=>by show x*bg x (l.map (c*·)) k-(if k=0 then 0 else bg x (l.map (c*·)) (k-1))+(if k=0 then c*v else 0)=c*(x*bg x l k-(if k=0 then 0 else bg x l (k-1))+(if k=0 then v else 0));rw[iM x c l k,iM x c l (k-1)];split<;>grind
theorem fQ:∀(L:List (En->Int)),AP L->∀k,PF λw=>bg (w 0) (L.map (· w)) k
 | [],_,k=>.con 0
 |G::L,h,k=>by
  show PF λw=>w 0*bg (w 0) (L.map (· w)) k-(if k=0 then 0 else bg (w 0) (L.map (· w)) (k-1))+(if k=0 then G w else 0)
  by_cases z:k=0
  ·simp only[if_pos z];exact(PF.sub ((PF.var 0).mul (fQ L h.tl k)) (.con 0)).add h.hd
  ·simp only[if_neg z];exact(PF.sub ((PF.var 0).mul (fQ L h.tl k)) (fQ L h.tl (k-1))).add (.con 0)
noncomputable def dE(m:Nat)(w:En):Rw:=λj=>if j<m+1 then w (2*(m-j)+1)else 0
theorem ib(m j:Nat):PF λw=>dE m w j:=by
 show PF λw=>if j<m+1 then w (2*(m-j)+1)else 0
 by_cases z:j<m+1
 ·simp only[if_pos z];exact .var _
 ·simp only[if_neg z];exact .con 0
theorem ic{P:List Int}{m:Nat}(h:P.length=m+1)(x:Int)(v:En):dE m (cE x (MIX (cf P) v))=cf P.reverse:=by
 funext j
 rw[bG,h];show(if j<m+1 then MIX (cf P) v (2*(m-j))else 0)=_;by_cases z:j<m+1
 ·rw[if_pos z,if_pos z,iY,show m+1-1-j=m-j by omega]
 ·rw[if_neg z,if_neg z]
theorem qu{Q:List Int}{n:Nat}(h:Q.length=n+1)(x:Int)(u:En):((List.range (n+1)).map λi=>(λw:En=>w (2*i+2))).map (· (cE x (MIX u (cf Q))))=Q:=by
 refine List.ext_getElem (by rw[wE,wE,wN,h]) λk h1 h2=>?_
 rw[xm,xm,x4];show MIX u (cf Q) (2*k+1)=_;rw[f9,aC h2]
noncomputable def fE(n:Nat)(w:En):Rw:=λj=>if j<n+1 then bg (w 0) (((List.range (n+1)).map λi=>(λw:En=>w (2*i+2))).map (· w)) (n-j)else 0
theorem pR(n j:Nat):PF λw=>fE n w j:=by
 show PF λw=>if j<n+1 then bg (w 0) (((List.range (n+1)).map λi=>(λw:En=>w (2*i+2))).map (· w)) (n-j)else 0
 by_cases z:j<n+1
 ·simp only[if_pos z];exact fQ _ (λG hG=>by obtain⟨i,_,rfl⟩:=wJ.mp hG;exact .var _) _
 ·simp only[if_neg z];exact .con 0
theorem pT{Q:List Int}{n:Nat}(h:Q.length=n+1)(x:Int)(u:En)(hl:(opp x Q).length=n+1):fE n (cE x (MIX u (cf Q)))=cf (opp x Q).reverse:=by
 funext j
 rw[bG,hl];unfold fE;rw[qu h];by_cases z:j<n+1
 ·rw[if_pos z,if_pos z,eI,show n+1-1-j=n-j by omega];rfl
 ·rw[if_neg z,if_neg z]
noncomputable def fS(m n:Nat)(w:En):Int:=D (n+m) (syl (dE m w) (fE n w) n m)
theorem j7{l:List Int}(h:cf l (l.length-1)≠0):Tr l:=λn hn=>by rw[show l.length-1=n by omega]at h;exact h
theorem dy(a:List Int):Tr (a++[1]):=tr_snoc.mpr (by decide)
theorem oP(r:List Int):Tr (rtL r):=j7 (by rw[aZ,show r.length+1-1=r.length by omega,dD];decide)
theorem nq{P Q:List Int}{m n:Nat}(hP:P.length=m+1)(hQ:Q.length=n+1)(tQ:Tr Q)(x:Int):fS m n (cE x (MIX (cf P) (cf Q)))=au P (opp x Q):=by obtain⟨_,o2,_⟩:=cB x Q tQ (λz=>by rw[z]at hQ;simp at hQ);unfold fS au;rw[ic hP,pT hQ x _ (by rw[o2,hQ]),o2,hP,hQ];rfl
theorem opS(m n:Nat):Op m n (m*n) (fS m n) tS:=by
 refine⟨gz (ib m) (pR n) n m,λr s hr hs=>?_,λr s hr hs x=>?_⟩
 ·unfold tS;rw[wW,jA,wW,wW,hr,hs]
 ·show fS m n (cE x (MIX (cf (rtL r)) (cf (rtL s))))=_;rw[nq (by rw[aZ,hr]) (by rw[aZ,hs]) (oP s)];rw[cv r,cv s,o9 (by decide) fI fI,dd,dd,cv,nG (h:=(·+·)) (λx y=>by show(x*1+y*1,(1:Int)*1)=(x+y,1);simp)];rfl
noncomputable def ia(n:Nat)(w:En):Rw:=λj=>if j<n+1 then w (2*j+2)*w 0^j else 0
theorem pU(n j:Nat):PF λw=>ia n w j:=by
 show PF λw=>if j<n+1 then w (2*j+2)*w 0^j else 0
 by_cases z:j<n+1
 ·simp only[if_pos z];exact(PF.var _).mul ((PF.var 0).pow j)
 ·simp only[if_neg z];exact .con 0
theorem pW{Q:List Int}{n:Nat}(h:Q.length=n+1)(x:Int)(u:En):ia n (cE x (MIX u (cf Q)))=cf (aw x Q).reverse.reverse:=by
 funext j
 rw[xR];unfold aw;rw[nN,h];show(if j<n+1 then MIX u (cf Q) (2*j+1)*x^j else 0)=_;rw[f9]
noncomputable def fM(m n:Nat)(w:En):Int:=D (n+m) (syl (dE m w) (ia n w) n m)
theorem nt{P Q:List Int}{m n:Nat}(hP:P.length=m+1)(hQ:Q.length=n+1)(x:Int):fM m n (cE x (MIX (cf P) (cf Q)))=au P (aw x Q).reverse:=by
 have o2:(aw x Q).reverse.length=n+1:=by rw[wW];unfold aw;rw[wE,wN,hQ]
 unfold fM au;rw[ic hP,pW hQ x,o2,hP];rfl
theorem opM(m n:Nat):Op m n (m*n) (fM m n) tM:=by
 refine⟨gz (ib m) (pU n) n m,λr s hr hs=>?_,λr s hr hs x=>?_⟩
 ·unfold tM;rw[wW,jA,wW,wW,hr,hs]
 ·show fM m n (cE x (MIX (cf (rtL r)) (cf (rtL s))))=_;rw[nt (by rw[aZ,hr]) (by rw[aZ,hs])];rw[cv r,cv s,qy fI,dd,dd,cv,nG (h:=(·*·)) (λx y=>by show(x*y,(1:Int)*1)=(x*y,1);simp)];rfl
noncomputable def pwE(x:Int)(e:Nat):List Int:=[x]++List.replicate (e-1) 0++[-1]
theorem lf(x:Int){e:Nat}(he:1<=e):(pwE x e).length=e+1:=by unfold pwE;rw[wF,wF,w8];show 1+(e-1)+1=e+1;omega
noncomputable def fP'(m e:Nat)(w:En):Int:=D (e+m) (syl (dE m w) (cf (pwE (w 0) e).reverse) e m)
theorem qw{e:Nat}(he:1<=e)(j:Nat):PF λw=>cf (pwE (w 0) e).reverse j:=by
 have e1:(λw:En=>cf (pwE (w 0) e).reverse j)=λw=>if j<e+1 then cf (pwE (w 0) e) (e-j)else 0:=funext λw=>by rw[bG,lf _ he,show e+1-1-j=e-j by omega]
 rw[e1];by_cases z:j<e+1
 ·simp only[if_pos z];cases hq:e-j with
  |zero=>exact PF.var 0
  |succ q=>exact PF.con (cf (List.replicate (e-1) 0++[-1]) q)
 ·simp only[if_neg z];exact .con 0
theorem nr{P:List Int}{m e:Nat}(hP:P.length=m+1)(he:1<=e)(x:Int)(v:En):fP' m e (cE x (MIX (cf P) v))=au P (pwE x e):=by unfold fP' au;rw[ic hP,lf x he,hP];rfl
theorem opP(m:Nat){e:Nat}(he:1<=e):Op m 0 m (fP' m e) (tP e):=by
 refine⟨gz (ib m) (qw he) e m,λr s hr hs=>?_,λr s hr hs x=>?_⟩
 ·unfold tP;rw[wW,wE,wW,hr]
 ·show fP' m e (cE x (MIX (cf (rtL r)) (cf (rtL s))))=_;rw[nr (by rw[aZ,hr]) he];unfold pwE;rw[cv r,qD fI he,dd,cv]
  congr 2
  unfold pr1 tP;rw[xR,wO,wO];refine wR λy _=>?_
  show(y^e,(1:Int)^e)=(y^e,1);rw[dd]
noncomputable def sN(c:Nat->Int)(N k:Nat):Int:=cf (nL c N k) k
theorem hZ(c:Nat->Int)(N:Nat){k K:Nat}(h:k<=K):cf (nL c N K) k=sN c N k:=de c N h
theorem bT(a:List Int):(a++[1]).length=a.length+1:=by rw[wF];rfl
structure Mon(W:List Int)(N:Nat):Prop where
 len:W.length=N+1
 top:cf W N=1
theorem Mon.tr{W:List Int}{N:Nat}(h:Mon W N):Tr W:=j7 (by rw[h.len,show N+1-1=N by omega,h.top];decide)
theorem Mon.ne{W:List Int}{N:Nat}(h:Mon W N):W≠[]:=λz=>by have:=h.len;rw[z]at this;simp at this
theorem Mon.pln{W:List Int}{N:Nat}(h:Mon W N):Pln W:=by
 have e:bB W=1:=by unfold bB;rw[h.len,show N+1-1=N by omega,h.top]
 refine⟨h.tr,h.ne,?_,by rw[e];decide⟩;have h1:cf W N∈W:=by rw[aC (by rw[h.len];omega)];exact xC _
 have h2:=eC h1;rw[h.top]at h2;exact Nat.dvd_one.mp h2
theorem ll{W:List Int}{N:Nat}(h:Mon W N){c:Int}(hc:c≠0):aB (ae [c] W)=W:=by have tc:Tr [c]:=(tr_snoc (r:=[])).mpr hc;rw[qL tc (by simp) h.tr h.ne,qO hc,h.pln.plain];exact one_mul W h.tr
theorem pb{a b:List Int}:∃W,Mon W (a.length*b.length)/\(∀x,au (a++[1]) (opp x (b++[1]))=ev x W)/\∀k,sN (cf W) (a.length*b.length) k=sI (k+1) λi=>cf (paL k) i*(sN (cf (a++[1])) a.length i*sN (cf (b++[1])) b.length (k-i)):=by
 obtain⟨V,pV,sV,hV⟩:=(opS a.length b.length).coef;obtain⟨v1,v2,v3⟩:=hV a b rfl rfl;refine⟨(List.range (a.length*b.length+1)).map λj=>V j (MX a b),⟨by rw[wE,wN],by rw[v1,v2]⟩,λx=>?_,λk=>?_⟩
 ·rw[<- v3];exact(nq (bT a) (bT b) (dy b) x).symm
 ·unfold sN;rw[show cf ((List.range (a.length*b.length+1)).map λj=>V j (MX a b))=λj=>V j (MX a b)from funext v1];have n1:=λi (h:i<=k)=>iQ (m:=a.length) (n:=b.length) (K:=k) (k:=i) h
  have pG:PF (λw:En=>sI (k+1) λi=>cf (paL k) i*(cf (nL (λi=>w (2*i)) a.length k) i*cf (nL (λi=>w (2*i+1)) b.length k) (k-i))):=h7 (φ:=λi (w:En)=>cf (paL k) i*(cf (nL (λi=>w (2*i)) a.length k) i*cf (nL (λi=>w (2*i+1)) b.length k) (k-i))) _ λi hi=>(PF.con _).mul ((n1 i (by omega)).1.mul (n1 (k-i) (by omega)).2.1)
  rw[(opS a.length b.length).newton (wG k) pG (λr s hr hs=>?_) pV sV rfl rfl]
  ·refine bH _ λi hi=>?_
   rw[((n1 i (by omega)).2.2.2 a b).1,((n1 (k-i) (by omega)).2.2.2 a b).2,de (cf (a++[1])) a.length (show i<=k by omega),de (cf (b++[1])) b.length (show k-i<=k by omega)]
  ·unfold tS;rw[cA,lC];refine bH _ λi hi=>?_
   rw[((n1 i (by omega)).2.2.1 r s hr hs).1,((n1 (k-i) (by omega)).2.2.1 r s hr hs).2,cA,cA]
theorem qz{a b:List Int}:∃W,Mon W (a.length*b.length)/\(∀x,au (a++[1]) (aw x (b++[1])).reverse=ev x W)/\∀k,sN (cf W) (a.length*b.length) k=sN (cf (a++[1])) a.length k*sN (cf (b++[1])) b.length k:=by
 obtain⟨V,pV,sV,hV⟩:=(opM a.length b.length).coef;obtain⟨v1,v2,v3⟩:=hV a b rfl rfl;refine⟨(List.range (a.length*b.length+1)).map λj=>V j (MX a b),⟨by rw[wE,wN],by rw[v1,v2]⟩,λx=>?_,λk=>?_⟩
 ·rw[<- v3];exact(nt (bT a) (bT b) x).symm
 ·unfold sN;rw[show cf ((List.range (a.length*b.length+1)).map λj=>V j (MX a b))=λj=>V j (MX a b)from funext v1];have n1:=iQ (m:=a.length) (n:=b.length) (K:=k) (k:=k) (wG k);rw[(opM a.length b.length).newton (wG k) (G:=λw=>cf (nL (λi=>w (2*i)) a.length k) k*cf (nL (λi=>w (2*i+1)) b.length k) k) (n1.1.mul n1.2.1) (λr s hr hs=>?_) pV sV rfl rfl]
  ·rw[(n1.2.2.2 a b).1,(n1.2.2.2 a b).2]
  ·unfold tM;rw[cA,lE,(n1.2.2.1 r s hr hs).1,(n1.2.2.1 r s hr hs).2,cA,cA]
theorem qE{a:List Int}{e:Nat}(he:1<=e):∃W,Mon W a.length/\(∀x,au (a++[1]) (pwE x e)=ev x W)/\∀k,sN (cf W) a.length k=sN (cf (a++[1])) a.length (k*e):=by
 obtain⟨V,pV,sV,hV⟩:=(opP a.length he).coef;obtain⟨v1,v2,v3⟩:=hV a [] rfl rfl;refine⟨(List.range (a.length+1)).map λj=>V j (MX a []),⟨by rw[wE,wN],by rw[v1,v2]⟩,λx=>?_,λk=>?_⟩
 ·rw[<- v3];exact(nr (bT a) he x _).symm
 ·unfold sN;rw[show cf ((List.range (a.length+1)).map λj=>V j (MX a []))=λj=>V j (MX a [])from funext v1];have n1:=iQ (m:=a.length) (n:=0) (K:=k*e) (k:=k*e) (wG _);rw[(opP a.length he).newton (wG k) (G:=λw=>cf (nL (λi=>w (2*i)) a.length (k*e)) (k*e)) n1.1 (λr s hr hs=>?_) pV sV rfl rfl]
  ·rw[(n1.2.2.2 a []).1]
  ·unfold tP;rw[cA,lF,cA,(n1.2.2.1 r s hr hs).1]
theorem k2{p g g':List Int}{c:Int}(hl:g'.length=g.length)(hc:∀k,cf g' k=c*cf g k):au p g'=c^(p.length-1)*au p g:=by
 unfold au syl;rw[hl]
 have e:cf g'.reverse=λj=>c*cf g.reverse j:=funext λj=>by
  rw[bG,bG,hl];split
  ·exact hc _
  ·omega
 rw[e]
 have e2:aJ (λj=>c*cf g.reverse j) (p.length-1)=(aJ (cf g.reverse) (p.length-1)).map λr=>λj=>c*(id:Rw->Rw) r j:=by
  unfold aJ;rw[wO];refine wR λk _=>funext λj=>?_
  show(if j<k then(0:Int)else c*cf g.reverse (j-k))=c*(if j<k then(0:Int)else cf g.reverse (j-k));split<;>omega
 rw[e2,jR _ _ (by rw[b5,b5]),List.map_id,b5]
theorem qV{c:Int}(hc:c≠0){Q:List Int}(hQ:Tr Q)(hne:Q≠[])(p:List Int)(x:Int):au p (opp x (Q.map (c*·)))=c^(p.length-1)*au p (opp x Q):=by
 have t:Tr (Q.map (c*·)):=λn hn=>by rw[wE]at hn;rw[aC (by rw[wE];omega),xm];have:=hQ n hn;rw[aC (by omega)]at this;exact xf hc this
 obtain⟨_,o2,_⟩:=cB x Q hQ hne;obtain⟨_,q2,_⟩:=cB x (Q.map (c*·)) t (by simpa using hne);rw[wE]at q2;exact k2 (by rw[o2,q2]) λk=>by rw[eI,eI,iM]
theorem oz(c:Int)(Q p:List Int)(x:Int):au p (aw x (Q.map (c*·))).reverse=c^(p.length-1)*au p (aw x Q).reverse:=by
 have e:aw x (Q.map (c*·))=(aw x Q).map (c*·):=by
  unfold aw;rw[wE,wO];refine wR λi hi=>?_
  have hi':=xa.mp hi;show cf (Q.map (c*·)) i*x^i=c*(cf Q i*x^i);rw[aC (by rw[wE];exact hi'),xm,aC hi'];grind
 rw[e];refine k2 (by rw[wW,wW,wE]) λk=>?_
 rw[bG,bG,wE];by_cases z:k<(aw x Q).length
 ·rw[if_pos z,if_pos z,aC (by rw[wE];omega),xm,aC (by omega)]
 ·rw[if_neg z,if_neg z];omega
theorem nu(x c:Int)(W:List Int):ev x (ae [c] W)=c*ev x W:=by rw[jv];show(c+x*0)*_=_;rw[w9,xk]
end RM
open PySem.W in
local macro_rules | `(tactic|walk_at "comp_ok")=>`(tactic|exact⟨by with_unfolding_all rfl,by decide +kernel,rfl,by decide +kernel,by repeat' (first |exact List.forall_mem_nil _ |refine List.forall_mem_cons.2 ⟨rfl,?_⟩),by rfl,by repeat' (first |exact .nil |refine .cons ⟨rfl,by first |exact Or.inl rfl |exact Or.inr rfl,rfl⟩ ?_)⟩)
namespace R38
open PySem L2 RM
noncomputable def top(i:Nat):Stmt:=PySem.Challenge.pw_rootspan_k38_whole_power_sums.main.body.getD i (.Pass ⟨0,0,0,0⟩)
abbrev gX:Stmt:=top 1
abbrev gW:Stmt:=top 2
abbrev fD:Stmt:=top 3
abbrev gK:Stmt:=top 5
abbrev gJ:Stmt:=top 6
abbrev gO:Stmt:=top 8
abbrev gY:Stmt:=top 9
abbrev g6:Stmt:=top 10
abbrev gZ:Stmt:=top 11
abbrev gT:Stmt:=top 12
abbrev gI:Stmt:=top 13
abbrev gQ:Stmt:=top 14
abbrev gF:Stmt:=top 16
abbrev gH:Stmt:=top 17
abbrev gG:Stmt:=top 18
abbrev gL:Stmt:=top 19
abbrev gN:Stmt:=top 20
abbrev gR:Stmt:=top 21
abbrev gD:Stmt:=top 22
abbrev gE:Stmt:=top 23
abbrev hU:Stmt:=top 25
abbrev g9:Stmt:=top 26
abbrev hJ:Stmt:=top 27
abbrev g7:Stmt:=top 28
abbrev hE:Stmt:=top 29
abbrev g8:Stmt:=top 30
abbrev gU:Stmt:=top 31
theorem scM{N P:List Str}{sc:Scope}(a:sc.kind=.function:=by rfl)(b:sc.isCoroutine=false:=by rfl)(c:sc.isGenerator=false:=by rfl)(e:N.Nodup:=by decide +kernel)(f:N.take P.length=P:=by rfl)(g:∀x∈P,sc.names.lookup x=some .local\/sc.names.lookup x=some .cell:=by decide +kernel)(h:∀y∈sc.names,y.2≠.free:=by decide +kernel):FnScope N P sc:=⟨a,b,c,e,f,g,h⟩
theorem sc_determinant:FnScope ["rows","left","before","sign","place","head"] ["rows"] (ax gX):=scM
theorem sc_first_not_nought:FnScope ["rows","place"] ["rows"] (ax gW):=scM
theorem pL:FnScope ["row","head","before"] ["row","head","before"] (ax fD):=scM
theorem sc_shared:FnScope ["row","divisor","value"] ["row"] (ax gK):=scM
theorem sc_shared_by_two:FnScope ["one","other","greater","less","rest"] ["one","other"] (ax gJ):=scM
theorem sc_poly:FnScope ["row","length"] ["row"] (ax gO):=scM
theorem pJ:FnScope ["row"] ["row"] (ax gY):=scM
theorem sc_added:FnScope ["first","second","length"] ["first","second"] (ax g6):=scM
theorem pK:FnScope ["row","place"] ["row","place"] (ax gZ):=scM
theorem sc_multiplied:FnScope ["first","second","product","j","one","k","other"] ["first","second"] (ax gT):=scM
theorem sc_shrunk:FnScope ["row","divisor"] ["row"] (ax gI):=scM
theorem sc_plain:FnScope ["row","small"] ["row"] (ax gQ):=scM
theorem pI:FnScope ["first","second"] ["first","second"] (ax gF):=scM
theorem sc_slid:FnScope ["row","many","falling"] ["row","many"] (ax gH):=scM
theorem sc_sums:FnScope ["first","second","many"] ["first","second"] (ax gG):=scM
theorem sc_products:FnScope ["first","second","many"] ["first","second"] (ax gL):=scM
theorem sc_powers:FnScope ["row","k","many"] ["row","k"] (ax gN):=scM
theorem sc_opposed:FnScope ["row","x","found","value"] ["row","x"] (ax gR):=scM
theorem sc_weighted:FnScope ["row","x","found","power","value"] ["row","x"] (ax gD):=scM
theorem sc_through:FnScope ["values","leads","left","found","k"] ["values"] (ax gE):=scM
theorem pO:FnScope ["_law_script","_law_k"] ["_law_script","_law_k"] (ax hU):=scM
theorem pM:FnScope ["_law_cell","_law_at"] ["_law_cell","_law_at"] (ax g9):=scM
theorem sc__law_ends_with_one:FnScope ["_law_found","_law_size","_law_one"] ["_law_found","_law_size"] (ax hJ):=scM
theorem sc__law_sums_of_powers:FnScope ["_law_kp","_law_many","_law_size","_law_found","_law_k","_law_total","_law_i"] ["_law_kp","_law_many"] (ax g7):=scM
theorem pN:FnScope ["_law_row"] ["_law_row"] (ax hE):=scM
theorem sc__law_of_sums:FnScope ["_law_ones","_law_others","_law_many","_law_found","_law_row","_law_k"] ["_law_ones","_law_others","_law_many"] (ax g8):=scM
theorem sc_law:FnScope ["_law_script","_law_first","_law_m","_law_n","_law_k","_law_scale","_law_kp","_law_kq","_law_handed","_law_many","_law_summed","_law_mixed","_law_raised","_law_ones","_law_others"] ["_law_script"] (ax gU):=scM
structure Txt(K:PySem.W.Frag)(mg:Str->Option Value):Prop where
 list_:mg "list"=none
 len_:mg "len"=none
 range_:mg "range"=none
 abs_:mg "abs"=none
 max_:mg "max"=none
 enumerate_:mg "enumerate"=none
 reversed_:mg "reversed"=none
 isinstance_:mg "isinstance"=none
 bool_:mg "bool"=none
 int_:mg "int"=none
 min_:mg "min"=none
 sum_:mg "sum"=none
def fA(K:PySem.W.Frag):Sp:=λvs H Q _=>∃(a:Addr) (ns:List Int),vs=[.ref a]/\SqL K H a (ns.map V.int)/\ns.length<=63/\∀H',Q (.bl true) H'
section
variable {P:Program}{w:World}{K:PySem.W.Frag}{mg:Str->Option Value}{base:Heap}
theorem fF(n:Nat):(List.replicate n [V.int 0]).flatten=(List.replicate n (0:Int)).map V.int:=by
 induction n with
 |zero=>rfl
 |succ n ih=>rw[xz,xQ,ih,xz];rfl
theorem tx{n j:Nat}{i:Int}(e:i=j)(h:j<n):ixN n i=some j:=by subst e;unfold ixN;rw[if_pos (Int.natCast_nonneg _),if_pos (by omega)];simp
theorem sf(l:List Int)(j:Nat)(x:Int):(l.map V.int).set j (.int x)=(l.set j x).map V.int:=by rw[List.map_set]
theorem aR{l:List Int}{j:Nat}{i:Int}(e:i=j)(h:j<l.length):atI (l.map V.int) i=some (.int (cf l j)):=by subst e;exact dq (by rw[List.getElem?_map,cV h];rfl)
def SameB(p:Addr)(H H':Hp):Prop:=∀b o,b≠p->H b=some o->H' b=some o
theorem SameB.refl(p:Addr)(H:Hp):SameB p H H:=λ_ _ _ h=>h
theorem SameB.then_new{p q:Addr}{H H1:Hp}{o:HO}(s:SameB p H H1)(h:H1 q=none):SameB p H (upd H1 q o):=λb u n e=>by rw[ar (aN (s b u n e) h)];exact s b u n e
theorem SameB.then_upd{p:Addr}{H H1:Hp}{o:HO}(s:SameB p H H1):SameB p H (upd H1 p o):=λb u n e=>by rw[ar n];exact s b u n e
def AllB(k:Nat)(l:List Int):Prop:=∀x∈l,Bits k x
theorem AllB.cf{k:Nat}{l:List Int}(h:AllB k l)(n:Nat):Bits k (cf l n):=by
 by_cases hn:n<l.length
 ·rw[aC hn];exact h _ (xC hn)
 ·rw[ay (xr hn)];exact Bits.zero
theorem fY{H H2:Hp}{p:Addr}{o:HO}(s:Same H H2)(hp:H p=none):Same H (upd H2 p o):=λb u e=>by rw[ar (aN e hp)];exact s b u e
theorem bJ(l:List Int)(x:Int):l.map V.int++[V.int x]=(l++[x]).map V.int:=by rw[wH];rfl
theorem AllB.app{k:Nat}{l r:List Int}(h1:AllB k l)(h2:AllB k r):AllB k (l++r):=λx hx=>(wQ.mp hx).elim (h1 x) (h2 x)
theorem AllB.zeros{k n:Nat}:AllB k (List.replicate n 0):=λx hx=>by rw[List.eq_of_mem_replicate hx];exact Bits.zero
theorem AllB.mono{j k:Nat}{l:List Int}(h:AllB j l)(hk:j<=k:=by decide):AllB k l:=λx hx=>(h x hx).mono hk
theorem AllB.nil{k:Nat}:AllB k []:=λ_ h=>nomatch h
theorem AllB.snoc{k:Nat}{l:List Int}{x:Int}(h:AllB k l)(hx:Bits k x):AllB k (l++[x]):=h.app λy hy=>by rw[w5.mp hy];exact hx
theorem r9{l:List Int}{x:Int}(h:x∈trim l):x∈l:=by
 unfold trim at h
 rw[xu]at h;exact xu.mp ((List.dropWhile_sublist _).subset h)
theorem AllB.trim{k:Nat}{l:List Int}(h:AllB k l):AllB k (trim l):=λx hx=>h x (r9 hx)
theorem gb(l r:List Int):l.map V.int++r.map V.int=(l++r).map V.int:=(wH ..).symm
theorem eB{l:List Int}{i:Nat}{x:V}(h:(l.map V.int)[i]?=some x):∃c,l[i]?=some c/\x=.int c/\c∈l/\l.take (i+1)=l.take i++[c]:=by
 rw[List.getElem?_map]at h;cases e:l[i]? with
 |none=>rw[e]at h;cases h
 |some c=>rw[e]at h;exact⟨c,rfl,(Option.some.inj h).symm,List.mem_of_getElem? e,by rw[xo,e];rfl⟩
def mkL(H:Hp)(Q:VK)(r:List Int):Prop:=∀(p:Addr) (H':Hp),Same H H'->H p=none->H' p=some (.lst (r.map V.int))->Q (.ref p) H'
def fw(K:PySem.W.Frag):Sp:=λvs H Q _=>∃(a:Addr) (ns:List Int),vs=[.ref a]/\SqL K H a (ns.map V.int)/\mkL H Q (trim ns)
def fC(K:PySem.W.Frag):Sp:=λvs H Q _=>∃(a:Addr) (ns:List Int) (k:Nat),vs=[.ref a,.int k]/\SqL K H a (ns.map V.int)/\Q (.int (ns.getD k 0)) H
def gB(K:PySem.W.Frag)(g:List Int->List Int->List Int):Sp:=λvs H Q _=>∃(a b:Addr) (xs ys:List Int),vs=[.ref a,.ref b]/\SqL K H a (xs.map V.int)/\SqL K H b (ys.map V.int)/\xs.length<=1000000/\ys.length<=1000000/\mkL H Q (g xs ys)
theorem se(i j:Nat):(if((j:Nat):Int)>((i:Nat):Int)then((j:Nat):Int)else((i:Nat):Int))=((max i j:Nat):Int):=by split<;>omega
theorem kF{n:Nat}(h:n<=sizeLine) : -(2^62)<=((n:Nat):Int)/\((n:Nat):Int)<2^62:=by have:=sizeLine_eq;omega
def RwH(H:Hp)(ps:List Addr)(xss:List (List Int)):Prop:=ps.length=xss.length/\∀(i:Nat) (p:Addr) (xs:List Int),ps[i]?=some p->xss[i]?=some xs->H p=some (.lst (xs.map V.int))
theorem RwH.nil{H:Hp}:RwH H [] []:=⟨rfl,λi p xs h=>by simp at h⟩
theorem RwH.same{H H':Hp}{ps:List Addr}{xss:List (List Int)}(h:RwH H ps xss)(s:Same H H'):RwH H' ps xss:=⟨h.1,λi p xs a b=>s _ _ (h.2 i p xs a b)⟩
theorem RwH.snoc{H:Hp}{ps:List Addr}{xss:List (List Int)}{p:Addr}{xs:List Int}(h:RwH H ps xss)(hp:H p=some (.lst (xs.map V.int))):RwH H (ps++[p]) (xss++[xs]):=by
 refine⟨by rw[wF,wF,h.1];rfl,λi q ys a b=>?_⟩;by_cases hi:i<ps.length
 ·rw[List.getElem?_append_left hi]at a;rw[List.getElem?_append_left (by rw[<- h.1];exact hi)]at b;exact h.2 i q ys a b
 ·rw[List.getElem?_append_right (by omega)]at a;rw[List.getElem?_append_right (by rw[<- h.1];omega),<- h.1]at b;by_cases h0:i-ps.length=0
  ·rw[h0]at a b;obtain rfl:p=q:=by simpa using a
   obtain rfl:xs=ys:=by simpa using b
   exact hp
  ·rw[List.getElem?_eq_none_iff.mpr (by simp;omega)]at a;cases a
theorem RwH.get{H:Hp}{ps:List Addr}{xss:List (List Int)}{i:Nat}(h:RwH H ps xss)(hi:i<xss.length):∃p,ps[i]?=some p/\H p=some (.lst ((xss.getD i []).map V.int)):=by
 have hi':i<ps.length:=by rw[h.1];exact hi
 refine⟨ps[i],List.getElem?_eq_getElem hi',h.2 i _ _ (List.getElem?_eq_getElem hi') ?_⟩;rw[List.getElem?_eq_getElem hi];simp[List.getD,hi]
theorem RwH.of_get{H:Hp}{ps:List Addr}{xss:List (List Int)}{i:Nat}{x:V}(h:RwH H ps xss)(hx:(ps.map V.ref)[i]?=some x):∃p xs,x=.ref p/\ps[i]?=some p/\xss[i]?=some xs/\H p=some (.lst (xs.map V.int))/\i<xss.length:=by
 rw[List.getElem?_map]at hx;cases e:ps[i]? with
 |none=>rw[e]at hx;cases hx
 |some p =>
  rw[e]at hx;have hi:i<ps.length:=(List.getElem?_eq_some_iff.mp e).1;have hi':i<xss.length:=by rw[<- h.1];exact hi
  exact⟨p,xss[i],(Option.some.inj hx).symm,rfl,List.getElem?_eq_getElem hi',h.2 i p _ e (List.getElem?_eq_getElem hi'),hi'⟩
theorem RwH.erase{H:Hp}{ps:List Addr}{xss:List (List Int)}(h:RwH H ps xss)(k:Nat):RwH H (ps.take k++ps.drop (k+1)) (xss.take k++xss.drop (k+1)):=by
 have hl:=h.1;refine⟨by simp[hl],λi q ys a b=>?_⟩;by_cases hi:i<(ps.take k).length
 ·have hi2:i<(xss.take k).length:=by rw[wU]at *;omega
  rw[List.getElem?_append_left hi,List.getElem?_take]at a;rw[List.getElem?_append_left hi2,List.getElem?_take]at b;have hk:i<k:=by rw[wU]at hi;omega
  rw[if_pos hk]at a b;exact h.2 i q ys a b
 ·have hi2:(xss.take k).length<=i:=by rw[wU]at *;omega
  rw[List.getElem?_append_right (by omega),List.getElem?_drop]at a;rw[List.getElem?_append_right hi2,List.getElem?_drop]at b;have e:(ps.take k).length=(xss.take k).length:=by rw[wU,wU,hl]
  rw[e]at a;exact h.2 _ q ys a b
theorem iZ(ps:List Addr)(p:Addr):ps.map V.ref++[V.ref p]=(ps++[p]).map V.ref:=by rw[wH];rfl
theorem uu(ps:List Addr)(k:Nat):ck (ps.map V.ref) none (some (k:Int))=(ps.take k).map V.ref:=by
 unfold ck;rw[HT.sIx_none,HT.sIx_nat,List.drop_zero,xy,wE,List.map_take];by_cases h:k<=ps.length
 ·rw[xT h]
 ·rw[Nat.min_eq_right (by omega),xW (by simp),xW (by simp;omega)]
theorem uw(ps:List Addr)(k:Nat):ck (ps.map V.ref) (some (k:Int)) none=(ps.drop k).map V.ref:=by
 unfold ck;rw[HT.sIx_none,HT.sIx_nat,wE];by_cases h:k<=ps.length
 ·rw[xT h,<- List.map_drop,xW (by simp)]
 ·rw[Nat.min_eq_right (by omega),xx,List.take_zero,List.drop_of_length_le (by omega)];rfl
theorem k4{i:Nat}{v:V}{σ:St}{H:Hp}{Q:St->Hp->Prop}(h:Q (σ.set i (some v)) H):cF i v σ H Q:=h
def TuH(H:Hp)(ps:List Addr)(xss:List (List Int)):Prop:=ps.length=xss.length/\∀(i:Nat) (p:Addr) (xs:List Int),ps[i]?=some p->xss[i]?=some xs->H p=some (.tup (xs.map V.int))
theorem TuH.nil{H:Hp}:TuH H [] []:=⟨rfl,λi p xs h=>by simp at h⟩
theorem TuH.same{H H':Hp}{ps:List Addr}{xss:List (List Int)}(h:TuH H ps xss)(s:Same H H'):TuH H' ps xss:=⟨h.1,λi p xs a b=>s _ _ (h.2 i p xs a b)⟩
theorem TuH.snoc{H:Hp}{ps:List Addr}{xss:List (List Int)}{p:Addr}{xs:List Int}(h:TuH H ps xss)(hp:H p=some (.tup (xs.map V.int))):TuH H (ps++[p]) (xss++[xs]):=by
 refine⟨by rw[wF,wF,h.1];rfl,λi q ys a b=>?_⟩;by_cases hi:i<ps.length
 ·rw[List.getElem?_append_left hi]at a;rw[List.getElem?_append_left (by rw[<- h.1];exact hi)]at b;exact h.2 i q ys a b
 ·rw[List.getElem?_append_right (by omega)]at a;rw[List.getElem?_append_right (by rw[<- h.1];omega),<- h.1]at b;by_cases h0:i-ps.length=0
  ·rw[h0]at a b;obtain rfl:p=q:=by simpa using a
   obtain rfl:xs=ys:=by simpa using b
   exact hp
  ·rw[List.getElem?_eq_none_iff.mpr (by simp;omega)]at a;cases a
theorem TuH.of_get{H:Hp}{ps:List Addr}{xss:List (List Int)}{i:Nat}{x:V}(h:TuH H ps xss)(hx:(ps.map V.ref)[i]?=some x):∃p xs,x=.ref p/\ps[i]?=some p/\xss[i]?=some xs/\H p=some (.tup (xs.map V.int))/\i<xss.length:=by
 rw[List.getElem?_map]at hx;cases e:ps[i]? with
 |none=>rw[e]at hx;cases hx
 |some p =>
  rw[e]at hx;have hi:i<ps.length:=(List.getElem?_eq_some_iff.mp e).1;have hi':i<xss.length:=by rw[<- h.1];exact hi
  exact⟨p,xss[i],(Option.some.inj hx).symm,rfl,List.getElem?_eq_getElem hi',h.2 i p _ e (List.getElem?_eq_getElem hi'),hi'⟩
def kC:Sp:=λvs H Q _=>∃(l:Addr) (ps:List Addr) (xss:List (List Int)),vs=[.ref l]/\H l=some (.lst (ps.map V.ref))/\RwH H ps xss/\(∀xs∈xss,xs≠[])/\xss.length<=1000000/\Q (.int (fnn xss:Nat)) H
theorem mR{xss:List (List Int)}{i:Nat}(h:i<xss.length):xss.getD i []∈xss:=by
 have:xss.getD i []=xss[i]:=by simp[List.getD,h]
 rw[this];exact xC h
theorem rA(F:Fun K "first_not_nought" "first_not_nought" gW f fd)(T:Txt K mg):FnOk P w K mg base CX0 1 f fd ["rows"] kC:=by
 refine F.ok sc_first_not_nought (λvs H Q E h=>?_) (λcdv A outer s H vs Q E hr h=>?_)
 ·obtain⟨l,ps,xss,rfl,_⟩:=h;rfl
 ·obtain⟨l,ps,xss,rfl,hL,hR,hne,hn,k⟩:=h
  refine⟨_,(ah (ak (i:=1) sc_first_not_nought.nd rfl (Or.inl rfl) ag)
   (ah (dN PassesOwn.never (PW.pt (ix (aP fW (pv 1) (aI (aY (K:=K) rfl) (by rfl) T.len_ PySem.boot_len (aa (pv 0) ac)) (aM _)) (iw (aP cL (aF (aH (K:=K) rfl) (aF (aH (K:=K) rfl) (pv 0) (pv 1) (λ_ _=>rfl)) ag (λ_ _=>rfl)) ag (aM _)))))
     (al (ak (i:=1) sc_first_not_nought.nd rfl (Or.inl rfl) (af aE (pv 1) ag))))
   (al (av (pv 1))))),?_⟩
  have hpl:(ps.map V.ref).length=xss.length:=by rw[wE,hR.1]
  refine aA ?_;refine⟨λm σ' H'=>∃j:Nat,σ'=[some (.ref l),some (.int j)]/\H=H'/\j<=xss.length/\xss.length-j=m/\∀i,i<j->cf (xss.getD i []) 0=0,⟨_,0,rfl,rfl,wL _,rfl,λi h=>absurd h (Nat.not_lt_zero _)⟩,?_⟩;rintro m σ' H' ⟨j,rfl,rfl,hj,rfl,hz⟩;have fin:fnn xss=j->Q (.int (j:Nat)) H:=λe=>by rw[e]at k;exact k
  refine⟨_,rfl,_,rfl,l,_,rfl,.inl (SqL.of hL),_,_,rfl,rfl,_,rfl,a0 (λh=>?_) (λh=>?_)⟩
  ·rw[hpl]at h;have hj':j<xss.length:=by omega
   obtain⟨p,ep,hp⟩:=hR.get hj';have hne':=hne _ (mR hj');have hl0:=wK.mpr hne';refine⟨_,rfl,_,rfl,l,_,_,.ref p,rfl,rfl,SqL.of hL,dq (by rw[List.getElem?_map,ep];rfl),p,_,_,_,rfl,rfl,SqL.of hp,aR (j:=0) rfl hl0,_,_,rfl,rfl,_,rfl,a0 (λh0=>?_) (λh0=>?_)⟩
   ·refine⟨λσ'' H''=>∃m',m'<xss.length-j/\∃j:Nat,σ''=[some (.ref l),some (.int j)]/\H=H''/\j<=xss.length/\xss.length-j=m'/\∀i,i<j->cf (xss.getD i []) 0=0,λ_ _ h=>h,?_⟩;refine⟨_,rfl,_,_,rfl,rfl,xss.length-(j+1),by omega,j+1,rfl,rfl,hj',rfl,λi hi=>?_⟩;by_cases e:i=j
    ·subst e;exact h0
    ·exact hz i (by omega)
   ·exact⟨_,rfl,fin (mX (xq hj') hz (.inr h0))⟩
  ·rw[hpl]at h;exact⟨_,rfl,fin (mX hj hz (.inl (by omega)))⟩
def kE:Sp:=λvs H Q _=>∃(a h:Addr) (xs hs:List Int) (bf:Int),vs=[.ref a,.ref h,.int bf]/\H a=some (.lst (xs.map V.int))/\H h=some (.lst (hs.map V.int))/\xs≠[]/\xs.length<=hs.length/\xs.length<=1000000/\AllB 400000 xs/\AllB 400000 hs/\bf≠0/\mkL H Q (clr hs bf xs)
theorem rE(F:Fun K "cleared" "cleared" fD f fd)(T:Txt K mg)(hNS:base.NoSeer)(hTr:P.given.tree=none):FnOk P w K mg base CX0 33 f fd ["row","head","before"] kE:=by
 refine F.ok pL (λvs H Q E h=>?_) (λcdv A outer s H vs Q E hr h=>?_)
 ·obtain⟨a,h',xs,hs,bf,rfl,_⟩:=h;rfl
 ·obtain⟨a,h',xs,hs,bf,rfl,hA,hH,hne,hle,hn,bx,bh,b0,k⟩:=h;have big:=sizeLine_eq;have hxl:=wK.mpr hne;have hdp:(A.deeper (PyProof.Rows.envOfC (Str.ofString "cleared") (ax fD) s.heap.objs.size f cdv)).depth+100<recursionLimit:=by have:=hr.dp;omega
  refine⟨_,(al (av (br (own:=["k"]) (fr:=["before","head","row"]) (js:=[2,1,0]) (by walk_at "comp_ok") rfl (iJ rfl T.range_ (aa ag (aa (aI (aY (K:=K) rfl) (by rfl) T.len_ PySem.boot_len (aa (pv 0) ac)) ac))) (λ_ _ _ _=>(aD (i:=0) (show List.Nodup (["k","before","head","row"]:List Str)from by decide +kernel) rfl (Or.inl rfl))) (λ_ _ _ _=>(af (qZ hNS hTr hdp rfl rfl rfl rfl rfl) (af aT (af aV (aF (aH (K:=K) rfl) (pv 2) ag (λ_ _=>rfl)) (aF (aH (K:=K) rfl) (pv 3) (pv 0) (λ_ _=>rfl))) (af aV (aF (aH (K:=K) rfl) (pv 3) ag (λ_ _=>rfl)) (aF (aH (K:=K) rfl) (pv 2) (pv 0) (λ_ _=>rfl)))) (pv 1)))))),?_⟩;have hl:(xs.map V.int).length=xs.length:=wE _;refine bA ⟨_,rfl,a,_,rfl,.inl (SqL.of hA),_,_,rfl,by rw[hl];omega,?_⟩;have en:(((xs.map V.int).length:Int)-1).toNat=xs.length-1:=by rw[hl];omega
  rw[en];refine bL (lo:=1) (n:=xs.length-1) (λi ys σ' H'=>∃z:Option V,σ'=[z,some (.int bf),some (.ref h'),some (.ref a)]/\ys=((List.range i).map λk=>V.int ((cf hs 0*cf xs (k+1)-cf xs 0*cf hs (k+1)).fdiv bf))/\H=H') (by omega) ⟨none,rfl,rfl,rfl⟩ ?_ ?_ ?_
  ·rintro i ys σ' H' _ ⟨z,rfl,rfl,rfl⟩;simp
  ·rintro i ys σ' H' hi ⟨z,rfl,rfl,rfl⟩;have e0:(1:Int)+(i:Int)=((i+1:Nat):Int):=by omega
   have m9:(400000:Nat)<=1000000:=by decide
   refine⟨_,rfl,h',_,_,_,rfl,rfl,SqL.of hH,aR (j:=0) rfl (by omega),_,rfl,_,rfl,a,_,_,_,rfl,rfl,SqL.of hA,aR e0 (by omega),_,_,rfl,rfl,⟨(bh.cf 0).mono m9,(bx.cf (i+1)).mono m9⟩,_,rfl,a,_,_,_,rfl,rfl,SqL.of hA,aR (j:=0) rfl hxl,_,rfl,_,rfl,h',_,_,_,rfl,rfl,SqL.of hH,aR e0 (by omega),_,_,rfl,rfl,⟨(bx.cf 0).mono m9,(bh.cf (i+1)).mono m9⟩,_,_,rfl,rfl,_,rfl,_,_,rfl,rfl,b0,_,rfl,?_,rfl⟩;rw[xj,wH];rfl
  ·rintro ys σ' H' p ⟨z,rfl,rfl,rfl⟩ hp;refine k p _ (Same.upd_new hp) hp ?_;rw[ai];unfold clr;rw[wO];rfl
def fB:Sp:=λvs H Q _=>∃(l:Addr) (ps:List Addr) (xss:List (List Int)) (b:Nat),vs=[.ref l]/\H l=some (.lst (ps.map V.ref))/\RwH H ps xss/\(∀xs∈xss,xs.length=xss.length)/\(∀xs∈xss,AllB b xs)/\xss.length<=16/\b<=2000/\∀H',Same H H'->Q (.int (D xss.length (xss.map cf))) H'
theorem rB(F:Fun K "determinant" "determinant" gX f fd)(T:Txt K mg)(vH:Cal P w K mg base 1 "first_not_nought" ["rows"] kC wv v9)(vJ:Cal P w K mg base 33 "cleared" ["row","head","before"] kE wx wb):FnOk P w K mg base CX0 34 f fd ["rows"] fB:=by
 obtain⟨vj,sw,tf,uU⟩:=vH;obtain⟨vk,sx,tj,uV⟩:=vJ;refine F.ok sc_determinant (λvs H Q E h=>?_) (λcdv A outer s H vs Q E hr h=>?_)
 ·obtain⟨l,ps,xss,b,rfl,_⟩:=h;rfl
 ·obtain⟨l0,ps0,xss,b,rfl,hL,hR,hsq,hbt,hsz,hb5,k⟩:=h;have big:=sizeLine_eq;have hbt':∀x∈xss,∀j,(cf x j).natAbs<=2^b:=λx hx j=>xq ((hbt x hx).cf j)
  have hstart:DInv xss 1 (b+4) 0 xss.length:=DInv.start hsz hbt';rw[<- ur hsz hsq hbt']at k;clear hbt'
  refine⟨_,(ah (iz (i:=1) sc_determinant.nd rfl (Or.inl rfl) (own:=["row"]) (fr:=[]) (js:=[]) (by walk_at "comp_ok") rfl (cy (K:=K) rfl (pv 0)) (λ_ _ _ _=>(aD (i:=0) (show List.Nodup (["row"]:List Str)from by decide +kernel) rfl (Or.inl rfl))) (λ_ _ _ _=>(lA (nT (K:=K) rfl) (by rfl) T.list_ PyProof.Rows.boot_list (aa (pv 0) ac))) (by rfl))
   (ah (ak (i:=2) sc_determinant.nd rfl (Or.inr rfl) ag)
   (ah (ak (i:=3) sc_determinant.nd rfl (Or.inl rfl) ag)
   (ah (dN PassesOwn.never (aP iO (aI (aY (K:=K) rfl) (by rfl) T.len_ PySem.boot_len (aa (pv 1) ac)) ag (aM _))
     (ah (ak (i:=4) sc_determinant.nd rfl (Or.inl rfl) (am vj (hr.mono) rfl sw tf uU .nil ao (aa (pv 1) ac)))
       (ah (bn (aP cL (pv 4) (aI (aY (K:=K) rfl) (by rfl) T.len_ PySem.boot_len (aa (pv 1) ac)) (aM _))
         (al (av ag))
         bj)
       (ah (bn (aP cL (af bR (pv 4) ag) ag (aM _))
         (al (ak (i:=3) sc_determinant.nd rfl (Or.inl rfl) (cz cq (pv 3))))
         bj)
       (ah (ak (i:=5) sc_determinant.nd rfl (Or.inr rfl) (aF (aH (K:=K) rfl) (pv 1) (pv 4) (λ_ _=>rfl)))
       (ah (iz (i:=1) sc_determinant.nd rfl (Or.inl rfl) (own:=["row"]) (fr:=["head","before"]) (js:=[5,2]) (by walk_at "comp_ok") rfl (cy (K:=K) rfl (af b9 (iK (gC (K:=K) rfl) (pv 1) iE (iD (pv 4))) (iK (gC (K:=K) rfl) (pv 1) (iD (af aE (pv 4) ag)) iE))) (λ_ _ _ _=>(aD (i:=0) (show List.Nodup (["row","head","before"]:List Str)from by decide +kernel) rfl (Or.inl rfl))) (λ_ _ _ _=>(am vk (hr.mono) rfl sx tj uV .nil ao (aa (pv 0) (aa (pv 1) (aa (pv 2) ac))))) (by rfl))
       (al (ak (i:=2) sc_determinant.nd rfl (Or.inr rfl) (aF (aH (K:=K) rfl) (pv 5) ag (λ_ _=>rfl))))))))))
   (al (av (af aV (pv 3) (pv 2)))))))),?_⟩
  have hpl:(ps0.map V.ref).length=xss.length:=by rw[wE,hR.1]
  refine⟨_,rfl,l0,rfl,⟨_,SqL.of hL⟩,dn (K:=K) (a:=l0) (xs:=ps0.map V.ref) (λi ys σ' H'=>∃(z0:Option V) (qs:List Addr),σ'=[z0]/\ys=qs.map V.ref/\qs.length=i/\Same H H'/\RwH H' qs (xss.take i)) (by rw[hpl];omega) ⟨none,[],rfl,rfl,rfl,λ_ _ e=>e,RwH.nil⟩ ?_ ?_ ?_⟩
  ·rintro i ys σ' H' _ ⟨z0,qs,rfl,rfl,rfl,sm,_⟩;exact⟨SqL.of (sm _ _ hL),by rw[wE];exact wG _⟩
  ·rintro i x ys σ' H' hi ⟨z0,qs,rfl,rfl,rfl,sm,hq⟩;obtain⟨p,xs,rfl,ep,ex,hp,hlt⟩:=hR.of_get hi;refine⟨_,rfl,p,_,rfl,.inl (SqL.of (sm _ _ hp)),λq hq'=>?_⟩;refine⟨_,qs++[q],rfl,iZ qs q,by rw[wF];rfl,sm.then_new hq',?_⟩;have et:xss.take (qs.length+1)=xss.take qs.length++[xs]:=by rw[xo,ex];rfl
   rw[et];exact(hq.same (Same.upd_new hq')).snoc ai
  rintro ys σ' H1 l1 ⟨z0,ps,rfl,rfl,hql,sm1,hR1⟩ hl1;rw[hpl,xw]at hR1;rw[hpl]at hql;have s2:=sm1.then_new (o:=.lst (ps.map V.ref)) hl1;have hL2:upd H1 l1 (.lst (ps.map V.ref)) l1=some (.lst (ps.map V.ref)):=ai;have hR2:=hR1.same (Same.upd_new (o:=.lst (ps.map V.ref)) hl1);generalize upd H1 l1 (.lst (ps.map V.ref))=H2 at s2 hL2 hR2 ⊢
  show bD (cR (tC (V.int 1)) (cF 2)) _ _ _ _;refine aA (k5 ?_);show bD (cR (tC (V.int 1)) (cF 3)) _ _ _ _;refine aA (k5 ?_);show bD (ka _ _) _ _ _ _
  refine⟨λm σ' H'=>∃(l:Addr) (ps:List Addr) (left:List (List Int)) (bf sgn:Int) (z4 z5:Option V),σ'=[some (.ref l0),some (.ref l),some (.int bf),some (.int sgn),z4,z5]/\Same H H'/\H' l=some (.lst (ps.map V.ref))/\RwH H' ps left/\left.length=m/\(∀xs∈left,xs.length=m)/\DInv left bf (b+4) (xss.length-m) xss.length/\m<=xss.length/\bf≠0/\Bits 33000 bf/\Bits 1 sgn/\bV m left bf sgn=bV xss.length xss 1 1,
   ⟨_,l1,ps,xss,1,1,none,none,rfl,s2,hL2,hR2,rfl,hsq,by rw[xx];exact hstart,wG _,by decide,Bits.mono (j:=1) (by show(1:Int).natAbs<2^1;decide) (by decide),by show(1:Int).natAbs<2^1;decide,rfl⟩,?_⟩
  rintro m σ' H3 ⟨l,ps,left,bf,sgn,z4,z5,rfl,s3,hL3,hR3,hlen,hsq3,hI,hmn,hbf,bbf,bsg,hdet⟩;have hpl3:(ps.map V.ref).length=m:=by rw[wE,hR3.1,hlen]
  refine⟨_,rfl,l,_,rfl,.inl (SqL.of hL3),_,_,rfl,rfl,_,rfl,a0 (λh=>?_) (λh=>?_)⟩
  rotate_left
  ·rw[hpl3]at h;have hm0:m=0:=by omega
   subst hm0;refine⟨_,rfl,_,rfl,_,_,rfl,rfl,⟨bsg.mono,bbf.mono⟩,?_⟩;have e:sgn*bf=bV xss.length xss 1 1:=hdet;dsimp only
   rw[e];exact k _ s3
  rw[hpl3]at h;have hm0:0<m:=by omega
  have hm9:m<=9000:=by omega
  have hc9:33000<=33000:=by decide
  have hb3:∀xs∈left,AllB 33000 xs:=λxs hx y hy=>by obtain⟨i,hi,rfl⟩:=x0.mp hy;have h1:=hI.bits (by omega) hx i;rw[aC hi]at h1;have h2:(b+4)*(1+(xss.length-m))<=2004*16:=xL (by omega) (by omega);have h3:2^((b+4)*(1+(xss.length-m)))<2^33000:=(Nat.pow_lt_pow_iff_right (by decide)).mpr (by omega);exact xY h1 h3
  have hne3:∀xs∈left,xs≠[]:=λxs hx z=>by have:=hsq3 xs hx;rw[z]at this;simp at this;omega
  refine⟨λσ'' H''=>∃m',m'<m/\∃(l:Addr) (ps:List Addr) (left:List (List Int)) (bf sgn:Int) (z4 z5:Option V),σ''=[some (.ref l0),some (.ref l),some (.int bf),some (.int sgn),z4,z5]/\Same H H''/\H'' l=some (.lst (ps.map V.ref))/\RwH H'' ps left/\left.length=m'/\(∀xs∈left,xs.length=m')/\DInv left bf (b+4) (xss.length-m') xss.length/\m'<=xss.length/\bf≠0/\Bits 33000 bf/\Bits 1 sgn/\bV m' left bf sgn=bV xss.length xss 1 1,λ_ _ h=>h,?_⟩;refine aA ⟨_,rfl,l,ps,left,rfl,hL3,hR3,hne3,by omega,?_⟩;have hfl:=gg left;obtain⟨m1,rfl⟩:∃m1,m=m1+1:=⟨m-1,by omega⟩;refine il ⟨_,rfl,_,rfl,l,_,rfl,.inl (SqL.of hL3),_,_,rfl,rfl,_,rfl,a0 (λh0=>?_) (λh0=>?_)⟩
  ·rw[hpl3]at h0;have e:fnn left=left.length:=by omega
   have e2:bV xss.length xss 1 1=0:=by rw[<- hdet];show(if fnn left=left.length then 0 else _)=_;rw[if_pos e]
   refine bA ?_;have kk:=k H3 s3;rw[e2]at kk;exact kk
  rw[hpl3]at h0;have hfn:fnn left<left.length:=by omega
  have hfne:=gf hfn
  have hd1:bV m1 ((left.take (fnn left)++left.drop (fnn left+1)).map (clr (left.getD (fnn left) []) bf)) (cf (left.getD (fnn left) []) 0) (if fnn left%2=1 then -sgn else sgn)=bV xss.length xss 1 1:=by rw[<- hdet];show _=(if fnn left=left.length then 0 else _);rw[if_neg (show ¬fnn left=left.length by omega)]
  obtain⟨hd,ehd,hhd⟩:=hR3.get hfn;have hmem:=mR hfn;generalize hplc:fnn left=plc at hfn hfne hd1 ehd hhd hmem ⊢
  generalize left.getD plc []=head at hfne hd1 hhd hmem
  have hhl:=hsq3 head hmem;refine cx (λσ' H'=>σ'=[some (.ref l0),some (.ref l),some (.int bf),some (.int (if plc%2=1 then -sgn else sgn)),some (.int (plc:Nat)),z5]/\H3=H') ?_ ?_
  case refine_2 =>
   intro rest;refine⟨_,rfl,_,_,rfl,rfl,(by show(0:Int)<2;decide),_,_,rfl,rfl,_,rfl,a0 (λh1=>?_) (λh1=>?_)⟩
   ·have e:plc%2=1:=by have:((plc:Nat):Int)%2=1:=h1;omega
    refine cS ⟨_,rfl,_,rfl,rest _ _ ⟨?_,rfl⟩⟩;rw[if_pos e];rfl
   ·have e:¬plc%2=1:=by have:¬((plc:Nat):Int)%2=1:=h1;omega
    refine rest _ _ ⟨?_,rfl⟩;rw[if_neg e];rfl
  rintro σ' H' ⟨rfl,rfl⟩;have bsg':Bits 1 (if plc%2=1 then -sgn else sgn):=by split;exact bsg.neg;exact bsg
  generalize (if plc%2=1 then -sgn else sgn)=sgn' at hd1 bsg' ⊢
  refine aA ⟨_,rfl,_,rfl,l,_,_,.ref hd,rfl,rfl,SqL.of hL3,dq (by rw[List.getElem?_map,ehd];rfl),?_⟩;refine⟨_,rfl,_,rfl,_,rfl,l,_,rfl,SqL.of hL3,λp1 hp1=>?_⟩;rw[uu];have t1:=Same.upd_new (o:=.lst ((ps.take plc).map V.ref)) hp1;have ep1:((plc:Nat):Int)+1=((plc+1:Nat):Int):=by omega
  refine⟨_,rfl,_,rfl,_,_,rfl,rfl,((plc+1:Nat):Int),by rw[<- ep1],l,_,rfl,SqL.of (t1 _ _ hL3),λp2 hp2=>?_⟩;rw[uw];have n12:p1≠p2:=aN ai hp2;have t2:=t1.then_new (o:=.lst ((ps.drop (plc+1)).map V.ref)) hp2;refine⟨p1,p2,_,_,rfl,rfl,by rw[ar n12,ai],ai,?_,λp3 hp3=>?_⟩
  ·rw[wE,wE,wU,xv];rw[wE]at hpl3;omega
  rw[<- wH];have t3:=t2.then_new (o:=.lst ((ps.take plc++ps.drop (plc+1)).map V.ref)) hp3;have hR4:=(hR3.same t3).erase plc;have h33:upd (upd (upd H3 p1 (.lst ((ps.take plc).map V.ref))) p2 (.lst ((ps.drop (plc+1)).map V.ref))) p3 (.lst ((ps.take plc++ps.drop (plc+1)).map V.ref)) p3=some (.lst ((ps.take plc++ps.drop (plc+1)).map V.ref)):=ai;generalize upd (upd (upd H3 p1 (.lst ((ps.take plc).map V.ref))) p2 (.lst ((ps.drop (plc+1)).map V.ref))) p3 (.lst ((ps.take plc++ps.drop (plc+1)).map V.ref))=H4 at t3 hR4 h33 ⊢
  have hel:(left.take plc++left.drop (plc+1)).length=m1:=by rw[wF,wU,xv];omega
  have hmem4:∀xs,xs∈left.take plc++left.drop (plc+1)->xs∈left:=λxs hx=>(wQ.mp hx).elim List.mem_of_mem_take x3
  generalize left.take plc++left.drop (plc+1)=lefts at hd1 hR4 hel hmem4
  generalize ps.take plc++ps.drop (plc+1)=es at hR4 h33 ⊢
  have hel2:(es.map V.ref).length=m1:=by rw[wE,hR4.1,hel]
  have hhd4:=t3 _ _ hhd;refine⟨p3,rfl,⟨_,SqL.of h33⟩,dn (K:=K) (a:=p3) (xs:=es.map V.ref) (λi ys σ' H'=>∃(z0:Option V) (qs:List Addr),σ'=[z0,some (.ref hd),some (.int bf)]/\ys=qs.map V.ref/\qs.length=i/\Same H4 H'/\RwH H' qs ((lefts.take i).map (clr head bf))) (by rw[hel2];omega) ⟨none,[],rfl,rfl,rfl,λ_ _ e=>e,RwH.nil⟩ ?_ ?_ ?_⟩
  ·rintro i ys σ' H' _ ⟨z0,qs,rfl,rfl,rfl,sm,_⟩;exact⟨SqL.of (sm _ _ h33),by rw[wE];exact wG _⟩
  ·rintro i x ys σ' H' hi ⟨z0,qs,rfl,rfl,rfl,sm,hq⟩;obtain⟨p,xs,rfl,ep,ex,hp,hlt⟩:=hR4.of_get hi;have hxm:=hmem4 xs (List.mem_of_getElem? ex);have hxl:=hsq3 xs hxm;refine⟨_,rfl,_,rfl,_,rfl,p,hd,xs,head,bf,rfl,sm _ _ hp,sm _ _ hhd4,hne3 xs hxm,by omega,by omega,(hb3 xs hxm).mono (by omega),(hb3 head hmem).mono (by omega),hbf,λq H5 sm5 hq5 e5=>?_⟩;refine⟨_,qs++[q],rfl,iZ qs q,by rw[wF];rfl,sm.trans sm5,?_⟩;have et:lefts.take (qs.length+1)=lefts.take qs.length++[xs]:=by rw[xo,ex];rfl
   rw[et,wH];exact(hq.same sm5).snoc e5
  rintro ys σ' H6 l6 ⟨z0,qs,rfl,rfl,hql6,sm6,hR6⟩ hl6;rw[hel2,<- hel,xw]at hR6;have t6:=(t3.trans sm6).then_new (o:=.lst (qs.map V.ref)) hl6;have hL6:upd H6 l6 (.lst (qs.map V.ref)) l6=some (.lst (qs.map V.ref)):=ai;have hR7:=hR6.same (Same.upd_new (o:=.lst (qs.map V.ref)) hl6);generalize upd H6 l6 (.lst (qs.map V.ref))=H7 at t6 hL6 hR7 ⊢
  have hh0:0<head.length:=by omega
  refine⟨_,rfl,hd,_,_,_,rfl,rfl,SqL.of (t6 _ _ hhd),aR (j:=0) rfl hh0,?_⟩;refine⟨m1,xH _,l6,qs,lefts.map (clr head bf),cf head 0,sgn',_,_,rfl,s3.trans t6,hL6,hR7,by rw[wE,hel],?_,?_,?_,hfne,((hb3 head hmem).cf 0).mono hc9,bsg',hd1⟩
  ·intro ys hy;obtain⟨xs,hx,rfl⟩:=wJ.mp hy;rw[mj,hsq3 xs (hmem4 xs hx)];rfl
  ·have e:=hI.step hbf hmem hfne hmem4 (λx hx=>by rw[hsq3 head hmem,hsq3 x (hmem4 x hx)]);have e2:xss.length-(m1+1)+1=xss.length-m1:=by omega
   rw[e2]at e;exact e
  ·omega
def sp2:Sp:=λvs H Q _=>∃a b:Int,vs=[.int a,.int b]/\Q (.int (Nat.gcd a.natAbs b.natAbs:Nat)) H
theorem gl(i:Int):(if i<0 then -i else i)=(i.natAbs:Int):=by split<;>omega
theorem rf(F:Fun K "shared_by_two" "shared_by_two" gJ f fd)(T:Txt K mg):FnOk P w K mg base CX0 1 f fd ["one","other"] sp2:=by
 refine F.ok sc_shared_by_two (λvs H Q E h=>?_) (λcdv A outer s H vs Q E hr h=>?_)
 ·obtain⟨a,b,rfl,_⟩:=h;rfl
 ·obtain⟨a,b,rfl,k⟩:=h
  refine⟨_,(ah (ak (i:=2) sc_shared_by_two.nd rfl (Or.inl rfl) (aI nU (by rfl) T.abs_ PyProof.Rows.boot_abs (aa (pv 0) ac)))
   (ah (ak (i:=3) sc_shared_by_two.nd rfl (Or.inl rfl) (aI nU (by rfl) T.abs_ PyProof.Rows.boot_abs (aa (pv 1) ac)))
   (ah (dN PassesOwn.never (aP lI (pv 3) ag (aM _))
     (ah (ak (i:=4) sc_shared_by_two.nd rfl (Or.inl rfl) (af bR (pv 2) (pv 3)))
       (ah (ak (i:=2) sc_shared_by_two.nd rfl (Or.inl rfl) (pv 3))
       (al (ak (i:=3) sc_shared_by_two.nd rfl (Or.inl rfl) (pv 4))))))
   (al (av (pv 2)))))),?_⟩
  refine⟨_,rfl,_,rfl,?_⟩;refine⟨_,rfl,_,rfl,?_⟩;refine⟨λm σ' H'=>∃(x y:Int) (z:Option V),σ'=[some (.int a),some (.int b),some (.int x),some (.int y),z]/\H=H'/\0<=x/\0<=y/\y.natAbs=m/\Nat.gcd x.natAbs y.natAbs=Nat.gcd a.natAbs b.natAbs,⟨_,_,_,none,rfl,rfl,?_,?_,rfl,?_⟩,?_⟩
  ·rw[gl];exact Int.natCast_nonneg _
  ·rw[gl];exact Int.natCast_nonneg _
  ·rw[gl,gl,xV,xV]
  ·rintro m σ' H' ⟨x,y,z,rfl,rfl,hx,hy,rfl,hg⟩;refine⟨_,rfl,_,_,rfl,rfl,_,rfl,?_⟩;refine io (λhn=>?_) (λh0=>?_)
   ·have hp:0<y:=by have:y≠0:=hn;omega
    refine⟨λσ'' H''=>∃m',m'<y.natAbs/\∃(x' y':Int) (z:Option V),σ''=[some (.int a),some (.int b),some (.int x'),some (.int y'),z]/\H=H''/\0<=x'/\0<=y'/\y'.natAbs=m'/\Nat.gcd x'.natAbs y'.natAbs=Nat.gcd a.natAbs b.natAbs,λ_ _ h=>h,?_⟩;refine⟨_,rfl,_,rfl,_,_,rfl,rfl,hp,?_⟩;refine⟨_,rfl,?_⟩;refine⟨_,rfl,?_⟩;have h1:=Int.emod_nonneg x (Int.ne_of_gt hp);have h2:=Int.emod_lt_of_pos x hp;exact⟨(x%y).natAbs,by omega,y,x%y,_,rfl,rfl,hy,h1,rfl,by rw[tO hx hp];exact hg⟩
   ·refine⟨_,rfl,?_⟩;have e:(y:Int)=0:=h0;subst e
    have e2:(x:Int)=((Nat.gcd a.natAbs b.natAbs:Nat):Int):=by rw[<- hg];show x=((Nat.gcd x.natAbs 0:Nat):Int);rw[Nat.gcd_zero_right];omega
    rw[e2];exact k
def kv(K:PySem.W.Frag):Sp:=λvs H Q _=>∃(a:Addr) (ns:List Int),vs=[.ref a]/\SqL K H a (ns.map V.int)/\Q (.int (aq ns:Nat)) H
theorem rg(F:Fun K "shared" "shared" gK f fd)(T:Txt K mg)(vC:Cal P w K mg base 1 "shared_by_two" ["one","other"] sp2 wp v4):FnOk P w K mg base CX0 2 f fd ["row"] (kv K):=by
 obtain⟨ve,sq,sW,uP⟩:=vC;refine F.ok sc_shared (λvs H Q E h=>?_) (λcdv A outer s H vs Q E hr h=>?_)
 ·obtain⟨a,ns,rfl,_⟩:=h;rfl
 ·obtain⟨a,ns,rfl,hS,k⟩:=h
  refine⟨_,(ah (ak (i:=1) sc_shared.nd rfl (Or.inl rfl) ag)
   (ah (b7 PassesOwn.never rfl (cy (K:=K) rfl (pv 0)) (aD (i:=2) sc_shared.nd rfl (Or.inl rfl))
     (al (ak (i:=1) sc_shared.nd rfl (Or.inl rfl) (am ve (hr.mono) rfl sq sW uP .nil ao (aa (pv 1) (aa (pv 2) ac))))))
   (al (av (pv 1))))),?_⟩
  refine⟨_,rfl,a,rfl,⟨_,hS⟩,jn (K:=K) (a:=a) (xs:=ns.map V.int) (λi σ' H'=>∃z:Option V,σ'=[some (.ref a),some (.int (aq (ns.take i):Nat)),z]/\H=H') ⟨none,rfl,rfl⟩ (λi σ' H' _ ⟨z,_,e⟩=>by rw[<- e];exact hS) ?_ ?_⟩
  ·rintro i y σ' H' hi ⟨z,rfl,rfl⟩;rw[List.getElem?_map]at hi;cases e:ns[i]? with
   |none=>rw[e]at hi;cases hi
   |some n =>
    rw[e]at hi;obtain rfl:=Option.some.inj hi;refine⟨_,rfl,_,rfl,_,_,rfl,?_⟩;have e3:ns.take (i+1)=ns.take i++[n]:=by rw[xo,e];rfl
    refine⟨some (.int n),?_,rfl⟩;rw[e3,tR,xV];rfl
  ·rintro σ' H' ⟨z,rfl,rfl⟩;refine⟨_,rfl,?_⟩;rw[wE,xw];exact k
def ku:Sp:=λvs H Q _=>∃(a:Addr) (ns:List Int),vs=[.ref a]/\H a=some (.lst (ns.map V.int))/\Tr ns/\ns.length<=1000000/\AllB 9000 ns/\mkL H Q (ap ns)
theorem tV{ns:List Int}(ht:Tr ns)(hb:AllB 9000 ns)(hne:ns≠[]):0<(aq ns:Int)/\Bits 9000 (aq ns:Int):=by
 obtain⟨r,x,rfl⟩:=(cu ns).resolve_left hne;have hx:x≠0:=tr_snoc.mp ht;have hm:x∈r++[x]:=by simp
 have hd:=eC hm;have hp:0<x.natAbs:=Int.natAbs_pos.mpr hx;have h1:0<aq (r++[x]):=Nat.pos_of_dvd_of_pos hd hp;exact⟨by omega,(hb x hm).of_le (by rw[xV];exact Nat.le_of_dvd hp hd)⟩
theorem re(F:Fun K "shrunk" "shrunk" gI f fd)(T:Txt K mg)(vD:Cal P w K mg base 2 "shared" ["row"] (kv K) wq v5):FnOk P w K mg base CX0 3 f fd ["row"] ku:=by
 obtain⟨vf,sr,sX,uQ⟩:=vD;refine F.ok sc_shrunk (λvs H Q E h=>?_) (λcdv A outer s H vs Q E hr h=>?_)
 ·obtain⟨a,ns,rfl,_⟩:=h;rfl
 ·obtain⟨a,ns,rfl,hA,ht,hn,hb,k⟩:=h;have big:=sizeLine_eq
  refine⟨_,(ah (ak (i:=1) sc_shrunk.nd rfl (Or.inr rfl) (am vf (hr.mono) rfl sr sX uQ .nil ao (aa (pv 0) ac)))
   (al (av (br (own:=["value"]) (fr:=["divisor"]) (js:=[1]) (by walk_at "comp_ok") rfl (cy (K:=K) rfl (pv 0)) (λ_ _ _ _=>(aD (i:=0) (show List.Nodup (["value","divisor"]:List Str)from by decide +kernel) rfl (Or.inl rfl))) (λ_ _ _ _=>(af cC (pv 0) (pv 1))))))),?_⟩
  refine aA ⟨_,rfl,a,ns,rfl,SqL.of hA,?_⟩;refine bA ⟨_,rfl,a,rfl,⟨_,SqL.of hA⟩,dn (K:=K) (a:=a) (xs:=ns.map V.int) (λi ys σ' H'=>∃(z0:Option V),σ'=[z0,some (.int (aq ns:Nat))]/\ys=((ns.take i).map λx=>x/(aq ns:Int)).map V.int/\H=H') (by rw[wE];omega) ⟨none,rfl,rfl,rfl⟩ ?_ ?_ ?_⟩
  ·rintro i ys σ' H' _ ⟨z0,rfl,rfl,rfl⟩;exact⟨SqL.of hA,by rw[wE,wE,wU];exact Nat.min_le_left _ _⟩
  ·rintro i x ys σ' H' hi ⟨z0,rfl,rfl,rfl⟩;rw[List.getElem?_map]at hi;cases e:ns[i]? with
   |none=>rw[e]at hi;cases hi
   |some c =>rw[e]at hi;obtain rfl:=Option.some.inj hi;obtain⟨g1,g2⟩:=tV ht hb (λz=>by rw[z]at e;simp at e);refine⟨_,rfl,_,rfl,_,_,rfl,rfl,⟨g1,g2⟩,_,rfl,?_,rfl⟩;rw[xo,e];simp
  ·rintro ys σ' H' p ⟨z0,rfl,rfl,rfl⟩ hp;refine k p _ (Same.upd_new hp) hp ?_;rw[ai,wE,xw];rfl
def fz:Sp:=λvs H Q _=>∃(a:Addr) (ns:List Int),vs=[.ref a]/\H a=some (.lst (ns.map V.int))/\Tr ns/\ns.length<=1000000/\AllB 9000 ns/\mkL H Q (aB ns)
theorem uY(r:List Int)(x:Int):atI ((r++[x]).map V.int) (-1)=some (.int x):=by rw[wH];exact uZ _ _
theorem rm(F:Fun K "plain" "plain" gQ f fd)(T:Txt K mg)(vB:Cal P w K mg base 3 "shrunk" ["row"] ku wo vZ):FnOk P w K mg base CX0 4 f fd ["row"] fz:=by
 obtain⟨vd,sn,sU,uO⟩:=vB;refine F.ok sc_plain (λvs H Q E h=>?_) (λcdv A outer s H vs Q E hr h=>?_)
 ·obtain⟨a,ns,rfl,_⟩:=h;rfl
 ·obtain⟨a,ns,rfl,hA,ht,hn,hb,k⟩:=h;have big:=sizeLine_eq;have hu:=hr.units
  refine⟨_,(ah (ak (i:=1) sc_plain.nd rfl (Or.inl rfl) (am vd (hr.mono) rfl sn sU uO .nil ao (aa (pv 0) ac)))
   (ah (bn (PW.pt (ix (aP (fV (K:=K) rfl hu) (pv 1) (aL ac) (aM _)) (iw (aP fW (aF (aH (K:=K) rfl) (pv 1) (cz cq ag) (λ_ _=>rfl)) ag (aM _)))))
     (al (av (br (own:=["value"]) (fr:=[]) (js:=[]) (by walk_at "comp_ok") rfl (cy (K:=K) rfl (pv 1)) (λ_ _ _ _=>(aD (i:=0) (show List.Nodup (["value"]:List Str)from by decide +kernel) rfl (Or.inl rfl))) (λ_ _ _ _=>(cz cq (pv 0))))))
     bj)
   (al (av (pv 1))))),?_⟩
  refine aA ⟨_,rfl,a,ns,rfl,hA,ht,hn,hb,λp H1 s1 hp e1=>?_⟩;have hsl:(ap ns).length=ns.length:=wE _;have done:aU (ap ns)=ap ns->Q (.ref p) H1:=λe=>k p H1 s1 hp (by rw[e1];show _=some (HO.lst ((aU (ap ns)).map V.int));rw[e])
  refine cx (λσ' H'=>σ'=[some (.ref a),some (.ref p)]/\Same H H'/\H' p=some (.lst ((ap ns).map V.int))/\aU (ap ns)=ap ns) ?_ ?_
  ·rintro σ' H' ⟨rfl,s2,e2,e3⟩;exact⟨_,rfl,k p H' s2 hp (by rw[e2];show _=some (HO.lst ((aU (ap ns)).map V.int));rw[e3])⟩
  intro rest;refine qk ⟨_,rfl,wL _,λq hq=>?_⟩;have s2:Same H (upd H1 q (.lst [])):=s1.then_new hq;have e2:upd H1 q (.lst []) p=some (.lst ((ap ns).map V.int)):=by rw[ar (aN e1 hq)];exact e1
  refine⟨p,q,ap ns,[],rfl,rfl,SqL.of e2,SqL.of ai,_,rfl,?_⟩;refine io (λhne=>?_) (λhe=>?_)
  ·obtain⟨r,x,er⟩:=(cu (ap ns)).resolve_left hne;refine⟨_,rfl,_,rfl,p,_,_,.int x,rfl,rfl,SqL.of e2,(by rw[er];exact uY r x),_,_,rfl,rfl,_,rfl,?_⟩;have elast:bB (ap ns)=x:=by rw[er,d6]
   refine a0 (λhx=>?_) (λhx=>?_)
   ·have hx':x<0:=hx;have epos:aU (ap ns)=(ap ns).map λx => -x:=by unfold aU;rw[elast,if_pos hx']
    refine bA ⟨_,rfl,p,rfl,⟨_,SqL.of e2⟩,dn (K:=K) (a:=p) (xs:=(ap ns).map V.int) (λi ys σ' H'=>∃(z0:Option V),σ'=[z0]/\ys=(((ap ns).take i).map λx => -x).map V.int/\upd H1 q (.lst [])=H') (by rw[wE,hsl];omega) ⟨none,rfl,rfl,rfl⟩ ?_ ?_ ?_⟩
    ·rintro i ys σ' H' _ ⟨z0,rfl,rfl,rfl⟩;exact⟨SqL.of e2,by rw[wE,wE,wU];exact Nat.min_le_left _ _⟩
    ·rintro i x ys σ' H' hi ⟨z0,rfl,rfl,rfl⟩;rw[List.getElem?_map]at hi;cases e:(ap ns)[i]? with
     |none=>rw[e]at hi;cases hi
     |some c =>rw[e]at hi;obtain rfl:=Option.some.inj hi;refine⟨_,rfl,_,rfl,_,rfl,?_,rfl⟩;rw[xo,e];simp
    ·rintro ys σ' H' p' ⟨z0,rfl,rfl,rfl⟩ hp';refine k p' _ (s2.then_new hp') (s2.free hp') ?_;rw[ai,wE,xw];show _=some (HO.lst ((aU (ap ns)).map V.int));rw[epos]
   ·exact rest _ _ ⟨rfl,s2,e2,by unfold aU;rw[elast,if_neg hx]⟩
  ·have he':ap ns=[]:=he;exact rest _ _ ⟨rfl,s2,e2,by rw[he'];rfl⟩
theorem rk(F:Fun K "poly" "poly" gO f fd)(T:Txt K mg):FnOk P w K mg base CX0 1 f fd ["row"] (fw K):=by
 refine F.ok sc_poly (λvs H Q E h=>?_) (λcdv A outer s H vs Q E hr h=>?_)
 ·obtain⟨a,ns,rfl,_⟩:=h;rfl
 ·obtain⟨a,ns,rfl,hS,k⟩:=h
  refine⟨_,(ah (ak (i:=1) sc_poly.nd rfl (Or.inl rfl) (aI (aY (K:=K) rfl) (by rfl) T.len_ PySem.boot_len (aa (pv 0) ac)))
   (ah (dN PassesOwn.never (PW.pt (ix (aP iO (pv 1) ag (aM _)) (iw (aP cL (aF (aH (K:=K) rfl) (pv 0) (af aT (pv 1) ag) (λ_ _=>rfl)) ag (aM _)))))
     (al (ak (i:=1) sc_poly.nd rfl (Or.inl rfl) (af aT (pv 1) ag))))
   (al (av (iK (gC (K:=K) rfl) (pv 0) iE (iD (pv 1))))))),?_⟩
  refine⟨_,rfl,a,_,rfl,.inl hS,?_⟩;refine⟨λm σ' H'=>∃n:Nat,n<=ns.length/\σ'=[some (.ref a),some (.int n)]/\H=H'/\n=m/\trim (ns.take n)=trim ns,⟨_,ns.length,wG _,?_,rfl,rfl,?_⟩,?_⟩
  ·rw[wE];rfl
  ·rw[xw]
  ·rintro m σ' H' ⟨n,hn,rfl,rfl,rfl,ht⟩
   have fin:trim (ns.take n)=ns.take n->∃v,([some (V.ref a),some (V.int n)]:St)[0]?=some (some v)/\∃v_1,([some (V.ref a),some (V.int n)]:St)[1]?=some (some v_1)/\∃i,v_1=V.int i/\iu K v none (some i) H Q:=λh=>by
    refine⟨_,rfl,_,rfl,n,rfl,a,_,rfl,hS,λp hp=>k p _ (Same.upd_new hp) hp ?_⟩;rw[ai,<- ht,h]
    have e:ck (ns.map V.int) none (some (n:Int))=(ns.take n).map V.int:=by unfold ck;rw[HT.sIx_none,HT.sIx_nat,List.drop_zero,xy,wE,xT hn,List.map_take]
    rw[e]
   refine⟨_,rfl,_,_,rfl,rfl,_,rfl,?_⟩;refine a0 (λhp=>?_) (λhp=>?_)
   ·obtain⟨j,rfl⟩:∃j,n=j+1:=⟨n-1,by have:(0:Int)<n:=hp;omega⟩;have hj:j<ns.length:=hn;refine⟨_,rfl,_,rfl,_,_,rfl,rfl,a,_,j,.int (cf ns j),rfl,?_,hS,dq ?_,_,_,rfl,rfl,_,rfl,?_⟩
    ·show V.int (((j+1:Nat):Int)-1)=V.int j
     congr 1;omega
    ·rw[List.getElem?_map,cV hj];rfl
    refine a0 (λh0=>?_) (λh0=>?_)
    ·refine⟨λσ'' H''=>∃m',m'<j+1/\∃n:Nat,n<=ns.length/\σ''=[some (.ref a),some (.int n)]/\H=H''/\n=m'/\trim (ns.take n)=trim ns,λ_ _ h=>h,?_⟩;refine⟨_,rfl,_,_,rfl,rfl,j,xH _,j,xq hj,?_,rfl,rfl,?_⟩
     ·show[some (V.ref a),some (V.int (((j+1:Nat):Int)-1))]=[some (V.ref a),some (V.int j)]
      congr 4;omega
     ·rw[<- ht,oN hj h0]
    ·exact fin (oO hj h0)
   ·obtain rfl:n=0:=by have:¬(0:Int)<n:=hp;omega
    exact fin (by rw[List.take_zero];rfl)
def dA:Sp:=λvs H Q _=>∃(a:Addr) (xs:List V),vs=[.ref a]/\H a=some (.lst xs)/\Q (.int ((xs.length:Int)-1)) H
theorem rC(F:Fun K "degree" "degree" gY f fd)(T:Txt K mg):FnOk P w K mg base CX0 1 f fd ["row"] dA:=by
 refine F.ok pJ (λvs H Q E h=>?_) (λcdv A outer s H vs Q E hr h=>?_)
 ·obtain⟨a,xs,rfl,_⟩:=h;rfl
 ·obtain⟨a,xs,rfl,hA,k⟩:=h;refine⟨_,(al (av (af aT (aI (aY (K:=K) rfl) (by rfl) T.len_ PySem.boot_len (aa (pv 0) ac)) ag))),?_⟩;exact⟨_,rfl,a,_,rfl,.inl (SqL.of hA),_,_,rfl,rfl,k⟩
theorem rD(F:Fun K "coefficient" "coefficient" gZ f fd)(T:Txt K mg):FnOk P w K mg base CX0 1 f fd ["row","place"] (fC K):=by
 refine F.ok pK (λvs H Q E h=>?_) (λcdv A outer s H vs Q E hr h=>?_)
 ·obtain⟨a,ns,k,rfl,_⟩:=h;rfl
 ·obtain⟨a,ns,n,rfl,hS,k⟩:=h
  refine⟨_,(ah (bn (aP fW (pv 1) (aI (aY (K:=K) rfl) (by rfl) T.len_ PySem.boot_len (aa (pv 0) ac)) (aM _))
   (al (av (aF (aH (K:=K) rfl) (pv 0) (pv 1) (λ_ _=>rfl))))
   bj)
   (al (av ag))),?_⟩
  refine⟨_,rfl,_,rfl,a,_,rfl,.inl hS,_,_,rfl,rfl,_,rfl,?_⟩;refine a0 (λh1=>?_) (λh1=>?_)
  ·rw[wE]at h1;have h2:n<ns.length:=by omega
   refine⟨_,rfl,_,rfl,a,_,_,_,rfl,rfl,hS,dq (v:=.int (ns.getD n 0)) ?_,k⟩;rw[List.getElem?_map,List.getElem?_eq_getElem h2];simp[List.getD,h2]
  ·rw[wE]at h1;have h2:ns.length<=n:=by omega
   have e:ns.getD n 0=0:=by simp[List.getD,List.getElem?_eq_none_iff.mpr h2]
   rw[e]at k;exact k
theorem rF(F:Fun K "added" "added" g6 f fd)(T:Txt K mg)(fc:Cal P w K mg base 1 "poly" ["row"] (fw K) ni m5)(vI:Cal P w K mg base 1 "coefficient" ["row","place"] (fC K) ww wa):FnOk P w K mg base CX0 2 f fd ["first","second"] (gB K aS):=by
 obtain⟨eU,dW,d9,eM⟩:=fc;obtain⟨oi,lZ,mB,n6⟩:=vI;refine F.ok sc_added (λvs H Q E h=>?_) (λcdv A outer s H vs Q E hr h=>?_)
 ·obtain⟨a,b,xs,ys,rfl,_⟩:=h;rfl
 ·obtain⟨a,b,xs,ys,rfl,hA,hB,hx,hy,k⟩:=h
  refine⟨_,(ah (ak (i:=2) sc_added.nd rfl (Or.inl rfl) (aI (nR rfl) (by rfl) T.max_ PyProof.Rows.boot_max (aa (aI (aY (K:=K) rfl) (by rfl) T.len_ PySem.boot_len (aa (pv 0) ac)) (aa (aI (aY (K:=K) rfl) (by rfl) T.len_ PySem.boot_len (aa (pv 1) ac)) ac))))
   (al (av (am eU (hr.mono) rfl dW d9 eM .nil ao (aa (br (own:=["k"]) (fr:=["first","second"]) (js:=[0,1]) (by walk_at "comp_ok") rfl (bI rfl T.range_ (aa (pv 2) ac)) (λ_ _ _ _=>(aD (i:=0) (show List.Nodup (["k","first","second"]:List Str)from by decide +kernel) rfl (Or.inl rfl))) (λ_ _ _ _=>(af aE (am oi (hr.mono) rfl lZ mB n6 .nil ao (aa (pv 1) (aa (pv 0) ac))) (am oi (hr.mono) rfl lZ mB n6 .nil ao (aa (pv 2) (aa (pv 0) ac)))))) ac))))),?_⟩
  refine⟨_,rfl,a,_,rfl,.inl hA,_,rfl,b,_,rfl,.inl hB,_,_,rfl,?_⟩;rw[se,wE,wE];have hz:max xs.length ys.length<=sizeLine:=by have:=sizeLine_eq;omega
  refine⟨_,rfl,_,rfl,(kF hz).1,(kF hz).2,bL (lo:=0) (n:=max xs.length ys.length) (λi zs σ' H'=>∃z:Option V,σ'=[z,some (.ref a),some (.ref b)]/\zs=((List.range i).map λk=>V.int (cf xs k+cf ys k))/\H=H') hz ⟨none,rfl,rfl,rfl⟩ ?_ ?_ ?_⟩
  ·rintro i zs σ' H' _ ⟨z,rfl,rfl,rfl⟩;simp
  ·rintro i zs σ' H' hi ⟨z,rfl,rfl,rfl⟩;refine⟨_,rfl,_,rfl,a,xs,i,?_,hA,_,rfl,_,rfl,b,ys,i,?_,hB,_,_,rfl,rfl,_,rfl,?_,rfl⟩
   ·show[V.ref a,V.int (0+(i:Int))]=_;rw[xt]
   ·show[V.ref b,V.int (0+(i:Int))]=_;rw[xt]
   ·rw[xj,wH];rfl
  ·rintro zs σ' H' p ⟨z,rfl,rfl,rfl⟩ hp;refine⟨p,(List.range (max xs.length ys.length)).map λk=>cf xs k+cf ys k,rfl,SqL.of ?_,?_⟩
   ·rw[ai,wO];rfl
   ·intro p' H' sm hp' e;refine k p' H' ((Same.upd_new hp).trans sm) ((Same.upd_new hp).free hp') ?_;rw[e,u7]
def gA:Sp:=λvs H Q _=>∃(a b:Addr) (xs ys:List Int),vs=[.ref a,.ref b]/\H a=some (.lst (xs.map V.int))/\H b=some (.lst (ys.map V.int))/\xs.length<=1000000/\ys.length<=1000000/\AllB 1000000 xs/\AllB 1000000 ys/\mkL H Q (ae xs ys)
theorem rq(F:Fun K "multiplied" "multiplied" gT f fd)(T:Txt K mg):FnOk P w K mg base CX0 1 f fd ["first","second"] gA:=by
 refine F.ok sc_multiplied (λvs H Q E h=>?_) (λcdv A outer s H vs Q E hr h=>?_)
 ·obtain⟨a,b,xs,ys,rfl,_⟩:=h;rfl
 ·obtain⟨a,b,xs,ys,rfl,hA,hB,hx,hy,bx,by',k⟩:=h;have hu:=hr.units
  refine⟨_,(ah (bn (PW.pt (dL (aP (iP (K:=K) rfl hu) (pv 0) (aL ac) (aM _)) (dJ (aP (iP (K:=K) rfl hu) (pv 1) (aL ac) (aM _)))))
   (al (av (aL ac)))
   bj)
   (ah (ak (i:=2) sc_multiplied.nd rfl (Or.inl rfl) (af fU (aL (aa ag ac)) (af aT (af aE (aI (aY (K:=K) rfl) (by rfl) T.len_ PySem.boot_len (aa (pv 0) ac)) (aI (aY (K:=K) rfl) (by rfl) T.len_ PySem.boot_len (aa (pv 1) ac))) ag)))
   (ah (b7 PassesOwn.never rfl (ln rfl T.enumerate_ (aa (pv 0) ac)) (lw rfl (fL (aD (i:=3) sc_multiplied.nd rfl (Or.inl rfl)) (fL (aD (i:=4) sc_multiplied.nd rfl (Or.inl rfl)) lu)))
     (al (b7 PassesOwn.never rfl (ln rfl T.enumerate_ (aa (pv 1) ac)) (lw rfl (fL (aD (i:=5) sc_multiplied.nd rfl (Or.inl rfl)) (fL (aD (i:=6) sc_multiplied.nd rfl (Or.inl rfl)) lu)))
       (al (qx (af aE (aF (aH (K:=K) rfl) (pv 2) (af aE (pv 3) (pv 5)) (λ_ _=>rfl)) (af aV (pv 4) (pv 6))) (qS (pv 2) (af aE (pv 3) (pv 5)) pF))))))
   (al (av (pv 2)))))),?_⟩
  refine⟨_,rfl,wL _,λp1 hp1=>?_⟩;have s1:Same H (upd H p1 (.lst [])):=Same.upd_new hp1;refine⟨a,p1,xs,[],rfl,rfl,SqL.of (s1 _ _ hA),SqL.of ai,_,rfl,?_⟩;refine a0 (λh0=>?_) (λh0=>?_)
  ·refine qg ⟨wL _,λp2 hp2=>k p2 _ (s1.then_new hp2) (s1.free hp2) ?_⟩;rw[ai];unfold ae;rw[if_pos (.inl h0)];rfl
  refine⟨_,rfl,wL _,λp2 hp2=>?_⟩;have s2:Same H (upd (upd H p1 (.lst [])) p2 (.lst [])):=s1.then_new hp2;refine⟨b,p2,ys,[],rfl,rfl,SqL.of (s2 _ _ hB),SqL.of ai,_,rfl,?_⟩;refine a0 (λh1=>?_) (λh1=>?_)
  ·refine⟨wL _,λp3 hp3=>k p3 _ (s2.then_new hp3) (s2.free hp3) ?_⟩;rw[ai];unfold ae;rw[if_pos (.inr h1)];rfl
  generalize upd (upd H p1 (.lst [])) p2 (.lst [])=H2 at s2 ⊢
  obtain⟨la,ea⟩:∃la,xs.length=la+1:=⟨xs.length-1,by have:=wK.mpr h0;omega⟩;obtain⟨lb,eb⟩:∃lb,ys.length=lb+1:=⟨ys.length-1,by have:=wK.mpr h1;omega⟩;refine⟨(by show 1<=sizeLine;decide),λp3 hp3=>?_⟩;have s3:=s2.then_new (o:=.lst [V.int 0]) hp3;have big:=sizeLine_eq;refine⟨_,rfl,a,_,rfl,.inl (SqL.of (s3 _ _ hA)),_,rfl,b,_,rfl,.inl (SqL.of (s3 _ _ hB)),_,_,rfl,rfl,_,_,rfl,rfl,p3,_,_,rfl,rfl,ai,?_,?_,?_,λp hp=>?_⟩
  ·rw[wE,wE];omega
  ·rw[wE,wE];omega
  ·rw[wE,wE];show 1*_<=_;omega
  have en:(((xs.map V.int).length:Int)+((ys.map V.int).length:Int)-1).toNat=la+lb+1:=by rw[wE,wE];omega
  rw[en,fF];have s4:=s3.then_new (o:=.lst ((List.replicate (la+lb+1) (0:Int)).map V.int)) hp;have npa:a≠p:=s3.ne hA hp;have npb:b≠p:=s3.ne hB hp;generalize hH4:upd (upd H2 p3 (.lst [V.int 0])) p (.lst ((List.replicate (la+lb+1) (0:Int)).map V.int))=H4 at s4 ⊢
  have hp4:H4 p=some (.lst ((List.replicate (la+lb+1) (0:Int)).map V.int)):=by rw[<- hH4,ai]
  refine⟨_,rfl,a,rfl,⟨_,SqL.of (s4 _ _ hA)⟩,mV (K:=K) (a:=a) (xs:=xs.map V.int) (λj σ' H'=>∃(acc:List Int) (z3 z4 z5 z6:Option V),σ'=[some (.ref a),some (.ref b),some (.ref p),z3,z4,z5,z6]/\SameB p H4 H'/\H' p=some (.lst (acc.map V.int))/\acc.length=la+lb+1/\∀n,n<acc.length->cf acc n=sm xs ys n j)
   ⟨List.replicate (la+lb+1) 0,none,none,none,none,rfl,SameB.refl _ _,hp4,by simp,λn _=>by rw[eH];rfl⟩ ?_ ?_ ?_⟩
  ·rintro j σ' H' _ ⟨acc,z3,z4,z5,z6,rfl,sb,_⟩;exact SqL.of (sb _ _ npa (s4 _ _ hA))
  ·rintro j x σ' H' q hj ⟨acc,z3,z4,z5,z6,rfl,sb,hpa,hal,hac⟩ hq;rw[List.getElem?_map]at hj
   have hjl:j<xs.length:=by apply Classical.byContradiction;intro hn;rw[List.getElem?_eq_none_iff.mpr (xr hn)]at hj;cases hj
   rw[cV hjl]at hj;obtain rfl:=Option.some.inj hj;refine⟨q,_,rfl,SqT.of ai,rfl,_,_,rfl,_,_,rfl,rfl,?_⟩;have nqp:p≠q:=aN hpa hq;have sb1:SameB p H4 (upd H' q (.tup [.int j,.int (cf xs j)])):=sb.then_new hq
   refine⟨_,rfl,b,rfl,⟨_,SqL.of (sb1 _ _ npb (s4 _ _ hB))⟩,mV (K:=K) (a:=b) (xs:=ys.map V.int) (λi σ' H'=>∃(acc:List Int) (z5 z6:Option V),σ'=[some (.ref a),some (.ref b),some (.ref p),some (.int j),some (.int (cf xs j)),z5,z6]/\SameB p H4 H'/\H' p=some (.lst (acc.map V.int))/\acc.length=la+lb+1/\∀n,n<acc.length->cf acc n=sm xs ys n j+(if j<=n/\n-j<i then tm xs ys n j else 0))
    ⟨acc,z5,z6,rfl,sb1,by rw[ar nqp];exact hpa,hal,rX hac⟩ ?_ ?_ ?_⟩
   ·rintro i σ' H' _ ⟨acc,z5,z6,rfl,sb,_⟩;exact SqL.of (sb _ _ npb (s4 _ _ hB))
   ·rintro i x σ' H' q hi ⟨acc,z5,z6,rfl,sb,hpa,hal,hac⟩ hq;rw[List.getElem?_map]at hi
    have hil:i<ys.length:=by apply Classical.byContradiction;intro hn;rw[List.getElem?_eq_none_iff.mpr (xr hn)]at hi;cases hi
    rw[cV hil]at hi;obtain rfl:=Option.some.inj hi;refine⟨q,_,rfl,SqT.of ai,rfl,_,_,rfl,_,_,rfl,rfl,?_⟩;have nqp:p≠q:=aN hpa hq;have hpa':upd H' q (.tup [.int i,.int (cf ys i)]) p=some (.lst (acc.map V.int)):=by rw[ar nqp];exact hpa
    have hji:j+i<acc.length:=by omega
    have eji:((j:Nat):Int)+((i:Nat):Int)=((j+i:Nat):Int):=by omega
    refine⟨_,rfl,_,rfl,_,rfl,_,_,rfl,rfl,p,_,_,_,rfl,rfl,SqL.of hpa',aR eji hji,_,rfl,_,rfl,_,_,rfl,rfl,⟨bx.cf j,by'.cf i⟩,_,_,rfl,rfl,_,rfl,_,rfl,_,rfl,_,_,rfl,rfl,p,_,_,j+i,rfl,rfl,hpa',tx eji (by rw[wE];exact hji),?_⟩;refine⟨acc.set (j+i) (cf acc (j+i)+cf xs j*cf ys i),_,_,rfl,(sb.then_new hq).then_upd,by rw[ai,sf],by rw[List.length_set];exact hal,rW hjl hil hji hac⟩
   ·rintro σ' H' ⟨acc,z5,z6,rfl,sb,hpa,hal,hac⟩;rw[wE]at hac;exact⟨acc,_,_,_,_,rfl,sb,hpa,hal,rY hac⟩
  ·rintro σ' H' ⟨acc,z3,z4,z5,z6,rfl,sb,hpa,hal,hac⟩;rw[wE]at hac;refine⟨_,rfl,k p H' (λb' o e=>sb b' o (s3.ne e hp) (s4 b' o e)) (s3.free hp) ?_⟩;rw[hpa]
   have e:acc=ae xs ys:=by
    apply jr
    ·rw[hal];unfold ae;rw[if_neg (by intro z;exact z.elim h0 h1),wE,wN];omega
    ·intro n _;rw[aW,rZ (by omega) hac]
   rw[e]
theorem iq{Q:Hp->Prop}{H1 H2:Hp}(e:H1=H2)(h:Q H2):Q H1:=by rw[e];exact h
def kt:Sp:=λvs H Q _=>∃(a:Addr) (ns:List Int) (n:Nat),vs=[.ref a,.int (n:Nat)]/\H a=some (.lst (ns.map V.int))/\ns.length<=1000/\n<=1000/\∀(p:Addr) (H':Hp) (ps:List Addr),Same H H'->H' p=some (.lst (ps.map V.ref))->RwH H' ps (az ns n)->Q (.ref p) H'
theorem rd(F:Fun K "slid" "slid" gH f fd)(T:Txt K mg):FnOk P w K mg base CX0 1 f fd ["row","many"] kt:=by
 refine F.ok sc_slid (λvs H Q E h=>?_) (λcdv A outer s H vs Q E hr h=>?_)
 ·obtain⟨a,ns,n,rfl,_⟩:=h;rfl
 ·obtain⟨a,ns,n,rfl,hA,hl,hn,k⟩:=h;have big:=sizeLine_eq
  refine⟨_,(ah (ak (i:=2) sc_slid.nd rfl (Or.inr rfl) (lx (K:=K) rfl rfl (by rfl) T.list_ (by rfl) T.reversed_ (aa (pv 0) ac)))
   (al (av (br (own:=["k"]) (fr:=["falling","many"]) (js:=[2,1]) (by walk_at "comp_ok") rfl (bI rfl T.range_ (aa (pv 1) ac)) (λ_ _ _ _=>(aD (i:=0) (show List.Nodup (["k","falling","many"]:List Str)from by decide +kernel) rfl (Or.inl rfl))) (λ_ _ _ _=>(af b9 (af b9 (af fU (aL (aa ag ac)) (pv 0)) (pv 1)) (af fU (aL (aa ag ac)) (af aT (af aT (pv 2) ag) (pv 0))))))))),?_⟩
  refine aA ⟨_,rfl,a,_,rfl,SqL.of hA,λpf hpf=>?_⟩;rw[<- List.map_reverse];have s1:Same H (upd H pf (.lst (ns.reverse.map V.int))):=Same.upd_new hpf;have q1:upd H pf (.lst (ns.reverse.map V.int)) pf=some (.lst (ns.reverse.map V.int)):=ai;generalize upd H pf (.lst (ns.reverse.map V.int))=H1 at s1 q1 ⊢
  have hrl:ns.reverse.length=ns.length:=wW;refine bA ⟨_,rfl,_,rfl,by omega,by omega,?_⟩;refine bL (lo:=0) (n:=n) (λt zs σ' H'=>∃(z:Option V) (ps:List Addr),σ'=[z,some (.ref pf),some (.int (n:Nat))]/\zs=ps.map V.ref/\ps.length=t/\Same H1 H'/\RwH H' ps ((az ns n).take t)) (by omega) ⟨none,[],rfl,rfl,rfl,λ_ _ e=>e,RwH.nil⟩ ?_ ?_ ?_
  ·rintro t zs σ' H' _ ⟨z,ps,rfl,rfl,rfl,_⟩;rw[wE];exact wG _
  ·rintro t zs σ' H' ht ⟨z,ps,rfl,rfl,hpt,sm,hR⟩;have ei:(0:Int)+(t:Int)=((t:Nat):Int):=by omega
   refine⟨by show 1<=sizeLine;decide,λp1 hp1=>⟨_,rfl,p1,_,_,rfl,rfl,ai,by omega,by omega,?_,λp2 hp2=>?_⟩⟩
   ·show 1*(0+(t:Int)).toNat<=sizeLine;omega
   have t1:Same H' (upd H' p1 (.lst [V.int 0])):=Same.upd_new hp1;have er:(List.replicate (0+(t:Int)).toNat [V.int 0]).flatten=(List.replicate t (0:Int)).map V.int:=by rw[ei,Int.toNat_natCast,fF]
   rw[er];have t2:=t1.then_new (o:=.lst ((List.replicate t (0:Int)).map V.int)) hp2;have q2:upd (upd H' p1 (.lst [V.int 0])) p2 (.lst ((List.replicate t (0:Int)).map V.int)) p2=some (.lst ((List.replicate t (0:Int)).map V.int)):=ai;generalize upd (upd H' p1 (.lst [V.int 0])) p2 (.lst ((List.replicate t (0:Int)).map V.int))=H2 at t2 q2 ⊢
   refine⟨_,rfl,p2,pf,_,_,rfl,rfl,q2,(sm.trans t2) _ _ q1,by rw[wE,wE,w8,hrl];omega,λp3 hp3=>?_⟩;rw[gb];have t3:=t2.then_new (o:=.lst ((List.replicate t (0:Int)++ns.reverse).map V.int)) hp3;have q3:upd H2 p3 (.lst ((List.replicate t (0:Int)++ns.reverse).map V.int)) p3=some (.lst ((List.replicate t (0:Int)++ns.reverse).map V.int)):=ai;generalize upd H2 p3 (.lst ((List.replicate t (0:Int)++ns.reverse).map V.int))=H3 at t3 q3 ⊢
   refine⟨by show 1<=sizeLine;decide,λp4 hp4=>⟨_,rfl,_,_,rfl,rfl,_,rfl,_,_,rfl,rfl,?_⟩⟩;have en:((n:Nat):Int)-1-(0+(t:Int))=((n-1-t:Nat):Int):=by omega
   dsimp only
   rw[en];refine⟨p4,_,_,rfl,rfl,ai,by omega,by omega,?_,λp5 hp5=>?_⟩
   ·show 1*((n-1-t:Nat):Int).toNat<=sizeLine;omega
   have er2:(List.replicate ((n-1-t:Nat):Int).toNat [V.int 0]).flatten=(List.replicate (n-1-t) (0:Int)).map V.int:=by rw[Int.toNat_natCast,fF]
   rw[er2];have t4:Same H3 (upd H3 p4 (.lst [V.int 0])):=Same.upd_new hp4;have t5:=t4.then_new (o:=.lst ((List.replicate (n-1-t) (0:Int)).map V.int)) hp5;refine⟨p3,p5,_,_,rfl,rfl,t5 _ _ q3,ai,by rw[wE,wE,wF,w8,w8,hrl];omega,λp6 hp6=>?_⟩;rw[gb];have t6:=(t3.trans t5).then_new (o:=.lst ((List.replicate t (0:Int)++ns.reverse++List.replicate (n-1-t) (0:Int)).map V.int)) hp6;refine⟨_,ps++[p6],rfl,iZ ps p6,by rw[wF,hpt];rfl,sm.trans t6,?_⟩
   have et:(az ns n).take (t+1)=(az ns n).take t++[List.replicate t (0:Int)++ns.reverse++List.replicate (n-1-t) (0:Int)]:=by rw[xo];unfold az;rw[List.getElem?_map,List.getElem?_range (by omega)];rfl
   rw[et];exact(hR.same t6).snoc ai
  rintro zs σ' H' p ⟨z,ps,rfl,rfl,hpt,sm,hR⟩ hp;have hsl:(az ns n).length=n:=by unfold az;simp
  have e:(az ns n).take n=az ns n:=xW (by omega);have hR':RwH H' ps (az ns n):=by rw[<- e];exact hR
  exact k p _ ps ((s1.trans sm).then_new hp) ai (hR'.same (Same.upd_new hp))
theorem RwH.cat{H:Hp}{ps qs:List Addr}{xss yss:List (List Int)}(h1:RwH H ps xss)(h2:RwH H qs yss):RwH H (ps++qs) (xss++yss):=by
 refine⟨by rw[wF,wF,h1.1,h2.1],λi p xs a b=>?_⟩;by_cases hi:i<ps.length
 ·rw[List.getElem?_append_left hi]at a;rw[List.getElem?_append_left (by rw[<- h1.1];exact hi)]at b;exact h1.2 i p xs a b
 ·rw[List.getElem?_append_right (by omega)]at a;rw[List.getElem?_append_right (by rw[<- h1.1];omega),<- h1.1]at b;exact h2.2 _ p xs a b
def fy:Sp:=λvs H Q _=>∃(a b:Addr) (xs ys:List Int),vs=[.ref a,.ref b]/\H a=some (.lst (xs.map V.int))/\H b=some (.lst (ys.map V.int))/\xs≠[]/\ys≠[]/\xs.length<=100/\ys.length<=100/\∀(p:Addr) (H':Hp) (ps:List Addr),Same H H'->H' p=some (.lst (ps.map V.ref))->RwH H' ps (az xs (ys.length-1)++az ys (xs.length-1))->Q (.ref p) H'
theorem ra(F:Fun K "table" "table" gF f fd)(T:Txt K mg)(vA:Cal P w K mg base 1 "slid" ["row","many"] kt wn vY)(c0:Cal P w K mg base 1 "degree" ["row"] dA jq jp):FnOk P w K mg base CX0 2 f fd ["first","second"] fy:=by
 obtain⟨oh,lY,mz,n5⟩:=vA;obtain⟨cn,ca,ce,cm⟩:=c0;refine F.ok pI (λvs H Q E h=>?_) (λcdv A outer s H vs Q E hr h=>?_)
 ·obtain⟨a,b,xs,ys,rfl,_⟩:=h;rfl
 ·obtain⟨a,b,xs,ys,rfl,hA,hB,hx,hy,hxl,hyl,k⟩:=h;have big:=sizeLine_eq;have hxp:=wK.mpr hx;have hyp:=wK.mpr hy;refine⟨_,(al (av (af b9 (am oh (hr.mono) rfl lY mz n5 .nil ao (aa (pv 0) (aa (am cn (hr.mono) rfl ca ce cm .nil ao (aa (pv 1) ac)) ac))) (am oh (hr.mono) rfl lY mz n5 .nil ao (aa (pv 1) (aa (am cn (hr.mono) rfl ca ce cm .nil ao (aa (pv 0) ac)) ac)))))),?_⟩;have e1:(((ys.map V.int).length:Nat):Int)-1=((ys.length-1:Nat):Int):=by rw[wE];omega
  have e2:(((xs.map V.int).length:Nat):Int)-1=((xs.length-1:Nat):Int):=by rw[wE];omega
  refine bA ⟨_,rfl,_,rfl,b,_,rfl,hB,a,xs,ys.length-1,by rw[e1];rfl,hA,by omega,by omega,λp1 H1 ps s1 q1 hR1=>?_⟩;refine⟨_,rfl,_,rfl,a,_,rfl,s1 _ _ hA,b,ys,xs.length-1,by rw[e2];rfl,s1 _ _ hB,by omega,by omega,λp2 H2 qs s2 q2 hR2=>?_⟩;have l1:(az xs (ys.length-1)).length=ys.length-1:=by unfold az;simp
  have l2:(az ys (xs.length-1)).length=xs.length-1:=by unfold az;simp
  refine⟨p1,p2,_,_,rfl,rfl,s2 _ _ q1,q2,by rw[wE,wE,hR1.1,hR2.1];omega,λp3 hp3=>?_⟩;rw[<- wH];exact k p3 _ (ps++qs) ((s1.trans s2).then_new hp3) ai (((hR1.same s2).cat hR2).same (Same.upd_new hp3))
theorem uI{k:Nat}{z B:Int}(h0 : -B<=z)(h:z<=B)(hb:Bits k B):Bits k z:=hb.of_le (by omega)
theorem px{c z:Int}(hz:0<=z) : -z<=c%(2*z+1)-z/\c%(2*z+1)-z<=z:=by have h1:=Int.emod_nonneg c (show 2*z+1≠0 by omega);have h2:=Int.emod_lt_of_pos c (show 0<2*z+1 by omega);omega
theorem two9:Bits 9000 2:=Bits.mono (j:=2) (by show(2:Int).natAbs<2^2;decide) (by decide)
theorem j9:Bits 9000 3:=Bits.mono (j:=2) (by show(3:Int).natAbs<2^2;decide) (by decide)
theorem AllB.of_cf{k:Nat}{l:List Int}(h:∀n,Bits k (RM.cf l n)):AllB k l:=λx hx=>by
 obtain⟨i,hi,rfl⟩:=x0.mp hx;have:=h i
 rwa [aC hi]at this
theorem uC(a b:List Int)(n:Nat):cf (aS a b) n=cf a n+cf b n:=eJ a b n
theorem kN{i j:Nat}{a b:List Int}{n:Nat}(ha:AllB i a)(hb:AllB j b):∀m,Bits (i+j+m) (sm a b n m)
 |0=>Bits.zero
 |m+1=>by
  rw[sm];refine(kN ha hb m).add ?_;unfold tm;split
  ·exact((ha.cf m).mul (hb.cf _)).mono (by omega)
  ·exact Bits.zero
theorem f7{i j k:Nat}{a b:List Int}(ha:AllB i a)(hb:AllB j b)(hk:i+j+a.length<=k):AllB k (ae a b):=AllB.of_cf λn=>by rw[aW];exact(kN ha hb a.length).mono hk
theorem gk{k:Nat}{a b:List Int}(ha:AllB k a)(hb:AllB k b):AllB (k+1) (aS a b):=AllB.of_cf λn=>by rw[uC];exact(ha.cf n).add (hb.cf n)
theorem lW(a b:List Int):(ae a b).length<=a.length+b.length:=by
 unfold ae;split
 ·exact wL _
 ·rw[wE,wN];omega
theorem n9(a b:List Int):(aS a b).length<=max a.length b.length:=by refine xb (di _) ?_;unfold bK;rw[wE,wN];exact wG _
theorem r0{c:Int}{l:List Int}(h:l≠[]):(ae [c] l).length=l.length:=by unfold ae;rw[if_neg (λz=>z.elim (λy=>nomatch y) h),wE,wN];show 1+l.length-1=l.length;omega
def ky:Sp:=λvs H Q _=>∃(a:Addr) (ns:List Int) (x:Nat),vs=[.ref a,.int (x:Nat)]/\H a=some (.lst (ns.map V.int))/\Tr ns/\ns≠[]/\ns.length<=9/\AllB 1000 ns/\x<=100/\mkL H Q (opp (x:Nat) ns)
theorem fR(x:Int):∀l:List Int,(opp x l).length<=l.length
 | []=>wG _
 |v::l=>by
  have ih:=fR x l;show(aS (ae (opp x l) [x,-1]) (trim [v])).length<=l.length+1;have h1:=n9 (ae (opp x l) [x,-1]) (trim [v]);have h2:=di [v]
  have h3:(ae (opp x l) [x,-1]).length<=(opp x l).length+1:=by
   unfold ae;split
   ·exact wL _
   ·rw[wE,wN];show _+2-1<=_;omega
  rw[xG]at h2;omega
theorem fT{x:Int}(hx:Bits 8 x):∀{l:List Int},l.length<=9->AllB 1000 l->AllB (1000+20*l.length) (opp x l)
 | [],_,_=>AllB.nil
 |v::l,hl,h=>by
  rw[wI]at hl;have ih:=fT hx (l:=l) (by omega) λy hy=>h y (wP _ hy)
  have h1:=fR x l
  have h2:AllB 8 [x,-1]:=λy hy=>by
   simp only[wZ,xK,or_false]at hy;rcases hy with rfl |rfl
   ·exact hx
   ·show(-1:Int).natAbs<2^8;decide
  have h3:AllB (1000+20*l.length+19) (ae (opp x l) [x,-1]):=f7 ih h2 (by omega);have h4:AllB (1000+20*l.length+19) (trim [v]):=AllB.trim λy hy=>by rw[w5.mp hy];exact(h v (wT ..)).mono (by omega)
  exact(gk h3 h4).mono (by rw[wI];omega)
theorem rp(F:Fun K "opposed" "opposed" gR f fd)(T:Txt K mg)(jY:Cal P w K mg base 2 "added" ["first","second"] (gB K aS) uh uf)(jX:Cal P w K mg base 1 "multiplied" ["first","second"] gA ug ue)(fc:Cal P w K mg base 1 "poly" ["row"] (fw K) ni m5):FnOk P w K mg base CX0 3 f fd ["row","x"] ky:=by
 obtain⟨jP,i4,jf,jI⟩:=jY;obtain⟨jO,i0,je,jH⟩:=jX;obtain⟨eU,dW,d9,eM⟩:=fc;refine F.ok sc_opposed (λvs H Q E h=>?_) (λcdv A outer s H vs Q E hr h=>?_)
 ·obtain⟨a,ns,x,rfl,_⟩:=h;rfl
 ·obtain⟨a,ns,x,rfl,hA,ht,hne,hl,hb,hx,k⟩:=h;have bx:Bits 8 ((x:Nat):Int):=by show((x:Nat):Int).natAbs<256;omega
  refine⟨_,(ah (ak (i:=2) sc_opposed.nd rfl (Or.inl rfl) (aL ac))
   (ah (b7 PassesOwn.never rfl (qP rfl T.reversed_ (aa (pv 0) ac)) (aD (i:=3) sc_opposed.nd rfl (Or.inl rfl))
     (al (ak (i:=2) sc_opposed.nd rfl (Or.inl rfl) (am jP (hr.mono) rfl i4 jf jI .nil ao (aa (am jO (hr.mono) rfl i0 je jH .nil ao (aa (pv 2) (aa (aL (aa (pv 1) (aa (cz cq ag) ac))) ac))) (aa (am eU (hr.mono) rfl dW d9 eM .nil ao (aa (aL (aa (pv 3) ac)) ac)) ac))))))
   (al (av (pv 2))))),?_⟩
  have hlm:(ns.map V.int).length=ns.length:=wE _;refine aA ⟨wL _,λp0 hp0=>?_⟩;have s0:Same H (upd H p0 (.lst [])):=Same.upd_new hp0;have q0:upd H p0 (.lst []) p0=some (.lst (([]:List Int).map V.int)):=ai;generalize upd H p0 (.lst [])=H0 at s0 q0 ⊢
  refine⟨_,rfl,a,_,rfl,SqL.of (s0 _ _ hA),ua (K:=K) (a:=a) (xs:=ns.map V.int) (λi σ' H'=>∃(p:Addr) (z:Option V),σ'=[some (.ref a),some (.int (x:Nat)),some (.ref p),z]/\Same H H'/\H p=none/\H' p=some (.lst ((opp (x:Nat) (ns.drop (ns.length-i))).map V.int))) ⟨p0,none,rfl,s0,hp0,?_⟩ ?_ ?_ ?_⟩
  ·rw[xy,List.drop_length];exact q0
  ·rintro i σ' H' _ ⟨p,z,rfl,sm,_⟩;exact SqL.of (sm _ _ hA)
  ·rintro i v σ' H' hi hv ⟨p,z,rfl,sm,hp,ep⟩;rw[hlm]at hi hv;obtain⟨c,ec,rfl,hc,_⟩:=eB hv;have hi':i<ns.length:=hi;have e1:ns.length-(i+1)=ns.length-1-i:=by omega
   have ed:ns.drop (ns.length-(i+1))=c::ns.drop (ns.length-i):=by
    rw[e1,List.drop_eq_getElem_cons (by omega),show ns.length-1-i+1=ns.length-i by omega]
    congr 1
    have:=List.getElem?_eq_some_iff.mp ec;exact this.2
   have bO:=fT bx (l:=ns.drop (ns.length-i)) (by rw[xv];omega) λy hy=>hb y (x3 hy)
   have lO:=fR (x:Nat) (ns.drop (ns.length-i));rw[xv]at bO lO;generalize hO:opp (x:Nat) (ns.drop (ns.length-i))=O at ep bO lO
   refine⟨_,rfl,_,rfl,_,rfl,by show 2<=sizeLine;decide,λp2 hp2=>?_⟩;have t2:Same H' (upd H' p2 (.lst ([((x:Nat):Int),-1].map V.int))):=Same.upd_new hp2
   have b2:AllB 8 [((x:Nat):Int),-1]:=λy hy=>by
    simp only[wZ,xK,or_false]at hy;rcases hy with rfl |rfl
    ·exact bx
    ·show(-1:Int).natAbs<2^8;decide
   refine⟨p,p2,O,[((x:Nat):Int),-1],rfl,t2 _ _ ep,ai,by omega,by show 2<=1000000;decide,bO.mono (by omega),b2.mono,λp3 H3 s3 hp3 e3=>?_⟩;have u3:=t2.trans s3;refine⟨_,rfl,by show 1<=sizeLine;decide,λp4 hp4=>⟨p4,[c],rfl,SqL.of ai,λp5 H5 s5 hp5 e5=>?_⟩⟩;have u5:=(u3.then_new (o:=.lst [V.int c]) hp4).trans s5;have e35:H5 p3=some (.lst ((ae O [((x:Nat):Int),-1]).map V.int)):=s5 _ _ ((Same.upd_new hp4) _ _ e3);have lm:(ae O [((x:Nat):Int),-1]).length<=O.length+2:=lW _ _;have l5:=di [c];rw[xG]at l5;refine⟨p3,p5,ae O [((x:Nat):Int),-1],trim [c],rfl,SqL.of e35,SqL.of e5,by omega,by omega,λp6 H6 s6 hp6 e6=>?_⟩;refine⟨p6,some (.int c),rfl,sm.trans (u5.trans s6),(sm.trans u5).free hp6,?_⟩;rw[e6,ed];show _=some (HO.lst ((aS (ae (opp (x:Nat) (ns.drop (ns.length-i))) [((x:Nat):Int),-1]) (trim [c])).map V.int));rw[hO]
  ·rintro σ' H' ⟨p,z,rfl,sm,hp,ep⟩;rw[hlm,xx,List.drop_zero]at ep;exact⟨_,rfl,k p H' sm hp ep⟩
def kq:Sp:=λvs H Q _=>∃(a:Addr) (ns:List Int) (x:Nat),vs=[.ref a,.int (x:Nat)]/\H a=some (.lst (ns.map V.int))/\ns.length<=9/\AllB 1000 ns/\x<=100/\mkL H Q (aw (x:Nat) ns).reverse
theorem fJ{x:Int}(hx:Bits 8 x):∀i,Bits (1+8*i) (x^i)
 |0=>by rw[xh];show(1:Int).natAbs<2^1;decide
 |i+1=>by rw[wM];exact((fJ hx i).mul hx).mono (by omega)
theorem q8(F:Fun K "weighted" "weighted" gD f fd)(T:Txt K mg):FnOk P w K mg base CX0 1 f fd ["row","x"] kq:=by
 refine F.ok sc_weighted (λvs H Q E h=>?_) (λcdv A outer s H vs Q E hr h=>?_)
 ·obtain⟨a,ns,x,rfl,_⟩:=h;rfl
 ·obtain⟨a,ns,x,rfl,hA,hl,hb,hx,k⟩:=h;have big:=sizeLine_eq;have bx:Bits 8 ((x:Nat):Int):=by show((x:Nat):Int).natAbs<256;omega
  refine⟨_,(ah (ak (i:=2) sc_weighted.nd rfl (Or.inl rfl) (aL ac))
   (ah (ak (i:=3) sc_weighted.nd rfl (Or.inl rfl) ag)
   (ah (b7 PassesOwn.never rfl (cy (K:=K) rfl (pv 0)) (aD (i:=4) sc_weighted.nd rfl (Or.inl rfl))
     (ah (fH (fN PySem.F.plainAttrs_list PySem.F.slot_list_append PySem.F.type_list_append f8 (pv 2) (aa (af aV (pv 4) (pv 3)) ac)))
       (al (ak (i:=3) sc_weighted.nd rfl (Or.inl rfl) (af aV (pv 3) (pv 1))))))
   (al (av (lx (K:=K) rfl rfl (by rfl) T.list_ (by rfl) T.reversed_ (aa (pv 2) ac))))))),?_⟩
  refine aA ⟨wL _,λp hp=>?_⟩;have s0:Same H (upd H p (.lst [])):=Same.upd_new hp;have q0:upd H p (.lst []) p=some (.lst (([]:List Int).map V.int)):=ai;generalize upd H p (.lst [])=H0 at s0 q0 ⊢
  refine aA ?_;refine⟨_,rfl,a,rfl,⟨_,SqL.of (s0 _ _ hA)⟩,jn (K:=K) (a:=a) (xs:=ns.map V.int) (λi σ' H'=>∃z:Option V,σ'=[some (.ref a),some (.int (x:Nat)),some (.ref p),some (.int (((x:Nat):Int)^i)),z]/\Same H H'/\H' p=some (.lst (((List.range i).map λj=>cf ns j*((x:Nat):Int)^j).map V.int))) ⟨none,?_,s0,q0⟩ ?_ ?_ ?_⟩
  ·rw[xh];rfl
  ·rintro i σ' H' _ ⟨z,rfl,sm,_⟩;exact SqL.of (sm _ _ hA)
  ·rintro i v σ' H' hi ⟨z,rfl,sm,ep⟩;obtain⟨c,ec,rfl,hc,_⟩:=eB hi;have hi':i<ns.length:=(List.getElem?_eq_some_iff.mp ec).1;have bp:=fJ bx i;refine im ⟨_,rfl,.inl ⟨rfl,_,SqL.of ep⟩,_,rfl,_,rfl,_,_,rfl,rfl,⟨(hb c hc).mono,bp.mono (by omega)⟩,p,_,_,rfl,rfl,ep,by rw[wE,wE,wN];omega,?_⟩;dsimp only
   rw[bJ];refine cS ⟨_,rfl,_,rfl,_,_,rfl,rfl,⟨bp.mono (by omega),bx.mono⟩,?_⟩;refine⟨some (.int c),?_,fY sm hp,?_⟩
   ·rw[wM];rfl
   ·have e:((List.range (i+1)).map λj=>cf ns j*((x:Nat):Int)^j)=((List.range i).map λj=>cf ns j*((x:Nat):Int)^j)++[c*((x:Nat):Int)^i]:=by rw[xj,wH,w6,xF,uz ec]
    rw[ai,e]
  ·rintro σ' H' ⟨z,rfl,sm,ep⟩;dsimp only
   rw[wE]at ep;refine bA ⟨_,rfl,p,_,rfl,SqL.of ep,λq hq=>?_⟩;rw[<- List.map_reverse];exact k q _ (sm.then_new hq) (sm.free hq) ai
theorem ko{B i:Nat}{l:List Int}(h:AllB B l):AllB (B+1) (bN i l):=λx hx=>by obtain⟨j,_,rfl⟩:=wJ.mp hx;exact((h.cf (j+1)).sub (h.cf j)).of_le (Int.natAbs_ediv_le_natAbs _ _)
theorem pe(i:Nat)(l:List Int):(bN i l).length=l.length-1:=by unfold bN;simp
theorem gd:∀(cs:List Int) (k:Nat),(bz k cs).length<=cs.length
 | [],_=>wG _
 |c::cs,k=>by
  have ih:=gd cs (k+1);show(aS (ae (bz (k+1) cs) [-(k:Nat),1]) (trim [c])).length<=cs.length+1;have h1:=n9 (ae (bz (k+1) cs) [-(k:Nat),1]) (trim [c]);have h2:=di [c]
  have h3:(ae (bz (k+1) cs) [-((k:Nat):Int),1]).length<=(bz (k+1) cs).length+1:=by
   unfold ae;split
   ·exact wL _
   ·rw[wE,wN];show _+2-1<=_;omega
  rw[xG]at h2;omega
theorem gq{k:Nat}(hk:k<=100):AllB 8 [-((k:Nat):Int),1]:=λy hy=>by
 simp only[wZ,xK,or_false]at hy;rcases hy with rfl |rfl
 ·show(-((k:Nat):Int)).natAbs<256;omega
 ·show(1:Int).natAbs<2^8;decide
theorem mK:∀(cs:List Int) (k:Nat),k+cs.length<=50->AllB 100100 cs->AllB (100100+100*cs.length) (bz k cs)
 | [],_,_,_=>AllB.nil
 |c::cs,k,hk,h=>by
  rw[wI]at hk;have ih:=mK cs (k+1) (by omega) λy hy=>h y (wP _ hy)
  have h1:=gd cs (k+1);have h3:AllB (100100+100*cs.length+99) (ae (bz (k+1) cs) [-((k:Nat):Int),1]):=f7 ih (gq (by omega)) (by omega);have h4:AllB (100100+100*cs.length+99) (trim [c]):=AllB.trim λy hy=>by rw[w5.mp hy];exact(h c (wT ..)).mono (by omega)
  exact(gk h3 h4).mono (by rw[wI];omega)
def fx:Sp:=λvs H Q _=>∃(a:Addr) (W:List Int) (n:Nat),vs=[.ref a]/\H a=some (.lst (((List.range n).map λj=>ev (j:Nat) W).map V.int))/\W.length<=n/\Tr W/\n<=30/\AllB 100000 ((List.range n).map λj=>ev (j:Nat) W)/\mkL H Q W
theorem q9(F:Fun K "through" "through" gE f fd)(T:Txt K mg)(jY:Cal P w K mg base 2 "added" ["first","second"] (gB K aS) uh uf)(jX:Cal P w K mg base 1 "multiplied" ["first","second"] gA ug ue)(fc:Cal P w K mg base 1 "poly" ["row"] (fw K) ni m5):FnOk P w K mg base CX0 3 f fd ["values"] fx:=by
 obtain⟨jP,i4,jf,jI⟩:=jY;obtain⟨jO,i0,je,jH⟩:=jX;obtain⟨eU,dW,d9,eM⟩:=fc;refine F.ok sc_through (λvs H Q E h=>?_) (λcdv A outer s H vs Q E hr h=>?_)
 ·obtain⟨a,W,n,rfl,_⟩:=h;rfl
 ·obtain⟨a,W,n,rfl,hA,hWl,hWt,hn,hb,k⟩:=h;have big:=sizeLine_eq;have thr:=ft hWl hWt;have hzl:((List.range n).map λj=>ev (j:Nat) W).length=n:=by simp
  generalize (List.range n).map (λj=>ev (j:Nat) W)=zs at hA hb thr hzl
  refine⟨_,(ah (ak (i:=1) sc_through.nd rfl (Or.inr rfl) (aL ac))
   (ah (ak (i:=2) sc_through.nd rfl (Or.inr rfl) (lA (nT (K:=K) rfl) (by rfl) T.list_ PyProof.Rows.boot_list (aa (pv 0) ac)))
   (ah (dN PassesOwn.never (aP iO (aI (aY (K:=K) rfl) (by rfl) T.len_ PySem.boot_len (aa (pv 2) ac)) ag (aM _))
     (ah (fH (fN PySem.F.plainAttrs_list PySem.F.slot_list_append PySem.F.type_list_append f8 (pv 1) (aa (aF (aH (K:=K) rfl) (pv 2) ag (λ_ _=>rfl)) ac)))
       (al (ak (i:=2) sc_through.nd rfl (Or.inr rfl) (br (own:=["j"]) (fr:=["leads","left"]) (js:=[1,2]) (by walk_at "comp_ok") rfl (bI rfl T.range_ (aa (af aT (aI (aY (K:=K) rfl) (by rfl) T.len_ PySem.boot_len (aa (pv 2) ac)) ag) ac)) (λ_ _ _ _=>(aD (i:=0) (show List.Nodup (["j","leads","left"]:List Str)from by decide +kernel) rfl (Or.inl rfl))) (λ_ _ _ _=>(af cC (af aT (aF (aH (K:=K) rfl) (pv 2) (af aE (pv 0) ag) (λ_ _=>rfl)) (aF (aH (K:=K) rfl) (pv 2) (pv 0) (λ_ _=>rfl))) (aI (aY (K:=K) rfl) (by rfl) T.len_ PySem.boot_len (aa (pv 1) ac)))))))))
   (ah (ak (i:=3) sc_through.nd rfl (Or.inl rfl) (aL ac))
   (ah (b7 PassesOwn.never rfl (qQ rfl T.range_ (aa (af aT (aI (aY (K:=K) rfl) (by rfl) T.len_ PySem.boot_len (aa (pv 1) ac)) ag) (aa (cz cq ag) (aa (cz cq ag) ac)))) (aD (i:=4) sc_through.nd rfl (Or.inl rfl))
     (al (ak (i:=3) sc_through.nd rfl (Or.inl rfl) (am jP (hr.mono) rfl i4 jf jI .nil ao (aa (am jO (hr.mono) rfl i0 je jH .nil ao (aa (pv 3) (aa (aL (aa (cz cq (pv 4)) (aa ag ac))) ac))) (aa (am eU (hr.mono) rfl dW d9 eM .nil ao (aa (aL (aa (aF (aH (K:=K) rfl) (pv 1) (pv 4) (λ_ _=>rfl)) ac)) ac)) ac))))))
   (al (av (pv 3)))))))),?_⟩
  refine aA ⟨wL _,λpl hpl=>?_⟩;have s0:Same H (upd H pl (.lst [])):=Same.upd_new hpl;have q0:upd H pl (.lst []) pl=some (.lst (([]:List Int).map V.int)):=ai;generalize upd H pl (.lst [])=H0 at s0 q0 ⊢
  refine aA ⟨_,rfl,a,_,rfl,.inl (SqL.of (s0 _ _ hA)),λp hp=>?_⟩;have s1:=s0.then_new (o:=.lst (zs.map V.int)) hp;have q1:upd H0 p (.lst (zs.map V.int)) p=some (.lst (zs.map V.int)):=ai;have np:pl≠p:=aN q0 hp;have q2:upd H0 p (.lst (zs.map V.int)) pl=some (.lst (([]:List Int).map V.int)):=by rw[ar np];exact q0
  generalize upd H0 p (.lst (zs.map V.int))=H1 at s1 q1 q2 ⊢
  refine⟨λm σ' H'=>∃(p:Addr) (cur ls:List Int),σ'=[some (.ref a),some (.ref pl),some (.ref p),none,none]/\Same H H'/\H' pl=some (.lst (ls.map V.int))/\H' p=some (.lst (cur.map V.int))/\p≠pl/\cur.length=m/\ls++bE cur.length ls.length cur=bE n 0 zs/\AllB (100000+ls.length) cur/\AllB 100100 ls/\ls.length+cur.length=n,⟨_,p,zs,[],rfl,s1,q2,q1,Ne.symm np,rfl,by rw[hzl];rfl,hb,AllB.nil,by rw[xp,hzl];omega⟩,?_⟩;rintro m σ' H' ⟨p,cur,ls,rfl,sm,el,ep,npl,rfl,hld,bc,bl,hsum⟩;refine⟨_,rfl,p,_,rfl,.inl (SqL.of ep),_,_,rfl,rfl,_,rfl,a0 (λh0=>?_) (λh0=>?_)⟩
  ·rw[wE]at h0;obtain⟨m1,hm1⟩:∃m1,cur.length=m1+1:=⟨cur.length-1,by omega⟩;refine⟨λσ'' H''=>∃m',m'<cur.length/\∃(p:Addr) (cur ls:List Int),σ''=[some (.ref a),some (.ref pl),some (.ref p),none,none]/\Same H H''/\H'' pl=some (.lst (ls.map V.int))/\H'' p=some (.lst (cur.map V.int))/\p≠pl/\cur.length=m'/\ls++bE cur.length ls.length cur=bE n 0 zs/\AllB (100000+ls.length) cur/\AllB 100100 ls/\ls.length+cur.length=n,λ_ _ h=>h,?_⟩;refine im ⟨_,rfl,.inl ⟨rfl,_,SqL.of el⟩,_,rfl,p,_,_,_,rfl,rfl,SqL.of ep,aR (j:=0) rfl (by omega),pl,_,_,rfl,rfl,el,by rw[wE];omega,?_⟩;rw[bJ];have sm2:Same H (upd H' pl (.lst ((ls++[cf cur 0]).map V.int))):=fY sm hpl;have el2:upd H' pl (.lst ((ls++[cf cur 0]).map V.int)) pl=some (.lst ((ls++[cf cur 0]).map V.int)):=ai;have ep2:upd H' pl (.lst ((ls++[cf cur 0]).map V.int)) p=some (.lst (cur.map V.int)):=by rw[ar npl];exact ep
   generalize upd H' pl (.lst ((ls++[cf cur 0]).map V.int))=H2 at sm2 el2 ep2 ⊢
   have hl2:(ls++[cf cur 0]).length=ls.length+1:=by rw[wF];rfl
   refine⟨_,rfl,p,_,rfl,.inl (SqL.of ep2),_,_,rfl,rfl,_,rfl,by rw[wE];show -(2^62)<=(cur.length:Int)-1;omega,by rw[wE];show(cur.length:Int)-1<2^62;omega,?_⟩;have en:(((cur.map V.int).length:Nat)-1:Int).toNat=cur.length-1:=by rw[wE];omega
   dsimp only
   rw[en];refine bL (lo:=0) (n:=cur.length-1) (λt ys σ' H''=>∃z:Option V,σ'=[z,some (.ref pl),some (.ref p)]/\ys=((List.range t).map λj=>V.int ((cf cur (j+1)-cf cur j)/((ls.length+1:Nat):Int)))/\H2=H'') (by omega) ⟨none,rfl,rfl,rfl⟩ ?_ ?_ ?_
   ·rintro t ys σ' H'' _ ⟨z,rfl,rfl,rfl⟩;simp
   ·rintro t ys σ' H'' ht ⟨z,rfl,rfl,rfl⟩;have e0:(0:Int)+(t:Int)=((t:Nat):Int):=by omega
    have e1:(0:Int)+(t:Int)+1=((t+1:Nat):Int):=by omega
    refine⟨_,rfl,_,rfl,_,_,rfl,rfl,p,_,_,_,rfl,rfl,SqL.of ep2,aR e1 (by omega),_,rfl,_,rfl,p,_,_,_,rfl,rfl,SqL.of ep2,aR e0 (by omega),_,_,rfl,rfl,_,rfl,pl,_,rfl,.inl (SqL.of el2),_,_,rfl,rfl,⟨?_,?_⟩,?_⟩
    ·show(0:Int)<(((ls++[cf cur 0]).map V.int).length:Nat);rw[wE,hl2];omega
    ·show Bits 9000 (((ls++[cf cur 0]).map V.int).length:Nat);rw[wE,hl2];exact Bits.mono (j:=8) (show(((ls.length+1:Nat):Int)).natAbs<256 by omega) (by decide)
    refine⟨_,rfl,?_,rfl⟩;rw[wE,hl2,xj,wH];rfl
   rintro ys σ' H'' q ⟨z,rfl,rfl,rfl⟩ hq;have ey:((List.range (cur.length-1)).map λj=>V.int ((cf cur (j+1)-cf cur j)/((ls.length+1:Nat):Int)))=(bN (ls.length+1) cur).map V.int:=by unfold bN;rw[wO];rfl
   rw[ey];refine k4 ?_;have sl:=pe (ls.length+1) cur;refine⟨cur.length-1,by omega,q,bN (ls.length+1) cur,ls++[cf cur 0],rfl,sm2.then_new hq,(Same.upd_new hq) _ _ el2,ai,(λz=>by rw[z,el2]at hq;cases hq),sl,?_,?_,?_,?_⟩
   ·rw[<- hld,sl,hl2,hm1,w4];rfl
   ·rw[hl2];exact(ko bc).mono (by omega)
   ·exact bl.snoc ((bc.cf 0).mono (by omega))
   ·rw[hl2,sl];omega
  ·rw[wE]at h0;have hc0:cur=[]:=xl.mp (by omega);subst hc0;have hls:ls=bE n 0 zs:=by rw[<- hld];simp[bE]
   have hln:ls.length=n:=by simpa using hsum
   dsimp only
   refine aA ⟨wL _,λp0 hp0=>?_⟩;have s3:=sm.then_new (o:=.lst []) hp0;have q3:upd H' p0 (.lst []) p0=some (.lst (([]:List Int).map V.int)):=ai;have el3:=(Same.upd_new (o:=.lst []) hp0) _ _ el;have fp0:H p0=none:=sm.free hp0;have npl0:pl≠p0:=aN el hp0;generalize upd H' p0 (.lst [])=H3 at s3 q3 el3 ⊢
   have hll:(ls.map V.int).length=n:=by rw[wE,hln]
   refine⟨_,rfl,pl,_,rfl,.inl (SqL.of el3),_,_,rfl,rfl,_,rfl,_,rfl,((n:Nat):Int)-1,-1,by rw[hll],⟨by omega,by omega,by decide,by decide⟩,?_⟩;have en:(((n:Nat):Int)-1 - -1).toNat=n:=by omega
   rw[en];refine ub (λi σ' H'=>∃(q:Addr) (z4:Option V),σ'=[some (.ref a),some (.ref pl),some (.ref p),some (.ref q),z4]/\Same H H'/\H' pl=some (.lst (ls.map V.int))/\H q=none/\H' q=some (.lst ((bz (n-i) (ls.drop (n-i))).map V.int))) ⟨p0,none,rfl,s3,el3,fp0,?_⟩ ?_ ?_
   ·rw[xy,List.drop_of_length_le (by omega)];exact q3
   ·rintro i σ' H5 hi ⟨q,z4,rfl,s5,el5,fq,eq5⟩;have ek:((n:Nat):Int)-1+(i:Int) * -1=((n-1-i:Nat):Int):=by omega
    have hd:ls.drop (n-(i+1))=cf ls (n-1-i)::ls.drop (n-i):=by rw[show n-(i+1)=n-1-i by omega,List.drop_eq_getElem_cons (by omega),show n-1-i+1=n-i by omega,aC (by omega)]
    have hk1:n-(i+1)=n-1-i:=by omega
    have hk2:n-1-i+1=n-i:=by omega
    have bO:=mK (ls.drop (n-i)) (n-i) (by rw[xv];omega) λy hy=>bl y (x3 hy)
    have lO:=gd (ls.drop (n-i)) (n-i);rw[xv]at bO lO;generalize hO:bz (n-i) (ls.drop (n-i))=O at eq5 bO lO
    refine⟨_,rfl,_,rfl,_,rfl,by show 2<=sizeLine;decide,λp2 hp2=>?_⟩;rw[ek];have t2:Same H5 (upd H5 p2 (.lst ([-((n-1-i:Nat):Int),1].map V.int))):=Same.upd_new hp2;refine⟨q,p2,O,[-((n-1-i:Nat):Int),1],rfl,t2 _ _ eq5,ai,by omega,by show 2<=1000000;decide,bO.mono (by omega),(gq (by omega)).mono,λp3 H6 s6 hp3 e3=>?_⟩;have u3:=t2.trans s6;have el6:=u3 _ _ el5;refine⟨_,rfl,_,rfl,pl,_,_,_,rfl,rfl,SqL.of el6,aR rfl (by omega),by show 1<=sizeLine;decide,λp4 hp4=>⟨p4,[cf ls (n-1-i)],rfl,SqL.of ai,λp5 H7 s7 hp5 e5=>?_⟩⟩;have u5:=(u3.then_new (o:=.lst [V.int (cf ls (n-1-i))]) hp4).trans s7;have e35:H7 p3=some (.lst ((ae O [-((n-1-i:Nat):Int),1]).map V.int)):=s7 _ _ ((Same.upd_new hp4) _ _ e3);have lm:(ae O [-((n-1-i:Nat):Int),1]).length<=O.length+2:=lW _ _;have l5:=di [cf ls (n-1-i)];rw[xG]at l5;refine⟨p3,p5,ae O [-((n-1-i:Nat):Int),1],trim [cf ls (n-1-i)],rfl,SqL.of e35,SqL.of e5,by omega,by omega,λp6 H8 s8 hp6 e6=>?_⟩;refine⟨p6,_,rfl,s5.trans (u5.trans s8),(u5.trans s8) _ _ el5,(s5.trans u5).free hp6,?_⟩;rw[e6,hd,hk1];show _=some (HO.lst ((aS (ae (bz (n-1-i+1) (ls.drop (n-i))) [-((n-1-i:Nat):Int),1]) (trim [cf ls (n-1-i)])).map V.int));rw[hk2,hO]
   ·rintro σ' H5 ⟨q,z4,rfl,s5,el5,fq,eq5⟩;rw[xx,List.drop_zero,hls,thr]at eq5;exact⟨_,rfl,k q H5 s5 fq eq5⟩
theorem ij{xs ys:List Int}(hx:AllB 2000 xs)(hy:AllB 2000 ys)(h:xs.length+ys.length<=18)(hx0:xs≠[])(hy0:ys≠[]):Bits 40000 (au xs ys):=by
 have hxp:=wK.mpr hx0;have hyp:=wK.mpr hy0
 have hb:=gn (b:=2000) (ys.length-1+(xs.length-1)) (syl (cf xs.reverse) (cf ys.reverse) (ys.length-1) (xs.length-1)) (by omega) (by unfold syl;rw[wF,b5,b5]) (λr hr j=>by
  have hz:(0:Int).natAbs<=2^2000:=wL _;rcases wQ.mp hr with z |z
  ·obtain⟨k,_,rfl⟩:=wJ.mp z;show(if j<k then(0:Int)else cf xs.reverse (j-k)).natAbs<=_;split
   ·exact hz
   ·exact xq (AllB.cf (λx hx'=>hx x (xu.mp hx')) (j-k))
  ·obtain⟨k,_,rfl⟩:=wJ.mp z;show(if j<k then(0:Int)else cf ys.reverse (j-k)).natAbs<=_;split
   ·exact hz
   ·exact xq (AllB.cf (λx hx'=>hy x (xu.mp hx')) (j-k)))
 have h2:(2000+4)*(ys.length-1+(xs.length-1))<=2004*16:=x5 _ (by omega);exact xY hb ((Nat.pow_lt_pow_iff_right (by decide)).mpr (by omega))
theorem gu{xs ys:List Int}(hx:xs≠[])(hy:ys≠[])(bx:AllB 2000 xs)(by':AllB 2000 ys)(h:xs.length+ys.length<=18):(∀r∈az xs (ys.length-1)++az ys (xs.length-1),r.length=(az xs (ys.length-1)++az ys (xs.length-1)).length)/\(∀r∈az xs (ys.length-1)++az ys (xs.length-1),AllB 2000 r)/\(az xs (ys.length-1)++az ys (xs.length-1)).length<=16/\D (az xs (ys.length-1)++az ys (xs.length-1)).length ((az xs (ys.length-1)++az ys (xs.length-1)).map cf)=au xs ys:=by
 have hxp:=wK.mpr hx;have hyp:=wK.mpr hy;have l1:(az xs (ys.length-1)).length=ys.length-1:=by unfold az;simp
 have l2:(az ys (xs.length-1)).length=xs.length-1:=by unfold az;simp
 have lt:(az xs (ys.length-1)++az ys (xs.length-1)).length=ys.length-1+(xs.length-1):=by rw[wF,l1,l2]
 refine⟨?_,?_,by rw[lt];omega,by rw[lt,wH,kO,kO];rfl⟩
 ·intro r hr;rw[lt];rcases wQ.mp hr with z |z
  ·obtain⟨i,hi,rfl⟩:=wJ.mp z;have:=xa.mp hi;rw[wF,wF,w8,w8,wW];omega
  ·obtain⟨i,hi,rfl⟩:=wJ.mp z;have:=xa.mp hi;rw[wF,wF,w8,w8,wW];omega
 ·intro r hr;rcases wQ.mp hr with z |z
  ·obtain⟨i,hi,rfl⟩:=wJ.mp z;exact(AllB.zeros.app λx hx=>bx x (xu.mp hx)).app AllB.zeros
  ·obtain⟨i,hi,rfl⟩:=wJ.mp z;exact(AllB.zeros.app λx hx=>by' x (xu.mp hx)).app AllB.zeros
def fv(g:Int->List Int->List Int):Sp:=λvs H Q _=>∃(a b:Addr) (xs ys W:List Int),vs=[.ref a,.ref b]/\H a=some (.lst (xs.map V.int))/\H b=some (.lst (ys.map V.int))/\Tr ys/\xs≠[]/\ys≠[]/\xs.length<=9/\ys.length<=9/\(xs.length-1)*(ys.length-1)<=20/\AllB 1000 xs/\AllB 1000 ys/\W.length=(xs.length-1)*(ys.length-1)+1/\Tr W/\AllB 9000 W/\(∀x:Nat,au xs (g (x:Nat) ys)=ev (x:Nat) W)/\mkL H Q (aB W)
theorem lV{x y:Nat}(hx:1<=x)(hy:1<=y):((x:Int)-1)*((y:Int)-1)+1=(((x-1)*(y-1)+1:Nat):Int):=by rw[Int.natCast_add,xM,Int.natCast_sub hx,Int.natCast_sub hy];rfl
theorem fh(x:Int)(l:List Int):(aw x l).reverse.length=l.length:=by rw[wW];unfold aw;simp
theorem j1{x:Int}(hx:Bits 8 x){l:List Int}(hl:l.length<=9)(h:AllB 1000 l):AllB 2000 (aw x l).reverse:=λy hy=>by obtain⟨j,hj,rfl⟩:=wJ.mp (xu.mp hy);have:=xa.mp hj;exact((h.cf j).mul (fJ hx j)).mono (by omega)
theorem rb(F:Fun K "sums" "sums" gG f fd)(T:Txt K mg)(c0:Cal P w K mg base 1 "degree" ["row"] dA jq jp)(fe:Cal P w K mg base 4 "plain" ["row"] fz nj m6)(e9:Cal P w K mg base 3 "through" ["values"] fx na m3)(fg:Cal P w K mg base 34 "determinant" ["rows"] fB nl m7)(fb:Cal P w K mg base 2 "table" ["first","second"] fy ng m4)(vG:Cal P w K mg base 3 "opposed" ["row","x"] ky wu v8):FnOk P w K mg base CX0 35 f fd ["first","second"] (fv opp):=by
 obtain⟨cn,ca,ce,cm⟩:=c0;obtain⟨eV,dX,ef,eN⟩:=fe;obtain⟨eR,dS,d7,eK⟩:=e9;obtain⟨eW,dY,eg,eO⟩:=fg;obtain⟨eT,dU,d8,eL⟩:=fb;obtain⟨vi,sv,td,uT⟩:=vG;refine F.ok sc_sums (λvs H Q E h=>?_) (λcdv A outer s H vs Q E hr h=>?_)
 ·obtain⟨a,b,xs,ys,W,rfl,_⟩:=h;rfl
 ·obtain⟨a,b,xs,ys,W,rfl,hA,hB,hty,hx,hy,hxl,hyl,hN,bx,by',hW,hWt,hWb,hv,k⟩:=h;have big:=sizeLine_eq;have hxp:=wK.mpr hx;have hyp:=wK.mpr hy
  refine⟨_,(ah (ak (i:=2) sc_sums.nd rfl (Or.inl rfl) (af aE (af aV (am cn (hr.mono) rfl ca ce cm .nil ao (aa (pv 0) ac)) (am cn (hr.mono) rfl ca ce cm .nil ao (aa (pv 1) ac))) ag))
   (al (av (am eV (hr.mono) rfl dX ef eN .nil ao (aa (am eR (hr.mono) rfl dS d7 eK .nil ao (aa (br (own:=["x"]) (fr:=["first","second"]) (js:=[0,1]) (by walk_at "comp_ok") rfl (bI rfl T.range_ (aa (pv 2) ac)) (λ_ _ _ _=>(aD (i:=0) (show List.Nodup (["x","first","second"]:List Str)from by decide +kernel) rfl (Or.inl rfl))) (λ_ _ _ _=>(am eW (hr.mono) rfl dY eg eO .nil ao (aa (am eT (hr.mono) rfl dU d8 eL .nil ao (aa (pv 1) (aa (am vi (hr.mono) rfl sv td uT .nil ao (aa (pv 2) (aa (pv 0) ac))) ac))) ac)))) ac)) ac))))),?_⟩
  have sm8:∀z:Nat,z<=9->Bits 1000000 ((z:Int)-1):=λz hz=>Bits.mono (j:=8) (show((z:Int)-1).natAbs<256 by omega) (by decide)
  refine aA ⟨_,rfl,a,_,rfl,hA,_,rfl,b,_,rfl,hB,_,_,rfl,rfl,⟨by rw[wE];exact sm8 _ hxl,by rw[wE];exact sm8 _ hyl⟩,_,_,rfl,rfl,?_⟩;have em:=lV hxp hyp;dsimp only
  rw[wE,wE,em];generalize (xs.length-1)*(ys.length-1)=N at hN hW
  refine bA ⟨_,rfl,_,rfl,by omega,by omega,?_⟩;refine bL (lo:=0) (n:=N+1) (λt zs σ' H'=>∃z:Option V,σ'=[z,some (.ref a),some (.ref b)]/\zs=((List.range t).map λj=>ev (j:Nat) W).map V.int/\Same H H') (by omega) ⟨none,rfl,rfl,λ_ _ e=>e⟩ ?_ ?_ ?_
  ·rintro t zs σ' H' _ ⟨z,rfl,rfl,_⟩;simp
  ·rintro t zs σ' H' ht ⟨z,rfl,rfl,sm⟩;have e0:(0:Int)+(t:Int)=((t:Nat):Int):=by omega
   obtain⟨o1,o2,_⟩:=cB ((t:Nat):Int) ys hty hy;have bo:=fT (x:=((t:Nat):Int)) (show((t:Nat):Int).natAbs<256 by omega) hyl by';have ho:opp ((t:Nat):Int) ys≠[]:=λz=>by rw[z]at o2;simp at o2;omega
   refine⟨_,rfl,_,rfl,_,rfl,b,ys,t,by rw[e0];rfl,sm _ _ hB,hty,hy,hyl,by',by omega,λp1 H1 s1 hp1 e1=>?_⟩;have hvt:=hv t;have bo2:AllB 2000 (opp ((t:Nat):Int) ys):=bo.mono (by omega);generalize opp ((t:Nat):Int) ys=O at e1 o2 ho hvt bo2
   have t1:=sm.trans s1;refine⟨a,p1,xs,O,rfl,t1 _ _ hA,e1,hx,ho,by omega,by omega,λp2 H2 ps s2 q2 hR2=>?_⟩;obtain⟨d1,d2,d3,d4⟩:=gu hx ho (bx.mono) bo2 (by omega);refine⟨p2,ps,_,2000,rfl,q2,hR2,d1,d2,d3,by decide,λH3 s3=>?_⟩;refine⟨some (.int (0+(t:Int))),rfl,?_,(t1.trans s2).trans s3⟩;have er:((List.range (t+1)).map λj=>ev (j:Nat) W)=((List.range t).map λj=>ev (j:Nat) W)++[ev (t:Nat) W]:=by rw[xj,wH];rfl
   rw[d4,hvt,bJ,er]
  rintro zs σ' H' p ⟨z,rfl,rfl,sm⟩ hp
  have bv:AllB 100000 ((List.range (N+1)).map λj=>ev (j:Nat) W):=λy hy'=>by obtain⟨j,hj,rfl⟩:=wJ.mp hy';have hj':=xa.mp hj;show Bits 100000 (ev (j:Nat) W);rw[<- hv j];obtain⟨o1,o2,_⟩:=cB ((j:Nat):Int) ys hty hy;have bo:=fT (x:=((j:Nat):Int)) (show((j:Nat):Int).natAbs<256 by omega) hyl by';exact(ij (bx.mono) (bo.mono (by omega)) (by omega) hx (λz=>by rw[z]at o2;simp at o2;omega)).mono
  refine⟨p,W,N+1,rfl,ai,by omega,hWt,by omega,bv,λq H2 s2 hq e2=>?_⟩;refine⟨q,W,rfl,e2,hWt,by omega,hWb,λq3 H3 s3 hq3 e3=>k q3 H3 ((sm.then_new hp).trans (s2.trans s3)) (((sm.then_new hp).trans s2).free hq3) e3⟩
theorem rh(F:Fun K "products" "products" gL f fd)(T:Txt K mg)(c0:Cal P w K mg base 1 "degree" ["row"] dA jq jp)(fe:Cal P w K mg base 4 "plain" ["row"] fz nj m6)(e9:Cal P w K mg base 3 "through" ["values"] fx na m3)(fg:Cal P w K mg base 34 "determinant" ["rows"] fB nl m7)(fb:Cal P w K mg base 2 "table" ["first","second"] fy ng m4)(vy:Cal P w K mg base 1 "weighted" ["row","x"] kq wl vW):FnOk P w K mg base CX0 35 f fd ["first","second"] (fv λx l=>(aw x l).reverse):=by
 obtain⟨cn,ca,ce,cm⟩:=c0;obtain⟨eV,dX,ef,eN⟩:=fe;obtain⟨eR,dS,d7,eK⟩:=e9;obtain⟨eW,dY,eg,eO⟩:=fg;obtain⟨eT,dU,d8,eL⟩:=fb;obtain⟨vb,sj,sS,uM⟩:=vy;refine F.ok sc_products (λvs H Q E h=>?_) (λcdv A outer s H vs Q E hr h=>?_)
 ·obtain⟨a,b,xs,ys,W,rfl,_⟩:=h;rfl
 ·obtain⟨a,b,xs,ys,W,rfl,hA,hB,hty,hx,hy,hxl,hyl,hN,bx,by',hW,hWt,hWb,hv,k⟩:=h;have big:=sizeLine_eq;have hxp:=wK.mpr hx;have hyp:=wK.mpr hy
  refine⟨_,(ah (ak (i:=2) sc_products.nd rfl (Or.inl rfl) (af aE (af aV (am cn (hr.mono) rfl ca ce cm .nil ao (aa (pv 0) ac)) (am cn (hr.mono) rfl ca ce cm .nil ao (aa (pv 1) ac))) ag))
   (al (av (am eV (hr.mono) rfl dX ef eN .nil ao (aa (am eR (hr.mono) rfl dS d7 eK .nil ao (aa (br (own:=["x"]) (fr:=["first","second"]) (js:=[0,1]) (by walk_at "comp_ok") rfl (bI rfl T.range_ (aa (pv 2) ac)) (λ_ _ _ _=>(aD (i:=0) (show List.Nodup (["x","first","second"]:List Str)from by decide +kernel) rfl (Or.inl rfl))) (λ_ _ _ _=>(am eW (hr.mono) rfl dY eg eO .nil ao (aa (am eT (hr.mono) rfl dU d8 eL .nil ao (aa (pv 1) (aa (am vb (hr.mono) rfl sj sS uM .nil ao (aa (pv 2) (aa (pv 0) ac))) ac))) ac)))) ac)) ac))))),?_⟩
  have sm8:∀z:Nat,z<=9->Bits 1000000 ((z:Int)-1):=λz hz=>Bits.mono (j:=8) (show((z:Int)-1).natAbs<256 by omega) (by decide)
  refine aA ⟨_,rfl,a,_,rfl,hA,_,rfl,b,_,rfl,hB,_,_,rfl,rfl,⟨by rw[wE];exact sm8 _ hxl,by rw[wE];exact sm8 _ hyl⟩,_,_,rfl,rfl,?_⟩;have em:=lV hxp hyp;dsimp only
  rw[wE,wE,em];generalize (xs.length-1)*(ys.length-1)=N at hN hW
  refine bA ⟨_,rfl,_,rfl,by omega,by omega,?_⟩;refine bL (lo:=0) (n:=N+1) (λt zs σ' H'=>∃z:Option V,σ'=[z,some (.ref a),some (.ref b)]/\zs=((List.range t).map λj=>ev (j:Nat) W).map V.int/\Same H H') (by omega) ⟨none,rfl,rfl,λ_ _ e=>e⟩ ?_ ?_ ?_
  ·rintro t zs σ' H' _ ⟨z,rfl,rfl,_⟩;simp
  ·rintro t zs σ' H' ht ⟨z,rfl,rfl,sm⟩;have e0:(0:Int)+(t:Int)=((t:Nat):Int):=by omega
   have o2:=fh ((t:Nat):Int) ys;have bo2:=j1 (x:=((t:Nat):Int)) (show((t:Nat):Int).natAbs<256 by omega) hyl by';have ho:(aw ((t:Nat):Int) ys).reverse≠[]:=λz=>by rw[z]at o2;simp at o2;omega
   refine⟨_,rfl,_,rfl,_,rfl,b,ys,t,by rw[e0];rfl,sm _ _ hB,hyl,by',by omega,λp1 H1 s1 hp1 e1=>?_⟩;have hvt:=hv t;dsimp only at hvt
   generalize (aw ((t:Nat):Int) ys).reverse=O at e1 o2 ho hvt bo2
   have t1:=sm.trans s1;refine⟨a,p1,xs,O,rfl,t1 _ _ hA,e1,hx,ho,by omega,by omega,λp2 H2 ps s2 q2 hR2=>?_⟩;obtain⟨d1,d2,d3,d4⟩:=gu hx ho (bx.mono) bo2 (by omega);refine⟨p2,ps,_,2000,rfl,q2,hR2,d1,d2,d3,by decide,λH3 s3=>?_⟩;refine⟨some (.int (0+(t:Int))),rfl,?_,(t1.trans s2).trans s3⟩;have er:((List.range (t+1)).map λj=>ev (j:Nat) W)=((List.range t).map λj=>ev (j:Nat) W)++[ev (t:Nat) W]:=by rw[xj,wH];rfl
   rw[d4,hvt,bJ,er]
  rintro zs σ' H' p ⟨z,rfl,rfl,sm⟩ hp
  have bv:AllB 100000 ((List.range (N+1)).map λj=>ev (j:Nat) W):=λy hy'=>by obtain⟨j,hj,rfl⟩:=wJ.mp hy';have hj':=xa.mp hj;show Bits 100000 (ev (j:Nat) W);rw[<- hv j];have o2:=fh ((j:Nat):Int) ys;have bo2:=j1 (x:=((j:Nat):Int)) (show((j:Nat):Int).natAbs<256 by omega) hyl by';exact(ij (bx.mono) bo2 (by omega) hx (λz=>by rw[z]at o2;simp at o2;omega)).mono
  refine⟨p,W,N+1,rfl,ai,by omega,hWt,by omega,bv,λq H2 s2 hq e2=>?_⟩;refine⟨q,W,rfl,e2,hWt,by omega,hWb,λq3 H3 s3 hq3 e3=>k q3 H3 ((sm.then_new hp).trans (s2.trans s3)) (((sm.then_new hp).trans s2).free hq3) e3⟩
noncomputable def pwG(x:Int)(k:Nat):List Int:=[x]++List.replicate (k-1) 0++[-1]
theorem iy(x:Int){k:Nat}(hk:1<=k):(pwG x k).length=k+1:=by unfold pwG;rw[wF,wF,w8];show 1+(k-1)+1=k+1;omega
theorem ld{x:Int}(hx:Bits 8 x)(k:Nat):AllB 2000 (pwG x k):=by
 unfold pwG;refine(AllB.app (λy hy=>?_) AllB.zeros).snoc ?_
 ·rw[w5.mp hy];exact hx.mono
 ·exact Bits.mono (j:=1) (by show(-1:Int).natAbs<2^1;decide) (by decide)
def kx:Sp:=λvs H Q _=>∃(a:Addr) (xs W:List Int) (n:Nat),vs=[.ref a,.int (n:Nat)]/\H a=some (.lst (xs.map V.int))/\xs≠[]/\xs.length<=9/\1<=n/\n<=8/\AllB 1000 xs/\W.length=xs.length/\Tr W/\AllB 9000 W/\(∀x:Nat,au xs (pwG (x:Nat) n)=ev (x:Nat) W)/\mkL H Q (aB W)
theorem rj(F:Fun K "powers" "powers" gN f fd)(T:Txt K mg)(c0:Cal P w K mg base 1 "degree" ["row"] dA jq jp)(fe:Cal P w K mg base 4 "plain" ["row"] fz nj m6)(e9:Cal P w K mg base 3 "through" ["values"] fx na m3)(fg:Cal P w K mg base 34 "determinant" ["rows"] fB nl m7)(fb:Cal P w K mg base 2 "table" ["first","second"] fy ng m4):FnOk P w K mg base CX0 35 f fd ["row","k"] kx:=by
 obtain⟨cn,ca,ce,cm⟩:=c0;obtain⟨eV,dX,ef,eN⟩:=fe;obtain⟨eR,dS,d7,eK⟩:=e9;obtain⟨eW,dY,eg,eO⟩:=fg;obtain⟨eT,dU,d8,eL⟩:=fb;refine F.ok sc_powers (λvs H Q E h=>?_) (λcdv A outer s H vs Q E hr h=>?_)
 ·obtain⟨a,xs,W,n,rfl,_⟩:=h;rfl
 ·obtain⟨a,xs,W,n,rfl,hA,hx,hxl,hn1,hn8,bx,hW,hWt,hWb,hv,k⟩:=h;have big:=sizeLine_eq;have hxp:=wK.mpr hx
  refine⟨_,(ah (ak (i:=2) sc_powers.nd rfl (Or.inl rfl) (af aE (am cn (hr.mono) rfl ca ce cm .nil ao (aa (pv 0) ac)) ag))
   (al (av (am eV (hr.mono) rfl dX ef eN .nil ao (aa (am eR (hr.mono) rfl dS d7 eK .nil ao (aa (br (own:=["x"]) (fr:=["row","k"]) (js:=[0,1]) (by walk_at "comp_ok") rfl (bI rfl T.range_ (aa (pv 2) ac)) (λ_ _ _ _=>(aD (i:=0) (show List.Nodup (["x","row","k"]:List Str)from by decide +kernel) rfl (Or.inl rfl))) (λ_ _ _ _=>(am eW (hr.mono) rfl dY eg eO .nil ao (aa (am eT (hr.mono) rfl dU d8 eL .nil ao (aa (pv 1) (aa (af b9 (af b9 (aL (aa (pv 0) ac)) (af fU (aL (aa ag ac)) (af aT (pv 2) ag))) (aL (aa (cz cq ag) ac))) ac))) ac)))) ac)) ac))))),?_⟩
  refine aA ⟨_,rfl,a,_,rfl,hA,_,_,rfl,rfl,?_⟩;have em:(((xs.map V.int).length:Nat):Int)-1+1=((xs.length:Nat):Int):=by rw[wE];omega
  dsimp only
  rw[em];refine bA ⟨_,rfl,_,rfl,by omega,by omega,?_⟩;refine bL (lo:=0) (n:=xs.length) (λt zs σ' H'=>∃z:Option V,σ'=[z,some (.ref a),some (.int (n:Nat))]/\zs=((List.range t).map λj=>ev (j:Nat) W).map V.int/\Same H H') (by omega) ⟨none,rfl,rfl,λ_ _ e=>e⟩ ?_ ?_ ?_
  ·rintro t zs σ' H' _ ⟨z,rfl,rfl,_⟩;simp
  ·rintro t zs σ' H' ht ⟨z,rfl,rfl,sm⟩;have e0:(0:Int)+(t:Int)=((t:Nat):Int):=by omega
   have o2:=iy ((t:Nat):Int) hn1;have bo2:=ld (x:=((t:Nat):Int)) (show((t:Nat):Int).natAbs<256 by omega) n;have ho:pwG ((t:Nat):Int) n≠[]:=λz=>by rw[z]at o2;simp at o2
   have hvt:=hv t;refine⟨_,rfl,_,rfl,by show 1<=sizeLine;decide,λp1 hp1=>⟨by show 1<=sizeLine;decide,λp2 hp2=>⟨_,rfl,_,_,rfl,rfl,?_⟩⟩⟩;have ek:((n:Nat):Int)-1=((n-1:Nat):Int):=by omega
   dsimp only
   rw[ek,e0];rw[e0]at hp2;have t1:Same H' (upd H' p1 (.lst [V.int ((t:Nat):Int)])):=Same.upd_new hp1;have q1:upd H' p1 (.lst [V.int ((t:Nat):Int)]) p1=some (.lst (([((t:Nat):Int)]:List Int).map V.int)):=ai;generalize upd H' p1 (.lst [V.int ((t:Nat):Int)])=G1 at t1 q1 hp2 ⊢
   have t2:=t1.then_new (o:=.lst [V.int 0]) hp2;have q12:=(Same.upd_new (o:=.lst [V.int 0]) hp2) _ _ q1;refine⟨p2,_,_,rfl,rfl,ai,by omega,by omega,by show 1*((n-1:Nat):Int).toNat<=sizeLine;omega,λp3 hp3=>?_⟩;have er0:(List.replicate ((n-1:Nat):Int).toNat [V.int 0]).flatten=(List.replicate (n-1) (0:Int)).map V.int:=by rw[Int.toNat_natCast,fF]
   rw[er0];have q13:=(Same.upd_new (o:=.lst ((List.replicate (n-1) (0:Int)).map V.int)) hp3) _ _ q12;have t3:=t2.then_new (o:=.lst ((List.replicate (n-1) (0:Int)).map V.int)) hp3;refine⟨p1,p3,_,_,rfl,rfl,q13,ai,by rw[wE,wE,w8];show 1+(n-1)<=sizeLine;omega,λp4 hp4=>?_⟩;rw[gb];have t4:=t3.then_new (o:=.lst (([((t:Nat):Int)]++List.replicate (n-1) (0:Int)).map V.int)) hp4;have q4:upd (upd (upd G1 p2 (.lst [V.int 0])) p3 (.lst ((List.replicate (n-1) (0:Int)).map V.int))) p4 (.lst (([((t:Nat):Int)]++List.replicate (n-1) (0:Int)).map V.int)) p4=some (.lst (([((t:Nat):Int)]++List.replicate (n-1) (0:Int)).map V.int)):=ai;generalize upd (upd (upd G1 p2 (.lst [V.int 0])) p3 (.lst ((List.replicate (n-1) (0:Int)).map V.int))) p4 (.lst (([((t:Nat):Int)]++List.replicate (n-1) (0:Int)).map V.int))=G4 at t4 q4 ⊢
   refine⟨_,rfl,by show 1<=sizeLine;decide,λp5 hp5=>?_⟩;have t5:=t4.then_new (o:=.lst [V.int (-1)]) hp5;have q45:=(Same.upd_new (o:=.lst [V.int (-1)]) hp5) _ _ q4;refine⟨p4,p5,_,_,rfl,rfl,q45,ai,by rw[wE,wF,w8];show 1+(n-1)+1<=sizeLine;omega,λp6 hp6=>?_⟩;have ec:([((t:Nat):Int)]++List.replicate (n-1) (0:Int)).map V.int++[V.int (-1)]=(pwG ((t:Nat):Int) n).map V.int:=bJ _ _;rw[ec];have t6:=t5.then_new (o:=.lst ((pwG ((t:Nat):Int) n).map V.int)) hp6;have q6:upd (upd G4 p5 (.lst [V.int (-1)])) p6 (.lst ((pwG ((t:Nat):Int) n).map V.int)) p6=some (.lst ((pwG ((t:Nat):Int) n).map V.int)):=ai;generalize upd (upd G4 p5 (.lst [V.int (-1)])) p6 (.lst ((pwG ((t:Nat):Int) n).map V.int))=G6 at t6 q6 ⊢
   generalize pwG ((t:Nat):Int) n=O at q6 o2 ho hvt bo2
   have t7:=sm.trans t6;refine⟨a,p6,xs,O,rfl,t7 _ _ hA,q6,hx,ho,by omega,by omega,λp7 H2 ps s2 q2 hR2=>?_⟩;obtain⟨d1,d2,d3,d4⟩:=gu hx ho (bx.mono) bo2 (by omega);refine⟨p7,ps,_,2000,rfl,q2,hR2,d1,d2,d3,by decide,λH3 s3=>?_⟩;refine⟨_,rfl,?_,(t7.trans s2).trans s3⟩;have er:((List.range (t+1)).map λj=>ev (j:Nat) W)=((List.range t).map λj=>ev (j:Nat) W)++[ev (t:Nat) W]:=by rw[xj,wH];rfl
   rw[d4,hvt,bJ,er]
  rintro zs σ' H' p ⟨z,rfl,rfl,sm⟩ hp
  have bv:AllB 100000 ((List.range xs.length).map λj=>ev (j:Nat) W):=λy hy'=>by obtain⟨j,hj,rfl⟩:=wJ.mp hy';have hj':=xa.mp hj;show Bits 100000 (ev (j:Nat) W);rw[<- hv j];have o2:=iy ((j:Nat):Int) hn1;have bo2:=ld (x:=((j:Nat):Int)) (show((j:Nat):Int).natAbs<256 by omega) n;exact(ij (bx.mono) bo2 (by omega) hx (λz=>by rw[z]at o2;simp at o2)).mono
  refine⟨p,W,xs.length,rfl,ai,by omega,hWt,by omega,bv,λq H2 s2 hq e2=>?_⟩;refine⟨q,W,rfl,e2,hWt,by omega,hWb,λq3 H3 s3 hq3 e3=>k q3 H3 ((sm.then_new hp).trans (s2.trans s3)) (((sm.then_new hp).trans s2).free hq3) e3⟩
theorem rM(F:Fun K "_law_cell_at" "_law_cell_at" hU f fd)(T:Txt K mg):FnOk P w K mg base CX0 1 f fd ["_law_script","_law_k"] (fC K):=by
 refine F.ok pO (λvs H Q E h=>?_) (λcdv A outer s H vs Q E hr h=>?_)
 ·obtain⟨a,ns,k,rfl,_⟩:=h;rfl
 ·obtain⟨a,ns,n,rfl,hS,k⟩:=h
  refine⟨_,(ah (bn (aP fW (pv 1) (aI (aY (K:=K) rfl) (by rfl) T.len_ PySem.boot_len (aa (pv 0) ac)) (aM _))
   (al (av (aF (aH (K:=K) rfl) (pv 0) (pv 1) (λ_ _=>rfl))))
   bj)
   (al (av ag))),?_⟩
  refine⟨_,rfl,_,rfl,a,_,rfl,.inl hS,_,_,rfl,rfl,_,rfl,?_⟩;refine a0 (λh1=>?_) (λh1=>?_)
  ·rw[wE]at h1;have h2:n<ns.length:=by omega
   refine⟨_,rfl,_,rfl,a,_,_,_,rfl,rfl,hS,dq (v:=.int (ns.getD n 0)) ?_,k⟩;rw[List.getElem?_map,List.getElem?_eq_getElem h2];simp[List.getD,h2]
  ·rw[wE]at h1;have h2:ns.length<=n:=by omega
   have e:ns.getD n 0=0:=by simp[List.getD,List.getElem?_eq_none_iff.mpr h2]
   rw[e]at k;exact k
theorem dg{x m:Int}(h:0<m):0<=x%m/\x%m<m:=⟨Int.emod_nonneg _ (Int.ne_of_gt h),Int.emod_lt_of_pos _ h⟩
theorem sml{k:Nat}{x:Int}(h:x.natAbs<2^k){m:Nat}(hm:k<=m):Bits m x:=Bits.mono (j:=k) h hm
theorem b10:Bits 34 (10^10):=by show((10:Int)^10).natAbs<2^34;decide +kernel
def kB:Sp:=λvs H Q _=>∃c t:Int,vs=[.int c,.int t]/\Bits 20 t/\∀v:Int,Bits 34 v->Q (.int v) H
theorem rJ(F:Fun K "_law_number" "_law_number" g9 f fd)(T:Txt K mg):FnOk P w K mg base CX0 1 f fd ["_law_cell","_law_at"] kB:=by
 refine F.ok pM (λvs H Q E h=>?_) (λcdv A outer s H vs Q E hr h=>?_)
 ·obtain⟨c,t,rfl,_⟩:=h;rfl
 ·obtain⟨c,t,rfl,bt,k⟩:=h
  refine⟨_,(ah (bn (aP cL (af bR (pv 0) ag) ag (aM _))
   (al (av (af aT (af bR (af cC (pv 0) ag) (af aE (af aV ag (af lH ag ag)) ag)) (af lH ag ag))))
   bj)
   (al (av (af aT (af bR (af aE (af cC (pv 0) ag) (af aV (pv 1) (pv 1))) ag) ag)))),?_⟩
  have three:(0:Int)<3:=by decide
  have h12:(0:Int)<=10^10:=by decide +kernel
  refine il ⟨_,rfl,_,_,rfl,rfl,three,_,_,rfl,rfl,_,rfl,a0 (λ_=>?_) (λ_=>?_)⟩
  ·refine bA ⟨_,rfl,_,_,rfl,rfl,⟨three,j9⟩,_,_,rfl,rfl,⟨by decide,by decide,by decide⟩,_,_,rfl,rfl,⟨two9.mono,b10.mono⟩,_,_,rfl,rfl,_,_,rfl,rfl,(by show(0:Int)<2*10^10+1;omega),_,_,rfl,rfl,⟨by decide,by decide,by decide⟩,_,_,rfl,rfl,k _ ?_⟩;obtain⟨h1,h2⟩:=px (c:=c/3) h12;exact uI h1 h2 b10
  ·refine bA ⟨_,rfl,_,_,rfl,rfl,⟨three,j9⟩,_,rfl,_,rfl,_,_,rfl,rfl,⟨bt.mono,bt.mono⟩,_,_,rfl,rfl,_,_,rfl,rfl,(by show(0:Int)<9;decide),_,_,rfl,rfl,k _ ?_⟩;obtain⟨h1,h2⟩:=dg (x:=c/3+t*t) (m:=9) (by decide);exact sml (k:=4) (show((c/3+t*t)%9-4).natAbs<16 by omega) (by decide)
def kD:Sp:=λvs H Q _=>∃(p:Addr) (zs:List Int) (N:Nat),vs=[.ref p,.int (N:Nat)]/\H p=some (.lst (zs.map V.int))/\Mon zs N/\Q (.bl true) H
theorem rL(F:Fun K "_law_ends_with_one" "_law_ends_with_one" hJ f fd)(T:Txt K mg):FnOk P w K mg base CX0 1 f fd ["_law_found","_law_size"] kD:=by
 refine F.ok sc__law_ends_with_one (λvs H Q E h=>?_) (λcdv A outer s H vs Q E hr h=>?_)
 ·obtain⟨p,zs,N,rfl,_⟩:=h;rfl
 ·obtain⟨p,zs,N,rfl,hP,hM,k⟩:=h;have hl:=hM.len;have e1:(((zs.map V.int).length:Nat):Int)=(N:Int)+1:=by rw[wE,hl];omega
  refine⟨_,(ah (bn (PW.pt (dL (dM (c9 (aI (jE (K:=K) rfl) (by rfl) T.isinstance_ PyProof.Rows.boot_isinstance (aa (pv 0) (aa (iL (v:=.ty "list") (by rfl) T.list_ PyProof.Rows.boot_list (by rfl)) ac))))) (dJ (aP lI (aI (aY (K:=K) rfl) (by rfl) T.len_ PySem.boot_len (aa (pv 0) ac)) (af aE (pv 1) ag) (aM _)))))
   (al (av db))
   bj)
   (ah (b7 PassesOwn.never rfl (cy (K:=K) rfl (pv 0)) (aD (i:=2) sc__law_ends_with_one.nd rfl (Or.inl rfl))
     (al (bn (PW.pt (dL (dM (c9 (aI (jE (K:=K) rfl) (by rfl) T.isinstance_ PyProof.Rows.boot_isinstance (aa (pv 2) (aa (iL (v:=.ty "int") (by rfl) T.int_ PyProof.Rows.boot_int (by rfl)) ac))))) (dJ (c9 (aI (jE (K:=K) rfl) (by rfl) T.isinstance_ PyProof.Rows.boot_isinstance (aa (pv 2) (aa (iL (v:=.ty "bool") (by rfl) T.bool_ PyProof.Rows.boot_bool (by rfl)) ac)))))))
       (al (av db))
       bj)))
   (al (av (ly cL (aF (aH (K:=K) rfl) (pv 0) (pv 1) (λ_ _=>rfl)) ag (aM _)))))),?_⟩
  refine il (fG (dG (ir (ip ⟨_,rfl,jh (.lst hP) (k:=true) (by rfl) ⟨_,rfl,cw ⟨_,rfl,p,_,rfl,.inl (SqL.of hP),_,rfl,_,_,rfl,rfl,_,_,rfl,rfl,_,rfl,io (λz=>absurd e1 z) (λ_=>?_)⟩⟩⟩))));refine⟨_,rfl,p,rfl,⟨_,SqL.of hP⟩,jn (K:=K) (a:=p) (xs:=zs.map V.int) (λi σ' H'=>∃z:Option V,σ'=[some (.ref p),some (.int (N:Nat)),z]/\H=H') ⟨none,rfl,rfl⟩ ?_ ?_ ?_⟩
  ·rintro i σ' H' _ ⟨z,rfl,rfl⟩;exact SqL.of hP
  ·rintro i x σ' H' hi ⟨z,rfl,rfl⟩;obtain⟨y,_,rfl,_,_⟩:=eB hi;refine qh (fG (dG (ir (ip ⟨_,rfl,jh (.int y) (k:=true) (by rfl) ⟨_,rfl,cw ?_⟩⟩))));refine ir (ip ⟨_,rfl,jh (.int y) (k:=false) (by rfl) ⟨_,rfl,cw ?_⟩⟩);exact⟨_,rfl,rfl⟩
  ·rintro σ' H' ⟨z,rfl,rfl⟩;dsimp only
   refine bA ⟨_,rfl,_,rfl,p,_,_,_,rfl,rfl,SqL.of hP,aR rfl (by rw[hl];omega),_,_,rfl,rfl,?_⟩;rw[hM.top];exact k
theorem kS{f:Nat->Int}{M:Nat}:∀n,(∀i,i<n->Bits M (f i))->(sI n f).natAbs<=n*2^M
 |0,_=>by show(0:Int).natAbs<=_;omega
 |n+1,h=>by
  have h1:=kS n λi hi=>h i (by omega)
  have h2:(f n).natAbs<2^M:=h n (by omega);have e:(n+1)*2^M=n*2^M+2^M:=by rw[Nat.add_mul,Nat.one_mul]
  show(sI n f+f n).natAbs<=_;have:=Int.natAbs_add_le (sI n f) (f n);omega
theorem pP{f:Nat->Int}{M n:Nat}(hn:n<16)(h:∀i,i<n->Bits M (f i)):Bits (M+4) (sI n f):=by
 have h1:=kS n h;show(sI n f).natAbs<2^(M+4);rw[Nat.pow_add];have:n*2^M<16*2^M:=Nat.mul_lt_mul_of_pos_right hn (Nat.two_pow_pos M);have e:2^M*2^4=16*2^M:=by rw[Nat.mul_comm]
 omega
theorem rP{c:Nat->Int}{B N:Nat}{fd:List Int}(hc:∀i,Bits B (c i))(hN:N<=12)(hl:fd.length<=60)(h0:fd≠[])(hf:∀k,k<fd.length->Bits ((B+10)*(k+1)) (cf fd k)):Bits ((B+10)*(fd.length+1)) (bY c N fd):=by
 have hp:=wK.mpr h0;unfold bY
 have b1:Bits (B+(B+10)*fd.length+4) (sI (min (fd.length-1) N) (λi => -(c (N-(i+1))*cf fd (fd.length-(i+1))))):=pP (by omega) λi hi=>by have b2:=(hc (N-(i+1))).mul (hf (fd.length-(i+1)) (by omega));have h3:(B+10)*(fd.length-(i+1)+1)<=(B+10)*fd.length:=x5 _ (by omega);have b3:=b2.mono (k:=B+(B+10)*fd.length) (by omega);show(-(c (N-(i+1))*cf fd (fd.length-(i+1)))).natAbs<_;rw[Int.natAbs_neg];exact b3
 have b4:Bits (B+(B+10)*fd.length+4) (if fd.length<=N then(fd.length:Int)*c (N-fd.length)else 0):=by
  split
  ·have:Bits 6 (fd.length:Int):=by show(fd.length:Int).natAbs<64;omega
   have h5:(B+10)*1<=(B+10)*fd.length:=x5 _ (by omega);exact(this.mul (hc _)).mono (by omega)
  ·exact Bits.zero
 have e:(B+10)*(fd.length+1)=(B+10)*fd.length+(B+10):=by rw[Nat.mul_add,Nat.mul_one]
 exact(b1.sub b4).mono (by omega)
theorem fX{c:Nat->Int}{B N:Nat}(hc:∀i,Bits B (c i))(hN:N<=12):∀(K:Nat),K<=50->∀k,k<K+1->Bits ((B+10)*(k+1)) (cf (nL c N K) k)
 |0,_,k,hk=>by rw[show k=0 by omega];exact sml (k:=4) (show((N:Nat):Int).natAbs<16 by omega) (by omega)
 |K+1,hK,k,hk=>by
  by_cases z:k=K+1
  ·subst z;rw[iR];have:=rP (fd:=nL c N K) hc hN (by rw[aX];omega) (λz=>by have:=aX c N K;rw[z]at this;simp at this) (λk h=>fX hc hN K (by omega) k (by rw[aX]at h;exact h))
   rwa [aX]at this
  ·show Bits _ (cf (nL c N K++[_]) k);rw[cO (by rw[aX];omega)];exact fX hc hN K (by omega) k (by omega)
def kr:Sp:=λvs H Q _=>∃(a:Addr) (l:List Int) (N k B:Nat),vs=[.ref a,.int (k:Nat)]/\H a=some (.lst (l.map V.int))/\l.length=N+1/\N<=12/\k<=50/\B<=12000/\AllB B l/\mkL H Q (nL (cf l) N k)
theorem rG(F:Fun K "_law_sums_of_powers" "_law_sums_of_powers" g7 f fd)(T:Txt K mg):FnOk P w K mg base CX0 1 f fd ["_law_kp","_law_many"] kr:=by
 refine F.ok sc__law_sums_of_powers (λvs H Q E h=>?_) (λcdv A outer s H vs Q E hr h=>?_)
 ·obtain⟨a,l,N,k,B,rfl,_⟩:=h;rfl
 ·obtain⟨a,l,N,k,B,rfl,hA,hl,hN,hk,hB,bl,fin⟩:=h;have big:=sizeLine_eq;have hll:(((l.map V.int).length:Nat):Int)-1=(N:Int):=by rw[wE,hl];omega
  refine⟨_,(ah (ak (i:=2) sc__law_sums_of_powers.nd rfl (Or.inl rfl) (af aT (aI (aY (K:=K) rfl) (by rfl) T.len_ PySem.boot_len (aa (pv 0) ac)) ag))
   (ah (ak (i:=3) sc__law_sums_of_powers.nd rfl (Or.inl rfl) (aL (aa (pv 2) ac)))
   (ah (b7 PassesOwn.never rfl (iJ rfl T.range_ (aa ag (aa (af aE (pv 1) ag) ac))) (aD (i:=4) sc__law_sums_of_powers.nd rfl (Or.inl rfl))
     (ah (ak (i:=5) sc__law_sums_of_powers.nd rfl (Or.inl rfl) ag)
       (ah (b7 PassesOwn.never rfl (iJ rfl T.range_ (aa ag (aa (af aE (aI (uE rfl) (by rfl) T.min_ PyProof.Rows.boot_min (aa (af aT (pv 4) ag) (aa (pv 2) ac))) ag) ac))) (aD (i:=6) sc__law_sums_of_powers.nd rfl (Or.inl rfl))
         (al (ak (i:=5) sc__law_sums_of_powers.nd rfl (Or.inl rfl) (af aT (pv 5) (af aV (aF (aH (K:=K) rfl) (pv 0) (af aT (pv 2) (pv 6)) (λ_ _=>rfl)) (aF (aH (K:=K) rfl) (pv 3) (af aT (pv 4) (pv 6)) (λ_ _=>rfl)))))))
       (ah (bn (aP qY (pv 4) (pv 2) (aM _))
         (al (ak (i:=5) sc__law_sums_of_powers.nd rfl (Or.inl rfl) (af aT (pv 5) (af aV (pv 4) (aF (aH (K:=K) rfl) (pv 0) (af aT (pv 2) (pv 4)) (λ_ _=>rfl))))))
         bj)
       (al (fH (fN PySem.F.plainAttrs_list PySem.F.slot_list_append PySem.F.type_list_append f8 (pv 3) (aa (pv 5) ac))))))))
   (al (av (pv 3)))))),?_⟩
  refine aA ⟨_,rfl,a,_,rfl,.inl (SqL.of hA),_,_,rfl,rfl,?_⟩;dsimp only
  rw[hll];refine aA ⟨_,rfl,by show 1<=sizeLine;decide,λp hp=>?_⟩;have s0:=Same.upd_new (o:=.lst [V.int (N:Int)]) hp;have q0:upd H p (.lst [V.int (N:Int)]) p=some (.lst ((nL (cf l) N 0).map V.int)):=ai;refine iq (H2:=upd H p (.lst [V.int (N:Int)])) rfl ?_;generalize upd H p (.lst [V.int (N:Int)])=H0 at s0 q0 ⊢
  have nb:=λt (ht:t<=50)=>fX (c:=cf l) (B:=B) bl.cf hN t ht
  refine⟨_,rfl,_,_,rfl,rfl,1,(k:Int)+1,rfl,⟨by decide,by decide,by omega,by omega⟩,?_⟩;rw[show((k:Int)+1-1).toNat=k by omega];refine jm (lo:=1) (n:=k) (λt σ' H'=>∃z4 z5 z6:Option V,σ'=[some (.ref a),some (.int (k:Int)),some (.int (N:Int)),some (.ref p),z4,z5,z6]/\Same H H'/\H' p=some (.lst ((nL (cf l) N t).map V.int))) ⟨none,none,none,rfl,s0,q0⟩ ?_ ?_
  ·rintro t σ' H1 ht ⟨z4,z5,z6,rfl,s1,e1⟩;have fl:=aX (cf l) N t;have nbt:=nb t (by omega);refine aA ?_;show bD _ _ _ [some (.ref a),some (.int (k:Int)),some (.int (N:Int)),some (.ref p),some (.int (1+(t:Int))),some (.int 0),z6] H1;refine qj (λσ' H'=>∃z6:Option V,σ'=[some (.ref a),some (.int (k:Int)),some (.int (N:Int)),some (.ref p),some (.int (1+(t:Int))),some (.int (sI (min t N) (λi => -(cf l (N-(i+1))*cf (nL (cf l) N t) (t+1-(i+1)))))),z6]/\H1=H') ?_ λrest=>?_
   case refine_2 =>
    have emin:(if(N:Int)<1+(t:Int)-1 then(N:Int)else 1+(t:Int)-1)=((min t N:Nat):Int):=by split<;>omega
    refine⟨_,rfl,_,_,rfl,rfl,_,rfl,_,_,rfl,_,_,rfl,rfl,1,((min t N:Nat):Int)+1,by rw[<- emin],⟨by decide,by decide,by omega,by omega⟩,?_⟩;rw[show(((min t N:Nat):Int)+1-1).toNat=min t N by omega];refine jm (lo:=1) (n:=min t N) (λj σ' H'=>∃z6:Option V,σ'=[some (.ref a),some (.int (k:Int)),some (.int (N:Int)),some (.ref p),some (.int (1+(t:Int))),some (.int (sI j (λi => -(cf l (N-(i+1))*cf (nL (cf l) N t) (t+1-(i+1)))))),z6]/\H1=H') ⟨z6,rfl,rfl⟩ ?_ ?_
    ·rintro j σ' H2 hj ⟨z6,rfl,rfl⟩;have bk:Bits ((B+10)*(t+1-(j+1)+1)) (cf (nL (cf l) N t) (t+1-(j+1))):=nbt _ (by omega);have hb':(B+10)*(t+1-(j+1)+1)<=12010*51:=xL (by omega) (by omega);refine cS ⟨_,rfl,_,rfl,_,rfl,_,rfl,_,_,rfl,rfl,a,_,_,_,rfl,rfl,SqL.of (s1 _ _ hA),aR (j:=N-(j+1)) (by omega) (by omega),_,rfl,_,rfl,_,rfl,_,_,rfl,rfl,p,_,_,_,rfl,rfl,SqL.of e1,aR (j:=t+1-(j+1)) (by omega) (by rw[fl];omega),_,_,rfl,rfl,⟨(bl.cf _).mono (by omega),bk.mono (by omega)⟩,_,_,rfl,rfl,?_⟩;refine⟨some (.int (1+(j:Int))),?_,rfl⟩
     have e:sI (j+1) (λi => -(cf l (N-(i+1))*cf (nL (cf l) N t) (t+1-(i+1))))=sI j (λi => -(cf l (N-(i+1))*cf (nL (cf l) N t) (t+1-(i+1))))-cf l (N-(j+1))*cf (nL (cf l) N t) (t+1-(j+1)):=by show sI j _ + -(_)=_;omega
     rw[e];rfl
    ·rintro σ' H2 ⟨z6,rfl,rfl⟩;exact rest _ _ ⟨z6,rfl,rfl⟩
   rintro σ' H2 ⟨z6,rfl,rfl⟩;refine cx (λσ' H'=>∃z6:Option V,σ'=[some (.ref a),some (.int (k:Int)),some (.int (N:Int)),some (.ref p),some (.int (1+(t:Int))),some (.int (bY (cf l) N (nL (cf l) N t))),z6]/\H1=H') ?_ ?_
   case refine_2 =>
    intro rest;refine⟨_,rfl,_,rfl,_,_,rfl,rfl,_,rfl,a0 (λh1=>?_) (λh1=>?_)⟩
    ·have h1':1+(t:Int)<=(N:Int):=h1;refine cS ⟨_,rfl,_,rfl,_,rfl,_,rfl,_,rfl,_,_,rfl,rfl,a,_,_,_,rfl,rfl,SqL.of (s1 _ _ hA),aR (j:=N-(t+1)) (by omega) (by omega),_,_,rfl,rfl,⟨sml (k:=8) (show(1+(t:Int)).natAbs<256 by omega) (by decide),(bl.cf _).mono (by omega)⟩,_,_,rfl,rfl,rest _ _ ⟨z6,?_,rfl⟩⟩
     have e:bY (cf l) N (nL (cf l) N t)=sI (min t N) (λi => -(cf l (N-(i+1))*cf (nL (cf l) N t) (t+1-(i+1))))-(1+(t:Int))*cf l (N-(t+1)):=by unfold bY;rw[fl,if_pos (by omega),show((t+1:Nat):Int)=1+(t:Int) by omega];rfl
     rw[e];rfl
    ·have h1':¬1+(t:Int)<=(N:Int):=h1;refine rest _ _ ⟨z6,?_,rfl⟩
     have e:bY (cf l) N (nL (cf l) N t)=sI (min t N) (λi => -(cf l (N-(i+1))*cf (nL (cf l) N t) (t+1-(i+1)))):=by unfold bY;rw[fl,if_neg (by omega),Int.sub_zero];rfl
     rw[e]
   rintro σ' H2 ⟨z6,rfl,rfl⟩;refine qi ⟨_,rfl,.inl ⟨rfl,_,SqL.of e1⟩,_,rfl,p,_,_,rfl,rfl,e1,by rw[wE,fl];omega,?_⟩;refine⟨_,_,z6,rfl,fY s1 hp,?_⟩;rw[ai,bJ];rfl
  ·rintro σ' H1 ⟨z4,z5,z6,rfl,s1,e1⟩;exact⟨_,rfl,fin p H1 s1 hp e1⟩
theorem lB:∀k,AllB (1+k) (paL k)
 |0=>λx hx=>by
  have:x=1:=by simpa[paL]using hx
  rw[this];show(1:Int).natAbs<2;decide
 |k+1=>λx hx=>by
  have ih:=lB k;have one:Bits (1+(k+1)) 1:=sml (k:=1) (by decide) (by omega);rcases wQ.mp hx with z |z
  ·rcases wQ.mp z with z |z
   ·rw[w5.mp z];exact one
   ·obtain⟨i,_,rfl⟩:=wJ.mp z;exact(ih.cf i).add (ih.cf (i+1))
  ·rw[w5.mp z];exact one
def kA:Sp:=λvs H Q _=>∃(a:Addr) (k:Nat),vs=[.ref a]/\H a=some (.lst ((paL k).map V.int))/\k<=40/\mkL H Q (paL (k+1))
theorem rK(F:Fun K "_law_next_row" "_law_next_row" hE f fd)(T:Txt K mg):FnOk P w K mg base CX0 1 f fd ["_law_row"] kA:=by
 refine F.ok pN (λvs H Q E h=>?_) (λcdv A outer s H vs Q E hr h=>?_)
 ·obtain⟨a,k,rfl,_⟩:=h;rfl
 ·obtain⟨a,k,rfl,hA,hk,fin⟩:=h;have big:=sizeLine_eq;have pl:=bQ k;have hll:(((paL k).map V.int).length:Int)-1=(k:Int):=by rw[wE,pl];omega
  refine⟨_,(al (av (af b9 (af b9 (aL (aa ag ac)) (br (own:=["_law_k"]) (fr:=["_law_row"]) (js:=[0]) (by walk_at "comp_ok") rfl (bI rfl T.range_ (aa (af aT (aI (aY (K:=K) rfl) (by rfl) T.len_ PySem.boot_len (aa (pv 0) ac)) ag) ac)) (λ_ _ _ _=>(aD (i:=0) (show List.Nodup (["_law_k","_law_row"]:List Str)from by decide +kernel) rfl (Or.inl rfl))) (λ_ _ _ _=>(af aE (aF (aH (K:=K) rfl) (pv 1) (pv 0) (λ_ _=>rfl)) (aF (aH (K:=K) rfl) (pv 1) (af aE (pv 0) ag) (λ_ _=>rfl)))))) (aL (aa ag ac))))),?_⟩;refine bA ⟨by show 1<=sizeLine;decide,λp1 hp1=>?_⟩;have s1:=Same.upd_new (o:=.lst [V.int 1]) hp1;have q1:upd H p1 (.lst [V.int 1]) p1=some (.lst ([1].map V.int)):=ai;refine iq (H2:=upd H p1 (.lst [V.int 1])) rfl ?_;generalize upd H p1 (.lst [V.int 1])=H1 at s1 q1 ⊢
  refine⟨_,rfl,a,_,rfl,.inl (SqL.of (s1 _ _ hA)),_,_,rfl,rfl,(k:Int),by rw[<- hll],by omega,by omega,?_⟩;rw[show(k:Int).toNat=k by omega];refine bL (lo:=0) (n:=k) (λi ys σ' H'=>∃z:Option V,σ'=[z,some (.ref a)]/\ys=((List.range i).map λi=>cf (paL k) i+cf (paL k) (i+1)).map V.int/\H1=H') (by omega) ⟨none,rfl,rfl,rfl⟩ ?_ ?_ ?_
  ·rintro i ys σ' H' _ ⟨z,rfl,rfl,rfl⟩;simp
  ·rintro i ys σ' H' hi ⟨z,rfl,rfl,rfl⟩;refine⟨_,rfl,_,rfl,a,_,_,_,rfl,rfl,SqL.of (s1 _ _ hA),aR (j:=i) (by omega) (by omega),_,rfl,_,rfl,_,_,rfl,rfl,a,_,_,_,rfl,rfl,SqL.of (s1 _ _ hA),aR (j:=i+1) (by omega) (by omega),_,_,rfl,rfl,_,rfl,?_,rfl⟩;rw[xj,wH,wH];rfl
  rintro ys σ' H' p2 ⟨z,rfl,rfl,rfl⟩ hp2;have s2:=Same.upd_new (o:=.lst (((List.range k).map λi=>cf (paL k) i+cf (paL k) (i+1)).map V.int)) hp2;refine⟨p1,p2,_,_,rfl,rfl,s2 _ _ q1,ai,by rw[wE,wE,wE,wN];show 1+k<=_;omega,λp3 hp3=>?_⟩;rw[gb];have s3:=Same.upd_new (o:=.lst (([1]++(List.range k).map λi=>cf (paL k) i+cf (paL k) (i+1)).map V.int)) hp3;refine⟨by show 1<=sizeLine;decide,λp4 hp4=>?_⟩;have s4:=Same.upd_new (o:=.lst [V.int 1]) hp4;refine⟨p3,p4,_,_,rfl,rfl,s4 _ _ ai,ai,by rw[wE,wF,wE,wN];show 1+k+1<=_;omega,λp5 hp5=>?_⟩
  have e:([1]++(List.range k).map λi=>cf (paL k) i+cf (paL k) (i+1)).map V.int++[V.int 1]=(paL (k+1)).map V.int:=by rw[bJ];show _=([1]++((List.range ((paL k).length-1)).map λi=>cf (paL k) i+cf (paL k) (i+1))++[1]).map V.int;rw[pl,show k+1-1=k by omega]
  rw[e];have u:=s1.trans (s2.trans (s3.trans s4));exact fin p5 _ (u.then_new hp5) (u.free hp5) ai
theorem kl(g:Nat->Int):∀n,((List.range n).map g).sum=sI n g
 |0=>rfl
 |n+1=>by rw[xj,wH,List.sum_append,kl g n];show sI n g+(g n+0)=sI n g+g n;omega
noncomputable def ofS(us vs:List Int)(k:Nat):Int:=sI (k+1) λi=>cf (paL k) i*cf us i*cf vs (k-i)
def kz:Sp:=λvs H Q _=>∃(a b:Addr) (us ws:List Int) (M:Nat),vs=[.ref a,.ref b,.int (M:Nat)]/\H a=some (.lst (us.map V.int))/\H b=some (.lst (ws.map V.int))/\M<us.length/\M<ws.length/\M<=20/\AllB 400000 us/\AllB 400000 ws/\mkL H Q ((List.range (M+1)).map (ofS us ws))
theorem rH(F:Fun K "_law_of_sums" "_law_of_sums" g8 f fd)(T:Txt K mg)(vO:Cal P w K mg base 1 "_law_next_row" ["_law_row"] kA wB wf):FnOk P w K mg base CX0 2 f fd ["_law_ones","_law_others","_law_many"] kz:=by
 obtain⟨vn,sA,tu,uX⟩:=vO;refine F.ok sc__law_of_sums (λvs H Q E h=>?_) (λcdv A outer s H vs Q E hr h=>?_)
 ·obtain⟨a,b,us,ws,M,rfl,_⟩:=h;rfl
 ·obtain⟨a,b,us,ws,M,rfl,hA,hB,hMu,hMw,hM,bu,bw,fin⟩:=h;have big:=sizeLine_eq
  refine⟨_,(ah (ak (i:=3) sc__law_of_sums.nd rfl (Or.inl rfl) (aL ac))
   (ah (ak (i:=4) sc__law_of_sums.nd rfl (Or.inr rfl) (aL (aa ag ac)))
   (ah (b7 PassesOwn.never rfl (bI rfl T.range_ (aa (af aE (pv 2) ag) ac)) (aD (i:=5) sc__law_of_sums.nd rfl (Or.inr rfl))
     (ah (fH (fN PySem.F.plainAttrs_list PySem.F.slot_list_append PySem.F.type_list_append f8 (pv 3) (aa (aI (uD (K:=K) rfl rfl) (by rfl) T.sum_ PyProof.Rows.boot_sum (aa (br (own:=["_law_i"]) (fr:=["_law_others","_law_row","_law_ones","_law_k"]) (js:=[1,4,0,5]) (by walk_at "comp_ok") rfl (bI rfl T.range_ (aa (af aE (pv 5) ag) ac)) (λ_ _ _ _=>(aD (i:=0) (show List.Nodup (["_law_i","_law_others","_law_row","_law_ones","_law_k"]:List Str)from by decide +kernel) rfl (Or.inl rfl))) (λ_ _ _ _=>(af aV (af aV (aF (aH (K:=K) rfl) (pv 2) (pv 0) (λ_ _=>rfl)) (aF (aH (K:=K) rfl) (pv 3) (pv 0) (λ_ _=>rfl))) (aF (aH (K:=K) rfl) (pv 1) (af aT (pv 4) (pv 0)) (λ_ _=>rfl))))) ac)) ac)))
       (al (ak (i:=4) sc__law_of_sums.nd rfl (Or.inr rfl) (am vn (hr.mono) rfl sA tu uX .nil ao (aa (pv 4) ac))))))
   (al (av (pv 3)))))),?_⟩
  refine aA ⟨wL _,λp hp=>?_⟩;have s0:=Same.upd_new (o:=.lst []) hp;have q0:upd H p (.lst []) p=some (.lst (([]:List Int).map V.int)):=ai;generalize upd H p (.lst [])=H0 at s0 q0 ⊢
  refine aA ⟨by show 1<=sizeLine;decide,λpr hpr=>?_⟩;have s1:=Same.upd_new (o:=.lst [V.int 1]) hpr;have q1:upd H0 pr (.lst [V.int 1]) pr=some (.lst ((paL 0).map V.int)):=ai;have q01:=s1 _ _ q0;refine iq (H2:=upd H0 pr (.lst [V.int 1])) rfl ?_;generalize upd H0 pr (.lst [V.int 1])=H1 at s1 q1 q01 ⊢
  refine⟨_,rfl,_,_,rfl,rfl,(M:Int)+1,rfl,by omega,by omega,?_⟩;rw[show((M:Int)+1).toNat=M+1 by omega];refine jm (lo:=0) (n:=M+1) (λt σ' H'=>∃(pr:Addr) (z5:Option V),σ'=[some (.ref a),some (.ref b),some (.int (M:Int)),some (.ref p),some (.ref pr),z5]/\Same H H'/\pr≠p/\H' p=some (.lst (((List.range t).map (ofS us ws)).map V.int))/\H' pr=some (.lst ((paL t).map V.int))) ⟨pr,none,rfl,s0.trans s1,(λz=>by rw[z,q0]at hpr;cases hpr),q01,q1⟩ ?_ ?_
  ·rintro t σ' H2 ht ⟨pr,z5,rfl,s2,npr,e2,er⟩;have pl:=bQ t;refine im ⟨_,rfl,.inl ⟨rfl,_,SqL.of e2⟩,_,rfl,_,_,rfl,rfl,0+(t:Int)+1,rfl,by omega,by omega,?_⟩;rw[show(0+(t:Int)+1).toNat=t+1 by omega];refine bL (lo:=0) (n:=t+1) (λi ys σ' H'=>∃z:Option V,σ'=[z,some (.ref b),some (.ref pr),some (.ref a),some (.int (0+(t:Int)))]/\ys=((List.range i).map λi=>cf (paL t) i*cf us i*cf ws (t-i)).map V.int/\H2=H') (by omega) ⟨none,rfl,rfl,rfl⟩ ?_ ?_ ?_
   ·rintro i ys σ' H' _ ⟨z,rfl,rfl,rfl⟩;simp
   ·rintro i ys σ' H' hi ⟨z,rfl,rfl,rfl⟩;have b1:Bits 21 (cf (paL t) i):=((lB t).cf i).mono (by omega);refine⟨_,rfl,_,rfl,pr,_,_,_,rfl,rfl,SqL.of er,aR (j:=i) (by omega) (by omega),_,rfl,_,rfl,a,_,_,_,rfl,rfl,SqL.of (s2 _ _ hA),aR (j:=i) (by omega) (by omega),_,_,rfl,rfl,⟨b1.mono,(bu.cf i).mono⟩,_,rfl,_,rfl,_,rfl,_,_,rfl,rfl,b,_,_,_,rfl,rfl,SqL.of (s2 _ _ hB),aR (j:=t-i) (by omega) (by omega),_,_,rfl,rfl,⟨(b1.mul (bu.cf i)).mono,(bw.cf _).mono⟩,_,rfl,?_,rfl⟩;rw[xj,wH,wH];rfl
   rintro ys σ' H' pc ⟨z,rfl,rfl,rfl⟩ hpc;have s3:=Same.upd_new (o:=.lst (((List.range (t+1)).map λi=>cf (paL t) i*cf us i*cf ws (t-i)).map V.int)) hpc;refine⟨pc,_,rfl,SqL.of ai,p,_,_,rfl,rfl,s3 _ _ e2,by rw[wE,wE,wN];omega,?_⟩;rw[kl]
   have e4:upd (upd H2 pc (.lst (((List.range (t+1)).map λi=>cf (paL t) i*cf us i*cf ws (t-i)).map V.int))) p (.lst (((List.range t).map (ofS us ws)).map V.int++[V.int (sI (t+1) λi=>cf (paL t) i*cf us i*cf ws (t-i))])) p=some (.lst (((List.range (t+1)).map (ofS us ws)).map V.int)):=by
    rw[ai,bJ];have er:(List.range (t+1)).map (ofS us ws)=(List.range t).map (ofS us ws)++[ofS us ws t]:=by rw[xj,wH];rfl
    rw[er];rfl
   have s4:Same H (upd (upd H2 pc (.lst (((List.range (t+1)).map λi=>cf (paL t) i*cf us i*cf ws (t-i)).map V.int))) p (.lst (((List.range t).map (ofS us ws)).map V.int++[V.int (sI (t+1) λi=>cf (paL t) i*cf us i*cf ws (t-i))]))):=fY (s2.trans s3) hp
   have er4:upd (upd H2 pc (.lst (((List.range (t+1)).map λi=>cf (paL t) i*cf us i*cf ws (t-i)).map V.int))) p (.lst (((List.range t).map (ofS us ws)).map V.int++[V.int (sI (t+1) λi=>cf (paL t) i*cf us i*cf ws (t-i))])) pr=some (.lst ((paL t).map V.int)):=by rw[ar npr];exact s3 _ _ er
   dsimp only
   generalize upd (upd H2 pc (.lst (((List.range (t+1)).map λi=>cf (paL t) i*cf us i*cf ws (t-i)).map V.int))) p (.lst (((List.range t).map (ofS us ws)).map V.int++[V.int (sI (t+1) λi=>cf (paL t) i*cf us i*cf ws (t-i))]))=H4 at e4 s4 er4 ⊢
   refine cS ⟨_,rfl,pr,t,rfl,er4,by omega,λpr' H5 s5 hpr' er'=>?_⟩;exact⟨pr',_,rfl,s4.trans s5,(λz=>by rw[z,e4]at hpr';cases hpr'),s5 _ _ e4,er'⟩
  ·rintro σ' H2 ⟨pr,z5,rfl,s2,npr,e2,er⟩;exact⟨_,rfl,fin p H2 s2 hp e2⟩
theorem iN{B:Nat}{x:Int}(hx:Bits 8 x):∀{l:List Int},l.length<=9->AllB B l->AllB (B+20*l.length) (opp x l)
 | [],_,_=>AllB.nil
 |v::l,hl,h=>by
  rw[wI]at hl;have ih:=iN hx (l:=l) (by omega) λy hy=>h y (wP _ hy)
  have h1:=fR x l
  have h2:AllB 8 [x,-1]:=λy hy=>by
   simp only[wZ,xK,or_false]at hy;rcases hy with rfl |rfl
   ·exact hx
   ·show(-1:Int).natAbs<2^8;decide
  have h3:AllB (B+20*l.length+19) (ae (opp x l) [x,-1]):=f7 ih h2 (by omega);have h4:AllB (B+20*l.length+19) (trim [v]):=AllB.trim λy hy=>by rw[w5.mp hy];exact(h v (wT ..)).mono (by omega)
  exact(gk h3 h4).mono (by rw[wI];omega)
theorem j0{B:Nat}{x:Int}(hx:Bits 8 x){l:List Int}(hl:l.length<=9)(h:AllB B l):AllB (B+100) (aw x l).reverse:=λy hy=>by obtain⟨j,hj,rfl⟩:=wJ.mp (xu.mp hy);have:=xa.mp hj;exact((h.cf j).mul (fJ hx j)).mono (by omega)
theorem qv{x:Int}(hx:Bits 8 x)(k:Nat):AllB 300 (pwG x k):=by
 unfold pwG;refine(AllB.app (λy hy=>?_) AllB.zeros).snoc ?_
 ·rw[w5.mp hy];exact hx.mono
 ·exact Bits.mono (j:=1) (by show(-1:Int).natAbs<2^1;decide) (by decide)
theorem dF{xs ys:List Int}(hx:AllB 300 xs)(hy:AllB 300 ys)(h:xs.length+ys.length<=18)(hx0:xs≠[])(hy0:ys≠[]):Bits 5000 (au xs ys):=by
 have hxp:=wK.mpr hx0;have hyp:=wK.mpr hy0
 have hb:=gn (b:=300) (ys.length-1+(xs.length-1)) (syl (cf xs.reverse) (cf ys.reverse) (ys.length-1) (xs.length-1)) (by omega) (by unfold syl;rw[wF,b5,b5]) (λr hr j=>by
  have hz:(0:Int).natAbs<=2^300:=wL _;rcases wQ.mp hr with z |z
  ·obtain⟨k,_,rfl⟩:=wJ.mp z;show(if j<k then(0:Int)else cf xs.reverse (j-k)).natAbs<=_;split
   ·exact hz
   ·exact xq (AllB.cf (λx hx'=>hx x (xu.mp hx')) (j-k))
  ·obtain⟨k,_,rfl⟩:=wJ.mp z;show(if j<k then(0:Int)else cf ys.reverse (j-k)).natAbs<=_;split
   ·exact hz
   ·exact xq (AllB.cf (λx hx'=>hy x (xu.mp hx')) (j-k)))
 have h2:(300+4)*(ys.length-1+(xs.length-1))<=304*16:=x5 _ (by omega);exact xY hb ((Nat.pow_lt_pow_iff_right (by decide)).mpr (by omega))
theorem ml{B:Nat}:∀(n i:Nat) (l:List Int),AllB B l->AllB (B+n) (bE n i l)
 |0,_,_,_=>λx hx=>by cases hx
 |n+1,i,l,h=>λx hx=>by
  have hx':x∈cf l 0::bE n (i+1) (bN (i+1) l):=hx;rcases wZ.mp hx' with rfl |z
  ·exact(h.cf 0).mono (by omega)
  ·exact((ml (B:=B+1) n (i+1) _ (ko h)) x z).mono (by omega)
theorem jb:∀(n i:Nat) (l:List Int),(bE n i l).length=n
 |0,_,_=>rfl
 |n+1,i,l=>by show(bE n (i+1) (bN (i+1) l)).length+1=n+1;rw[jb n (i+1)]
theorem mJ{B:Nat}:∀(cs:List Int) (k:Nat),k+cs.length<=50->AllB B cs->AllB (B+100*cs.length) (bz k cs)
 | [],_,_,_=>AllB.nil
 |c::cs,k,hk,h=>by
  rw[wI]at hk;have ih:=mJ cs (k+1) (by omega) λy hy=>h y (wP _ hy)
  have h1:=gd cs (k+1);have h3:AllB (B+100*cs.length+99) (ae (bz (k+1) cs) [-((k:Nat):Int),1]):=f7 ih (gq (by omega)) (by omega);have h4:AllB (B+100*cs.length+99) (trim [c]):=AllB.trim λy hy=>by rw[w5.mp hy];exact(h c (wT ..)).mono (by omega)
  exact(gk h3 h4).mono (by rw[wI];omega)
theorem dz{W:List Int}{N:Nat}(hl:W.length=N+1)(ht:Tr W)(hN:N<=12)(h:∀j:Nat,j<=12->Bits 5000 (ev (j:Int) W)):AllB 7000 W:=by
 have e:=ft (W:=W) (n:=N+1) (by omega) ht
 have b1:AllB 5000 ((List.range (N+1)).map λj=>ev (j:Nat) W):=λx hx=>by obtain⟨j,hj,rfl⟩:=wJ.mp hx;have:=xa.mp hj;exact h j (by omega)
 have b2:=ml (N+1) 0 _ b1;have b3:=mJ _ 0 (by rw[jb];omega) b2;rw[e,jb]at b3;exact b3.mono (by omega)
theorem fm{c:Int}(hc:c≠0){l:List Int}(h:Tr l):Tr (l.map (c*·)):=λn hn=>by rw[wE]at hn;rw[aC (by rw[wE];omega),xm];have:=h n hn;rw[aC (by omega)]at this;exact xf hc this
theorem kR{c:Int}{W:List Int}(h:W≠[]):(ae [c] W).length=W.length:=r0 h
structure K38(as bs:List Int)(sc:Int):Prop where
 a1:1<=as.length
 b1:1<=bs.length
 a8:as.length<=8
 b8:bs.length<=8
 ab:as.length*bs.length<=12
 sm:as.length+bs.length<=11
 ba:AllB 34 as
 bb:AllB 34 bs
 s0:sc≠0
 s3:sc.natAbs<=3
theorem cK{as:List Int}(h:AllB 34 as):AllB 34 (as++[1]):=h.snoc (sml (k:=1) (by decide) (by decide))
theorem K38.hb{as bs:List Int}{sc:Int}(h:K38 as bs sc):AllB 36 ((bs++[1]).map (sc*·)):=λx hx=>by
 obtain⟨y,hy,rfl⟩:=wJ.mp hx;have:Bits 2 sc:=by show sc.natAbs<4;have:=h.s3;omega
 exact this.mul (cK h.bb y hy)
theorem lj{c:Int}(h:c≠0)(n:Nat):c^n≠0:=qH h n
theorem K38.sums{as bs:List Int}{sc:Int}(h:K38 as bs sc):∃W W',Mon W (as.length*bs.length)/\aB W'=W/\W'.length=((as++[1]).length-1)*(((bs++[1]).map (sc*·)).length-1)+1/\Tr W'/\AllB 9000 W'/\AllB 9000 W/\(∀x:Nat,au (as++[1]) (opp (x:Nat) ((bs++[1]).map (sc*·)))=ev (x:Nat) W')/\∀k,sN (cf W) (as.length*bs.length) k=sI (k+1) λi=>cf (paL k) i*(sN (cf (as++[1])) as.length i*sN (cf (bs++[1])) bs.length (k-i)):=by
 obtain⟨W,hM,hv,hs⟩:=pb (a:=as) (b:=bs);have l1:=bT as;have l2:=bT bs;have nz:=lj h.s0 ((as++[1]).length-1);have a8:=h.a8;have b8:=h.b8;have hsm:=h.sm;have hab:=h.ab
 have ev':∀x:Nat,au (as++[1]) (opp (x:Nat) ((bs++[1]).map (sc*·)))=ev (x:Nat) (ae [sc^((as++[1]).length-1)] W):=λx=>by rw[qV h.s0 (dy bs) (by simp),hv,nu]
 have tc:Tr [sc^((as++[1]).length-1)]:=(tr_snoc (r:=[])).mpr nz;have len':(ae [sc^((as++[1]).length-1)] W).length=as.length*bs.length+1:=by rw[kR hM.ne,hM.len]
 have ba:AllB 300 (as++[1]):=(cK h.ba).mono;refine⟨W,ae [sc^((as++[1]).length-1)] W,hM,ll hM nz,?_,cr tc hM.tr,?_,?_,ev',hs⟩
 ·rw[len',wE,l1,l2];rfl
 ·refine(dz len' (cr tc hM.tr) hab λj hj=>?_).mono;rw[<- ev'];obtain⟨_,o2,_⟩:=cB ((j:Nat):Int) ((bs++[1]).map (sc*·)) (fm h.s0 (dy bs)) (by simp);rw[wE,l2]at o2;have bo:=iN (x:=((j:Nat):Int)) (show((j:Nat):Int).natAbs<256 by omega) (by rw[wE,l2];omega) h.hb;rw[wE,l2]at bo;exact dF ba (bo.mono (by omega)) (by rw[l1,o2];omega) (by simp) (λz=>by rw[z]at o2;simp at o2)
 ·refine(dz hM.len hM.tr hab λj hj=>?_).mono;rw[<- hv];obtain⟨_,o2,_⟩:=cB ((j:Nat):Int) (bs++[1]) (dy bs) (by simp);rw[l2]at o2;have bo:=iN (x:=((j:Nat):Int)) (show((j:Nat):Int).natAbs<256 by omega) (by rw[l2];omega) (cK h.bb);rw[l2]at bo;exact dF ba (bo.mono (by omega)) (by rw[l1,o2];omega) (by simp) (λz=>by rw[z]at o2;simp at o2)
theorem K38.prods{as bs:List Int}{sc:Int}(h:K38 as bs sc):∃W W',Mon W (as.length*bs.length)/\aB W'=W/\W'.length=((as++[1]).length-1)*(((bs++[1]).map (sc*·)).length-1)+1/\Tr W'/\AllB 9000 W'/\AllB 9000 W/\(∀x:Nat,au (as++[1]) (aw (x:Nat) ((bs++[1]).map (sc*·))).reverse=ev (x:Nat) W')/\∀k,sN (cf W) (as.length*bs.length) k=sN (cf (as++[1])) as.length k*sN (cf (bs++[1])) bs.length k:=by
 obtain⟨W,hM,hv,hs⟩:=qz (a:=as) (b:=bs);have l1:=bT as;have l2:=bT bs;have nz:=lj h.s0 ((as++[1]).length-1);have a8:=h.a8;have b8:=h.b8;have hsm:=h.sm;have hab:=h.ab
 have ev':∀x:Nat,au (as++[1]) (aw (x:Nat) ((bs++[1]).map (sc*·))).reverse=ev (x:Nat) (ae [sc^((as++[1]).length-1)] W):=λx=>by rw[oz,hv,nu]
 have tc:Tr [sc^((as++[1]).length-1)]:=(tr_snoc (r:=[])).mpr nz;have len':(ae [sc^((as++[1]).length-1)] W).length=as.length*bs.length+1:=by rw[kR hM.ne,hM.len]
 have ba:AllB 300 (as++[1]):=(cK h.ba).mono;refine⟨W,ae [sc^((as++[1]).length-1)] W,hM,ll hM nz,?_,cr tc hM.tr,?_,?_,ev',hs⟩
 ·rw[len',wE,l1,l2];rfl
 ·refine(dz len' (cr tc hM.tr) hab λj hj=>?_).mono;rw[<- ev'];have o2:=fh ((j:Nat):Int) ((bs++[1]).map (sc*·));rw[wE,l2]at o2;have bo:=j0 (x:=((j:Nat):Int)) (show((j:Nat):Int).natAbs<256 by omega) (by rw[wE,l2];omega) h.hb;exact dF ba (bo.mono (by omega)) (by rw[l1,o2];omega) (by simp) (λz=>by rw[z]at o2;simp at o2)
 ·refine(dz hM.len hM.tr hab λj hj=>?_).mono;rw[<- hv];have o2:=fh ((j:Nat):Int) (bs++[1]);rw[l2]at o2;have bo:=j0 (x:=((j:Nat):Int)) (show((j:Nat):Int).natAbs<256 by omega) (by rw[l2];omega) (cK h.bb);exact dF ba (bo.mono (by omega)) (by rw[l1,o2];omega) (by simp) (λz=>by rw[z]at o2;simp at o2)
theorem K38.pows{as bs:List Int}{sc:Int}(h:K38 as bs sc){e:Nat}(he:1<=e)(he8:e<=8):∃W,Mon W as.length/\AllB 9000 W/\(∀x:Nat,au (as++[1]) (pwG (x:Nat) e)=ev (x:Nat) W)/\∀k,sN (cf W) as.length k=sN (cf (as++[1])) as.length (k*e):=by obtain⟨W,hM,hv,hs⟩:=qE (a:=as) he;have l1:=bT as;have a8:=h.a8;have ba:AllB 300 (as++[1]):=(cK h.ba).mono;refine⟨W,hM,?_,λx=>hv x,hs⟩;refine(dz hM.len hM.tr (by omega) λj hj=>?_).mono;rw[<- hv];have o2:=iy ((j:Nat):Int) he;exact dF ba (qv (x:=((j:Nat):Int)) (show((j:Nat):Int).natAbs<256 by omega) e) (by show(as++[1]).length+(pwG ((j:Nat):Int) e).length<=18;rw[l1,o2];omega) (by simp) (λz=>by have z':pwG ((j:Nat):Int) e=[]:=z;rw[z']at o2;simp at o2)
theorem iS(c:Nat->Int)(N:Nat)(K:Nat):nL c N K=(List.range (K+1)).map (sN c N):=by
 refine List.ext_getElem (by rw[aX,wE,wN]) λk h1 h2=>?_
 rw[xm,x4,<- hZ c N (show k<=K by rw[aX]at h1;omega),aC h1]
theorem lN{c:Nat->Int}{B N:Nat}(hc:∀i,Bits B (c i))(hB:B<=9000)(hN:N<=12){K:Nat}(hK:K<=40):AllB 400000 (nL c N K):=AllB.of_cf λk=>by
 by_cases z:k<K+1
 ·refine(fX hc hN K (by omega) k z).mono ?_;exact xb (xL (show B+10<=9010 by omega) (show k+1<=41 by omega)) (by decide)
 ·rw[ay (by rw[aX];omega)];exact Bits.zero
theorem rz(F:Fun K "law" "law" gU f fd)(T:Txt K mg)(vR:Cal P w K mg base 1 "_law_cell_at" ["_law_script","_law_k"] (fC K) wD wk)(vN:Cal P w K mg base 1 "_law_number" ["_law_cell","_law_at"] kB wA we)(vQ:Cal P w K mg base 1 "_law_ends_with_one" ["_law_found","_law_size"] kD wC wg)(vK:Cal P w K mg base 1 "_law_sums_of_powers" ["_law_kp","_law_many"] kr wy wc)(vL:Cal P w K mg base 2 "_law_of_sums" ["_law_ones","_law_others","_law_many"] kz wz wd)(vz:Cal P w K mg base 35 "sums" ["first","second"] (fv opp) wm vX)(vE:Cal P w K mg base 35 "products" ["first","second"] (fv λx l=>(aw x l).reverse) wr v6)(vF:Cal P w K mg base 35 "powers" ["row","k"] kx wt v7):FnOk P w K mg base CX0 36 f fd ["_law_script"] (fA K):=by
 obtain⟨eY,d0,ez,eQ⟩:=vR;obtain⟨oj,ma,mC,n8⟩:=vN;obtain⟨jQ,i5,jg,jJ⟩:=vQ;obtain⟨eX,dZ,eu,eP⟩:=vK;obtain⟨vm,sy,tq,uW⟩:=vL;obtain⟨vc,sk,sT,uN⟩:=vz;obtain⟨vg,ss,sY,uR⟩:=vE;obtain⟨vh,su,sZ,uS⟩:=vF;refine F.ok sc_law (λvs H Q E h=>?_) (λcdv A outer s H vs Q E hr h=>?_)
 ·obtain⟨a,ns,rfl,_⟩:=h;rfl
 ·obtain⟨a,ns,rfl,hS,hlen,fin⟩:=h;have big:=sizeLine_eq;have hu:=hr.units
  refine⟨_,(ah (ak (i:=1) sc_law.nd rfl (Or.inl rfl) (am eY (hr.mono) rfl d0 ez eQ .nil ao (aa (pv 0) (aa ag ac))))
   (ah (ak (i:=2) sc_law.nd rfl (Or.inr rfl) (af aE ag (af bR (pv 1) ag)))
   (ah (ak (i:=3) sc_law.nd rfl (Or.inl rfl) (af aE ag (af bR (af cC (pv 1) ag) ag)))
   (ah (bn (aP cL (af bR (af cC (pv 1) ag) ag) ag (aM _))
     (ah (ak (i:=2) sc_law.nd rfl (Or.inr rfl) ag)
       (al (ak (i:=3) sc_law.nd rfl (Or.inl rfl) (af aE ag (af bR (af cC (pv 1) ag) ag)))))
     bj)
   (ah (ak (i:=4) sc_law.nd rfl (Or.inr rfl) (af aE ag (af bR (am eY (hr.mono) rfl d0 ez eQ .nil ao (aa (pv 0) (aa ag ac))) ag)))
   (ah (ak (i:=5) sc_law.nd rfl (Or.inr rfl) (af aE ag (af bR (af cC (am eY (hr.mono) rfl d0 ez eQ .nil ao (aa (pv 0) (aa ag ac))) ag) ag)))
   (ah (bn (aP cL (af bR (af cC (pv 1) ag) ag) ag (aM _))
     (al (ak (i:=5) sc_law.nd rfl (Or.inr rfl) (cz cq (pv 5))))
     bj)
   (ah (ak (i:=6) sc_law.nd rfl (Or.inl rfl) (af b9 (br (own:=["_law_i"]) (fr:=["_law_script"]) (js:=[0]) (by walk_at "comp_ok") rfl (bI rfl T.range_ (aa (pv 2) ac)) (λ_ _ _ _=>(aD (i:=0) (show List.Nodup (["_law_i","_law_script"]:List Str)from by decide +kernel) rfl (Or.inl rfl))) (λ_ _ _ _=>(am oj (hr.mono) rfl ma mC n8 .nil ao (aa (am eY (hr.mono) rfl d0 ez eQ .nil ao (aa (pv 1) (aa (af aE ag (pv 0)) ac))) (aa (pv 0) ac))))) (aL (aa ag ac))))
   (ah (ak (i:=7) sc_law.nd rfl (Or.inl rfl) (af b9 (br (own:=["_law_i"]) (fr:=["_law_script","_law_m"]) (js:=[0,2]) (by walk_at "comp_ok") rfl (bI rfl T.range_ (aa (pv 3) ac)) (λ_ _ _ _=>(aD (i:=0) (show List.Nodup (["_law_i","_law_script","_law_m"]:List Str)from by decide +kernel) rfl (Or.inl rfl))) (λ_ _ _ _=>(am oj (hr.mono) rfl ma mC n8 .nil ao (aa (am eY (hr.mono) rfl d0 ez eQ .nil ao (aa (pv 1) (aa (af aE (af aE ag (pv 2)) (pv 0)) ac))) (aa (pv 0) ac))))) (aL (aa ag ac))))
   (ah (iz (i:=8) sc_law.nd rfl (Or.inl rfl) (own:=["_law_one"]) (fr:=["_law_scale"]) (js:=[5]) (by walk_at "comp_ok") rfl (cy (K:=K) rfl (pv 7)) (λ_ _ _ _=>(aD (i:=0) (show List.Nodup (["_law_one","_law_scale"]:List Str)from by decide +kernel) rfl (Or.inl rfl))) (λ_ _ _ _=>(af aV (pv 1) (pv 0))) (by rfl))
   (ah (ak (i:=9) sc_law.nd rfl (Or.inl rfl) (af aV (pv 2) (pv 3)))
   (ah (ak (i:=10) sc_law.nd rfl (Or.inl rfl) (am vc (hr.mono) rfl sk sT uN .nil ao (aa (pv 6) (aa (pv 8) ac))))
   (ah (ak (i:=11) sc_law.nd rfl (Or.inl rfl) (am vg (hr.mono) rfl ss sY uR .nil ao (aa (pv 6) (aa (pv 8) ac))))
   (ah (ak (i:=12) sc_law.nd rfl (Or.inl rfl) (am vh (hr.mono) rfl su sZ uS .nil ao (aa (pv 6) (aa (pv 4) ac))))
   (ah (bn (PW.pt (dL (dM (c9 (am jQ (hr.mono) rfl i5 jg jJ .nil ao (aa (pv 10) (aa (pv 9) ac))))) (dJ (dM (c9 (am jQ (hr.mono) rfl i5 jg jJ .nil ao (aa (pv 11) (aa (pv 9) ac))))))))
     (al (av db))
     bj)
   (ah (bn (PW.pt (dL (dM (c9 (am jQ (hr.mono) rfl i5 jg jJ .nil ao (aa (pv 12) (aa (pv 2) ac))))) (dJ (aP (fV (K:=K) rfl hu) (pv 8) (br (own:=["_law_one"]) (fr:=["_law_scale"]) (js:=[5]) (by walk_at "comp_ok") rfl (cy (K:=K) rfl (pv 7)) (λ_ _ _ _=>(aD (i:=0) (show List.Nodup (["_law_one","_law_scale"]:List Str)from by decide +kernel) rfl (Or.inl rfl))) (λ_ _ _ _=>(af aV (pv 1) (pv 0)))) (aM _)))))
     (al (av db))
     bj)
   (ah (ak (i:=13) sc_law.nd rfl (Or.inr rfl) (am eX (hr.mono) rfl dZ eu eP .nil ao (aa (pv 6) (aa (aI (nR rfl) (by rfl) T.max_ PyProof.Rows.boot_max (aa (pv 9) (aa (af aV (pv 2) (pv 4)) ac))) ac))))
   (ah (ak (i:=14) sc_law.nd rfl (Or.inr rfl) (am eX (hr.mono) rfl dZ eu eP .nil ao (aa (pv 7) (aa (pv 9) ac))))
   (ah (bn (aP (fV (K:=K) rfl hu) (am eX (hr.mono) rfl dZ eu eP .nil ao (aa (pv 10) (aa (pv 9) ac))) (am vm (hr.mono) rfl sy tq uW .nil ao (aa (pv 13) (aa (pv 14) (aa (pv 9) ac)))) (aM _))
     (al (av db))
     bj)
   (ah (bn (aP (fV (K:=K) rfl hu) (am eX (hr.mono) rfl dZ eu eP .nil ao (aa (pv 11) (aa (pv 9) ac))) (br (own:=["_law_i"]) (fr:=["_law_ones","_law_others"]) (js:=[13,14]) (by walk_at "comp_ok") rfl (bI rfl T.range_ (aa (af aE (pv 9) ag) ac)) (λ_ _ _ _=>(aD (i:=0) (show List.Nodup (["_law_i","_law_ones","_law_others"]:List Str)from by decide +kernel) rfl (Or.inl rfl))) (λ_ _ _ _=>(af aV (aF (aH (K:=K) rfl) (pv 1) (pv 0) (λ_ _=>rfl)) (aF (aH (K:=K) rfl) (pv 2) (pv 0) (λ_ _=>rfl))))) (aM _))
     (al (av db))
     bj)
   (al (av (ly (iP (K:=K) rfl hu) (am eX (hr.mono) rfl dZ eu eP .nil ao (aa (pv 12) (aa (pv 2) ac))) (br (own:=["_law_j"]) (fr:=["_law_ones","_law_k"]) (js:=[13,4]) (by walk_at "comp_ok") rfl (bI rfl T.range_ (aa (af aE (pv 2) ag) ac)) (λ_ _ _ _=>(aD (i:=0) (show List.Nodup (["_law_j","_law_ones","_law_k"]:List Str)from by decide +kernel) rfl (Or.inl rfl))) (λ_ _ _ _=>(aF (aH (K:=K) rfl) (pv 1) (af aV (pv 0) (pv 2)) (λ_ _=>rfl)))) (aM _)))))))))))))))))))))))),?_⟩
  refine aA ⟨_,rfl,a,ns,0,rfl,hS,?_⟩;generalize ns.getD 0 0=c;have four:(0:Int)<4:=by decide
  have three:(0:Int)<3:=by decide
  have bw:∀z:Int,z.natAbs<1024->Bits 9000 z:=λz h=>sml (k:=10) h (by decide)
  refine aA ⟨_,rfl,_,_,rfl,rfl,four,_,_,rfl,rfl,?_⟩;refine aA ⟨_,rfl,_,_,rfl,rfl,⟨four,bw 4 (by decide)⟩,_,_,rfl,rfl,three,_,_,rfl,rfl,?_⟩;obtain⟨m0,m1⟩:=dg (x:=c) four;obtain⟨n0,n1⟩:=dg (x:=c/4) three;obtain⟨v0,v1⟩:=dg (x:=c/84) (m:=8) (by decide);refine cx (λσ' H'=>∃m n:Nat,1<=m/\m<=4/\1<=n/\n<=8/\(m=1\/n<=3)/\σ'=[some (.ref a),some (.int c),some (.int (m:Nat)),some (.int (n:Nat)),none,none,none,none,none,none,none,none,none,none,none]/\H=H') ?_ ?_
  case refine_2 =>
   intro rest;refine⟨_,rfl,_,_,rfl,rfl,⟨by decide,bw 12 (by decide)⟩,_,_,rfl,rfl,(by show(0:Int)<7;decide),_,_,rfl,rfl,_,rfl,a0 (λ_=>?_) (λ_=>?_)⟩
   ·refine aA ?_;refine cS ⟨_,rfl,_,_,rfl,rfl,⟨by decide,bw 84 (by decide)⟩,_,_,rfl,rfl,(by show(0:Int)<8;decide),_,_,rfl,rfl,rest _ _ ⟨1,(1+c/84%8).toNat,by omega,by omega,by omega,by omega,.inl rfl,?_,rfl⟩⟩;rw[Int.toNat_of_nonneg (by omega)];rfl
   ·refine rest _ _ ⟨(1+c%4).toNat,(1+c/4%3).toNat,by omega,by omega,by omega,by omega,.inr (by omega),?_,rfl⟩;rw[Int.toNat_of_nonneg (by omega),Int.toNat_of_nonneg (by omega)];rfl
  clear m0 m1 n0 n1 v0 v1;rintro σ' H' ⟨m,n,hm1,hm4,hn1,hn8,hmn,rfl,rfl⟩
  have hmn12:m*n<=12:=by
   rcases hmn with rfl |h
   ·omega
   ·exact xL hm4 h
  refine aA ⟨_,rfl,a,ns,1,rfl,hS,_,_,rfl,rfl,(by show(0:Int)<8;decide),_,_,rfl,rfl,?_⟩;refine aA ⟨_,rfl,a,ns,1,rfl,hS,_,_,rfl,rfl,⟨by decide,bw 8 (by decide)⟩,_,_,rfl,rfl,three,_,_,rfl,rfl,?_⟩;obtain⟨k0,k1⟩:=dg (x:=ns.getD 1 0) (m:=8) (by decide);obtain⟨v0,v1⟩:=dg (x:=ns.getD 1 0/8) three;obtain⟨e,ee,e1,e8⟩:∃e:Nat,1+ns.getD 1 0%8=(e:Int)/\1<=e/\e<=8:=⟨(1+ns.getD 1 0%8).toNat,by omega,by omega,by omega⟩;obtain⟨sc0,es,s1,s3⟩:∃sc0:Int,1+ns.getD 1 0/8%3=sc0/\1<=sc0/\sc0<=3:=⟨_,rfl,by omega,by omega⟩;show bD _ _ _ [some (.ref a),some (.int c),some (.int (m:Nat)),some (.int (n:Nat)),some (.int (1+ns.getD 1 0%8)),some (.int (1+ns.getD 1 0/8%3)),none,none,none,none,none,none,none,none,none] H;rw[ee,es];clear ee es k0 k1 v0 v1;refine cx (λσ' H'=>∃sc:Int,sc≠0/\sc.natAbs<=3/\σ'=[some (.ref a),some (.int c),some (.int (m:Nat)),some (.int (n:Nat)),some (.int (e:Nat)),some (.int sc),none,none,none,none,none,none,none,none,none]/\H=H') ?_ ?_
  case refine_2 =>intro rest;refine⟨_,rfl,_,_,rfl,rfl,⟨by decide,bw 12 (by decide)⟩,_,_,rfl,rfl,(by show(0:Int)<2;decide),_,_,rfl,rfl,_,rfl,a0 (λ_=>?_) (λ_=>rest _ _ ⟨sc0,by omega,by omega,rfl,rfl⟩)⟩;exact cS ⟨_,rfl,_,rfl,rest _ _ ⟨-sc0,by omega,by omega,rfl,rfl⟩⟩
  clear s1 s3 sc0;rintro σ' H' ⟨sc,sc0,sc3,rfl,rfl⟩;have bsc:Bits 10 sc:=by show sc.natAbs<1024;omega
  refine aA ⟨_,rfl,(m:Int),rfl,by omega,by omega,?_⟩;rw[show(m:Int).toNat=m by omega];refine bL (lo:=0) (n:=m) (λi ys σ' H'=>∃(z:Option V) (as:List Int),σ'=[z,some (.ref a)]/\ys=as.map V.int/\as.length=i/\AllB 34 as/\H=H') (by omega) ⟨none,[],rfl,rfl,rfl,AllB.nil,rfl⟩ ?_ ?_ ?_
  ·rintro i ys σ' H' _ ⟨z,as,rfl,rfl,hl,_,rfl⟩;rw[wE];omega
  ·rintro i ys σ' H' hi ⟨z,as,rfl,rfl,hl,hb,rfl⟩;have e0:(2+(0+(i:Int)))=((2+i:Nat):Int):=by omega
   refine⟨_,rfl,_,rfl,_,_,rfl,rfl,a,ns,2+i,by show[V.ref a,V.int (2+(0+(i:Int)))]=_;rw[e0],hS,_,rfl,_,_,rfl,sml (k:=8) (show(0+(i:Int)).natAbs<256 by omega) (by decide),λv bv=>?_⟩;exact⟨_,as++[v],rfl,bJ _ _,by rw[wF,hl];rfl,hb.snoc bv,rfl⟩
  rintro ys σ' H' p1 ⟨z,as,rfl,rfl,hla,ba,rfl⟩ hp1;subst hla;have s1:=Same.upd_new (o:=.lst (as.map V.int)) hp1;have q1:upd H p1 (.lst (as.map V.int)) p1=some (.lst (as.map V.int)):=ai;generalize upd H p1 (.lst (as.map V.int))=H1 at s1 q1 ⊢
  refine⟨by show 1<=sizeLine;decide,λp2 hp2=>?_⟩;have s2:=Same.upd_new (o:=.lst [V.int 1]) hp2;refine⟨p1,p2,_,_,rfl,rfl,s2 _ _ q1,ai,by rw[wE];show as.length+1<=_;omega,λpk hpk=>?_⟩;have s3:=Same.upd_new (o:=.lst (as.map V.int++[V.int 1])) hpk;have u3:=s1.trans (s2.trans s3);have ek:upd (upd H1 p2 (.lst [V.int 1])) pk (.lst (as.map V.int++[V.int 1])) pk=some (.lst ((as++[1]).map V.int)):=by rw[ai,bJ]
  dsimp only
  generalize upd (upd H1 p2 (.lst [V.int 1])) pk (.lst (as.map V.int++[V.int 1]))=H3 at u3 ek ⊢
  clear s1 s2 s3 q1 hp1 hp2 hpk;refine aA ⟨_,rfl,(n:Int),rfl,by omega,by omega,?_⟩;rw[show(n:Int).toNat=n by omega];refine bL (lo:=0) (n:=n) (λi ys σ' H'=>∃(z:Option V) (bs:List Int),σ'=[z,some (.ref a),some (.int (as.length:Nat))]/\ys=bs.map V.int/\bs.length=i/\AllB 34 bs/\H3=H') (by omega) ⟨none,[],rfl,rfl,rfl,AllB.nil,rfl⟩ ?_ ?_ ?_
  ·rintro i ys σ' H' _ ⟨z,bs,rfl,rfl,hl,_,rfl⟩;rw[wE];omega
  ·rintro i ys σ' H' hi ⟨z,bs,rfl,rfl,hl,hb,rfl⟩;have e0:(2+(as.length:Int)+(0+(i:Int)))=((2+as.length+i:Nat):Int):=by omega
   refine⟨_,rfl,_,rfl,_,_,rfl,rfl,_,rfl,_,_,rfl,rfl,a,ns,2+as.length+i,by show[V.ref a,V.int (2+(as.length:Int)+(0+(i:Int)))]=_;rw[e0],u3.seq hS,_,rfl,_,_,rfl,sml (k:=8) (show(0+(i:Int)).natAbs<256 by omega) (by decide),λv bv=>?_⟩;exact⟨_,bs++[v],rfl,bJ _ _,by rw[wF,hl];rfl,hb.snoc bv,rfl⟩
  rintro ys σ' H' p1 ⟨z,bs,rfl,rfl,hlb,bb,rfl⟩ hp1;subst hlb;have s1:=Same.upd_new (o:=.lst (bs.map V.int)) hp1;have q1:upd H3 p1 (.lst (bs.map V.int)) p1=some (.lst (bs.map V.int)):=ai;generalize upd H3 p1 (.lst (bs.map V.int))=H4 at s1 q1 ⊢
  refine⟨by show 1<=sizeLine;decide,λp2 hp2=>?_⟩;have s2:=Same.upd_new (o:=.lst [V.int 1]) hp2;refine⟨p1,p2,_,_,rfl,rfl,s2 _ _ q1,ai,by rw[wE];show bs.length+1<=_;omega,λpq hpq=>?_⟩;have s3:=Same.upd_new (o:=.lst (bs.map V.int++[V.int 1])) hpq;have u6:=s1.trans (s2.trans s3);have eq6:upd (upd H4 p2 (.lst [V.int 1])) pq (.lst (bs.map V.int++[V.int 1])) pq=some (.lst ((bs++[1]).map V.int)):=by rw[ai,bJ]
  dsimp only
  generalize upd (upd H4 p2 (.lst [V.int 1])) pq (.lst (bs.map V.int++[V.int 1]))=H6 at u6 eq6 ⊢
  have ek6:=u6 _ _ ek;have t6:=u3.trans u6;clear s1 s2 s3 q1 hp1 hp2 hpq ek u3 u6;have J:K38 as bs sc:=⟨hm1,hn1,by omega,hn8,hmn12,by omega,ba,bb,sc0,sc3⟩;have bq:AllB 34 (bs++[1]):=cK bb;have bp:AllB 34 (as++[1]):=cK ba;have lq:=bT bs;have lp:=bT as;refine⟨_,rfl,pq,rfl,⟨_,SqL.of eq6⟩,dn (K:=K) (a:=pq) (xs:=(bs++[1]).map V.int) (λi ys σ' H'=>∃z:Option V,σ'=[z,some (.int sc)]/\ys=(((bs++[1]).take i).map (sc*·)).map V.int/\H6=H') (by rw[wE];omega) ⟨none,rfl,rfl,rfl⟩ ?_ ?_ ?_⟩
  ·rintro i ys σ' H' _ ⟨z,rfl,rfl,rfl⟩;exact⟨SqL.of eq6,by rw[wE,wE,wU];omega⟩
  ·rintro i v ys σ' H' hi ⟨z,rfl,rfl,rfl⟩;obtain⟨y,_,rfl,hy,et⟩:=eB hi;refine⟨_,rfl,_,rfl,_,_,rfl,rfl,⟨bsc.mono,(bq y hy).mono⟩,_,rfl,?_,rfl⟩;rw[et,wH,wH];rfl
  rintro ys σ' H' ph ⟨z,rfl,rfl,rfl⟩ hph;rw[wE,xw];have s7:=Same.upd_new (o:=.lst (((bs++[1]).map (sc*·)).map V.int)) hph;have eh:upd H6 ph (.lst (((bs++[1]).map (sc*·)).map V.int)) ph=some (.lst (((bs++[1]).map (sc*·)).map V.int)):=ai;generalize upd H6 ph (.lst (((bs++[1]).map (sc*·)).map V.int))=H7 at s7 eh ⊢
  have ek7:=s7 _ _ ek6;have eq7:=s7 _ _ eq6;have t7:=t6.trans s7;clear ek6 eq6 s7 t6 hph;refine k4 ?_;dsimp only
  refine aA ⟨_,rfl,_,rfl,_,_,rfl,rfl,⟨sml (k:=8) (show((as.length:Nat):Int).natAbs<256 by omega) (by decide),sml (k:=8) (show((bs.length:Nat):Int).natAbs<256 by omega) (by decide)⟩,?_⟩;have emn:((as.length:Nat):Int)*((bs.length:Nat):Int)=((as.length*bs.length:Nat):Int):=(xM _ _).symm;show bD _ _ _ [some (.ref a),some (.int c),some (.int (as.length:Nat)),some (.int (bs.length:Nat)),some (.int (e:Nat)),some (.int sc),some (.ref pk),some (.ref pq),some (.ref ph),some (.int (((as.length:Nat):Int)*((bs.length:Nat):Int))),none,none,none,none,none] H7;rw[emn];obtain⟨WS,WS',mS,plS,lS,trS,bS',bS,vS,nS⟩:=J.sums;obtain⟨WM,WM',mM,plM,lM,trM,bM',bM,vM,nM⟩:=J.prods;obtain⟨WP,mP,bP,vP,nP⟩:=J.pows e1 e8;have hl:((bs++[1]).map (sc*·)).length=bs.length+1:=by rw[wE,lq]
  have th:Tr ((bs++[1]).map (sc*·)):=fm sc0 (dy bs);have hbh:AllB 1000 ((bs++[1]).map (sc*·)):=J.hb.mono;have nh:(bs++[1]).map (sc*·)≠[]:=by simp
  have nk:as++[1]≠[]:=by simp
  have h20:((as++[1]).length-1)*(((bs++[1]).map (sc*·)).length-1)<=20:=by rw[lp,hl];show as.length*bs.length<=20;omega
  generalize hQ:(bs++[1]).map (sc*·)=HQ at eh lS lM vS vM hl th hbh nh h20
  refine aA ⟨_,rfl,_,rfl,pk,ph,as++[1],HQ,WS',rfl,ek7,eh,th,nk,nh,by omega,by omega,h20,bp.mono,hbh,lS,trS,bS',vS,λps H8 s8 hps es8=>?_⟩;rw[plS]at es8;have ek8:=s8 _ _ ek7;have eh8:=s8 _ _ eh;refine aA ⟨_,rfl,_,rfl,pk,ph,as++[1],HQ,WM',rfl,ek8,eh8,th,nk,nh,by omega,by omega,h20,bp.mono,hbh,lM,trM,bM',vM,λpm H9 s9 hpm em9=>?_⟩;rw[plM]at em9;have ek9:=s9 _ _ ek8;refine aA ⟨_,rfl,_,rfl,pk,as++[1],WP,e,rfl,ek9,nk,by omega,e1,e8,bp.mono,by rw[mP.len,lp],mP.tr,bP,vP,λpr H10 s10 hpr er=>?_⟩;rw[mP.pln.plain]at er;have ek10:=s10 _ _ ek9;have em10:=s10 _ _ em9;have es10:=(s9.trans s10) _ _ es8;have eh10:=(s9.trans s10) _ _ eh8;have u10:=s8.trans (s9.trans s10);have eq10:=u10 _ _ eq7;have t10:=t7.trans u10;clear ek7 ek8 ek9 em9 es8 eh8 eh s8 s9 s10 u10 eq7 t7 hps hpm hpr vS vM vP bS' bM' trS trM lS lM plS plM WS' WM';show bD _ _ _ [some (.ref a),some (.int c),some (.int (as.length:Nat)),some (.int (bs.length:Nat)),some (.int (e:Nat)),some (.int sc),some (.ref pk),some (.ref pq),some (.ref ph),some (.int ((as.length*bs.length:Nat):Int)),some (.ref ps),some (.ref pm),some (.ref pr),none,none] H10;refine cx (λσ' H'=>σ'=[some (.ref a),some (.int c),some (.int (as.length:Nat)),some (.int (bs.length:Nat)),some (.int (e:Nat)),some (.int sc),some (.ref pk),some (.ref pq),some (.ref ph),some (.int ((as.length*bs.length:Nat):Int)),some (.ref ps),some (.ref pm),some (.ref pr),none,none]/\H10=H') ?_ ?_
  case refine_2 =>intro rest;refine fG (dG ⟨_,rfl,_,rfl,ps,WS,_,rfl,es10,mS,_,rfl,cw (dG ⟨_,rfl,_,rfl,pm,WM,_,rfl,em10,mM,_,rfl,cw (rest _ _ ⟨rfl,rfl⟩)⟩)⟩)
  rintro σ' H' ⟨rfl,rfl⟩;refine cx (λσ' H'=>σ'=[some (.ref a),some (.int c),some (.int (as.length:Nat)),some (.int (bs.length:Nat)),some (.int (e:Nat)),some (.int sc),some (.ref pk),some (.ref pq),some (.ref ph),some (.int ((as.length*bs.length:Nat):Int)),some (.ref ps),some (.ref pm),some (.ref pr),none,none]/\Same H10 H') ?_ ?_
  case refine_2 =>
   intro rest;refine fG (dG ⟨_,rfl,_,rfl,pr,WP,_,rfl,er,mP,_,rfl,cw ?_⟩);refine⟨_,rfl,_,rfl,pq,rfl,⟨_,SqL.of eq10⟩,dn (K:=K) (a:=pq) (xs:=(bs++[1]).map V.int) (λi ys σ' H'=>∃z:Option V,σ'=[z,some (.int sc)]/\ys=(((bs++[1]).take i).map (sc*·)).map V.int/\H10=H') (by rw[wE];omega) ⟨none,rfl,rfl,rfl⟩ ?_ ?_ ?_⟩
   ·rintro i ys σ' H' _ ⟨z,rfl,rfl,rfl⟩;exact⟨SqL.of eq10,by rw[wE,wE,wU];omega⟩
   ·rintro i v ys σ' H' hi ⟨z,rfl,rfl,rfl⟩;obtain⟨y,_,rfl,hy,et⟩:=eB hi;refine⟨_,rfl,_,rfl,_,_,rfl,rfl,⟨bsc.mono,(bq y hy).mono⟩,_,rfl,?_,rfl⟩;rw[et,wH,wH];rfl
   rintro ys σ' H' pz ⟨z,rfl,rfl,rfl⟩ hpz;rw[wE,xw,hQ];have s1:=Same.upd_new (o:=.lst (HQ.map V.int)) hpz;refine⟨ph,pz,HQ,HQ,rfl,rfl,SqL.of (s1 _ _ eh10),SqL.of ai,?_⟩;rw[decide_eq_true rfl];exact⟨_,rfl,cw (rest _ _ ⟨rfl,s1⟩)⟩
  rintro σ' H11 ⟨rfl,s11⟩;have t11:=t10.trans s11
  have emax:(if((as.length:Nat):Int)*((e:Nat):Int)>((as.length*bs.length:Nat):Int)then((as.length:Nat):Int)*((e:Nat):Int)else((as.length*bs.length:Nat):Int))=((max (as.length*bs.length) (as.length*e):Nat):Int):=by have:((as.length:Nat):Int)*((e:Nat):Int)=((as.length*e:Nat):Int):=(xM _ _).symm;rw[this];split<;>omega
  have me:as.length*e<=32:=xL hm4 e8;refine aA ⟨_,rfl,_,rfl,_,rfl,_,rfl,_,_,rfl,rfl,⟨sml (k:=8) (show((as.length:Nat):Int).natAbs<256 by omega) (by decide),sml (k:=8) (show((e:Nat):Int).natAbs<256 by omega) (by decide)⟩,_,_,rfl,pk,as++[1],as.length,max (as.length*bs.length) (as.length*e),34,by rw[<- emax];rfl,s11 _ _ ek10,lp,by omega,by omega,by decide,bp,λpo H12 s12 hpo eo=>?_⟩;have u12:=s11.trans s12;refine aA ⟨_,rfl,_,rfl,pq,bs++[1],bs.length,as.length*bs.length,34,rfl,u12 _ _ eq10,lq,by omega,by omega,by decide,bq,λpt H13 s13 hpt et=>?_⟩;have u13:=u12.trans s13;have eo13:=s13 _ _ eo;have bo:AllB 400000 (nL (cf (as++[1])) as.length (max (as.length*bs.length) (as.length*e))):=lN bp.cf (by decide) (by omega) (by omega);have bt:AllB 400000 (nL (cf (bs++[1])) bs.length (as.length*bs.length)):=lN bq.cf (by decide) (by omega) (by omega);have lo:=aX (cf (as++[1])) as.length (max (as.length*bs.length) (as.length*e));have lt:=aX (cf (bs++[1])) bs.length (as.length*bs.length);have co:∀i,i<=max (as.length*bs.length) (as.length*e)->cf (nL (cf (as++[1])) as.length (max (as.length*bs.length) (as.length*e))) i=sN (cf (as++[1])) as.length i:=λi hi=>hZ _ _ hi
  have ct:∀i,i<=as.length*bs.length->cf (nL (cf (bs++[1])) bs.length (as.length*bs.length)) i=sN (cf (bs++[1])) bs.length i:=λi hi=>hZ _ _ hi
  generalize nL (cf (as++[1])) as.length (max (as.length*bs.length) (as.length*e))=LO at eo13 bo lo co
  generalize nL (cf (bs++[1])) bs.length (as.length*bs.length)=LT at et bt lt ct
  clear eo eh10 eq10 ek10 t10 s11 u12;show bD _ _ _ [some (.ref a),some (.int c),some (.int (as.length:Nat)),some (.int (bs.length:Nat)),some (.int (e:Nat)),some (.int sc),some (.ref pk),some (.ref pq),some (.ref ph),some (.int ((as.length*bs.length:Nat):Int)),some (.ref ps),some (.ref pm),some (.ref pr),some (.ref po),some (.ref pt)] H13;refine cx (λσ' H'=>σ'=[some (.ref a),some (.int c),some (.int (as.length:Nat)),some (.int (bs.length:Nat)),some (.int (e:Nat)),some (.int sc),some (.ref pk),some (.ref pq),some (.ref ph),some (.int ((as.length*bs.length:Nat):Int)),some (.ref ps),some (.ref pm),some (.ref pr),some (.ref po),some (.ref pt)]/\Same H13 H') ?_ ?_
  case refine_2 =>
   intro rest;refine⟨_,rfl,_,rfl,ps,WS,as.length*bs.length,as.length*bs.length,9000,rfl,u13 _ _ es10,mS.len,by omega,by omega,by decide,bS,λq1 G1 g1 hq1 eq1=>?_⟩;refine⟨_,rfl,_,rfl,_,rfl,po,pt,LO,LT,as.length*bs.length,rfl,g1 _ _ eo13,g1 _ _ et,by omega,by omega,by omega,bo,bt,λq2 G2 g2 hq2 eq2=>?_⟩
   have e12:nL (cf WS) (as.length*bs.length) (as.length*bs.length)=(List.range (as.length*bs.length+1)).map (ofS LO LT):=by
    rw[iS];refine wR λk hk=>?_
    have hk':=xa.mp hk;rw[nS];unfold ofS;refine bH _ λi hi=>?_
    rw[co i (by omega),ct (k-i) (by omega),Int.mul_assoc]
   rw[<- e12]at eq2;refine⟨q1,q2,_,_,rfl,rfl,SqL.of (g2 _ _ eq1),SqL.of eq2,?_⟩;rw[decide_eq_true rfl];exact⟨_,rfl,cw (rest _ _ ⟨rfl,g1.trans g2⟩)⟩
  rintro σ' H14 ⟨rfl,s14⟩;have eo14:=s14 _ _ eo13;have et14:=s14 _ _ et;refine cx (λσ' H'=>σ'=[some (.ref a),some (.int c),some (.int (as.length:Nat)),some (.int (bs.length:Nat)),some (.int (e:Nat)),some (.int sc),some (.ref pk),some (.ref pq),some (.ref ph),some (.int ((as.length*bs.length:Nat):Int)),some (.ref ps),some (.ref pm),some (.ref pr),some (.ref po),some (.ref pt)]/\Same H14 H') ?_ ?_
  case refine_2 =>
   intro rest;refine⟨_,rfl,_,rfl,pm,WM,as.length*bs.length,as.length*bs.length,9000,rfl,s14 _ _ (u13 _ _ em10),mM.len,by omega,by omega,by decide,bM,λq1 G1 g1 hq1 eq1=>?_⟩;have eoG:=g1 _ _ eo14;have etG:=g1 _ _ et14;refine⟨_,rfl,_,_,rfl,rfl,((as.length*bs.length:Nat):Int)+1,rfl,by omega,by omega,?_⟩;rw[show(((as.length*bs.length:Nat):Int)+1).toNat=as.length*bs.length+1 by omega];refine bL (lo:=0) (n:=as.length*bs.length+1) (λi zs σ' H'=>∃z:Option V,σ'=[z,some (.ref po),some (.ref pt)]/\zs=((List.range i).map λi=>cf LO i*cf LT i).map V.int/\G1=H') (by omega) ⟨none,rfl,rfl,rfl⟩ ?_ ?_ ?_
   ·rintro i zs σ' H' _ ⟨z,rfl,rfl,rfl⟩;simp
   ·rintro i zs σ' H' hi ⟨z,rfl,rfl,rfl⟩;refine⟨_,rfl,_,rfl,po,_,_,_,rfl,rfl,SqL.of eoG,aR (j:=i) (by omega) (by omega),_,rfl,_,rfl,pt,_,_,_,rfl,rfl,SqL.of etG,aR (j:=i) (by omega) (by omega),_,_,rfl,rfl,⟨(bo.cf i).mono,(bt.cf i).mono⟩,_,rfl,?_,rfl⟩;rw[xj,wH,wH];rfl
   rintro zs σ' H' q2 ⟨z,rfl,rfl,rfl⟩ hq2
   have e12:nL (cf WM) (as.length*bs.length) (as.length*bs.length)=(List.range (as.length*bs.length+1)).map λi=>cf LO i*cf LT i:=by
    rw[iS];refine wR λk hk=>?_
    have hk':=xa.mp hk;rw[nM,co k (by omega),ct k (by omega)]
   rw[<- e12];have g2:=Same.upd_new (o:=.lst ((nL (cf WM) (as.length*bs.length) (as.length*bs.length)).map V.int)) hq2;refine⟨q1,q2,_,_,rfl,rfl,SqL.of (g2 _ _ eq1),SqL.of ai,?_⟩;rw[decide_eq_true rfl];exact⟨_,rfl,cw (rest _ _ ⟨rfl,g1.trans g2⟩)⟩
  rintro σ' H15 ⟨rfl,s15⟩;refine bA ⟨_,rfl,_,rfl,pr,WP,as.length,as.length,9000,rfl,s15 _ _ (s14 _ _ (u13 _ _ er)),mP.len,by omega,by omega,by decide,bP,λq1 G1 g1 hq1 eq1=>?_⟩;have eoG:=g1 _ _ (s15 _ _ eo14);refine⟨_,rfl,_,_,rfl,rfl,((as.length:Nat):Int)+1,rfl,by omega,by omega,?_⟩;rw[show(((as.length:Nat):Int)+1).toNat=as.length+1 by omega];refine bL (lo:=0) (n:=as.length+1) (λi zs σ' H'=>∃z:Option V,σ'=[z,some (.ref po),some (.int (e:Nat))]/\zs=((List.range i).map λi=>cf LO (i*e)).map V.int/\G1=H') (by omega) ⟨none,rfl,rfl,rfl⟩ ?_ ?_ ?_
  ·rintro i zs σ' H' _ ⟨z,rfl,rfl,rfl⟩;simp
  ·rintro i zs σ' H' hi ⟨z,rfl,rfl,rfl⟩;have hie:i*e<=as.length*e:=Nat.mul_le_mul_right _ (by omega);refine⟨_,rfl,_,rfl,_,rfl,_,_,rfl,rfl,⟨sml (k:=8) (show(0+(i:Int)).natAbs<256 by omega) (by decide),sml (k:=8) (show((e:Nat):Int).natAbs<256 by omega) (by decide)⟩,po,_,_,_,rfl,rfl,SqL.of eoG,aR (j:=i*e) (by rw[xM,xt]) (by omega),_,rfl,?_,rfl⟩;rw[xj,wH,wH];rfl
  rintro zs σ' H' q2 ⟨z,rfl,rfl,rfl⟩ hq2
  have e12:nL (cf WP) as.length as.length=(List.range (as.length+1)).map λi=>cf LO (i*e):=by
   rw[iS];refine wR λk hk=>?_
   have hk':=xa.mp hk;have hke:k*e<=as.length*e:=Nat.mul_le_mul_right _ (by omega);rw[nP,co (k*e) (by omega)]
  rw[<- e12];have g2:=Same.upd_new (o:=.lst ((nL (cf WP) as.length as.length).map V.int)) hq2;refine⟨q1,q2,_,_,rfl,rfl,SqL.of (g2 _ _ eq1),SqL.of ai,?_⟩;rw[decide_eq_true rfl];exact fin _
end
def FnL(K:PySem.W.Frag)(n:Str)(st:Stmt):Prop:=∃f fd,PySem.W.nsIn K mainGlobals n=some (some (.ref f))/\Fun K n n st f fd
def MtL(K:PySem.W.Frag)(C:Addr)(n q:Str)(st:Stmt):Prop:=∃f fd,PySem.W.findIn K (.ref C) n=some (some (.ref f))/\PySem.W.isFn K (.ref f)=true/\Fun K n q st f fd
section
variable {P:Program}{w:World}{K:PySem.W.Frag}{mg:Str->Option Value}{h base:Heap}{n q:Str}{st:Stmt}{f C:Addr}{oc kV dc pm cd ct:Value}{od an:Option Addr}{sl:Array (Option Value)}{fd:FuncData}{k:Nat}{ps:List Str}{sp:Sp}
theorem fnL(a:PySem.W.nsIn K mainGlobals n=some (some (.ref f)))(l:K.lookup f=some ⟨oc,od,.func (PySem.W.fnOf n n (cX st) (cN st) (ax st) .none kV dc pm an cd ct),sl⟩)(c:PySem.W.codeIn K cd n=true)(k:PySem.W.keepIn K (.ref f)=true):FnL K n st:=⟨_,_,a,mU l c k⟩
theorem mtL(a:PySem.W.findIn K (.ref C) n=some (some (.ref f)))(i:PySem.W.isFn K (.ref f)=true)(l:K.lookup f=some ⟨oc,od,.func (PySem.W.fnOf n q (cX st) (cN st) (ax st) .none kV dc pm an cd ct),sl⟩)(c:PySem.W.codeIn K cd q=true)(k:PySem.W.keepIn K (.ref f)=true):MtL K C n q st:=⟨_,_,a,i,mU l c k⟩
def Bx(P:Program)(w:World)(base:Heap):Prop:=P=P/\w=w/\base=base
def BdR(n q:Str)(st:Stmt)(ps:List Str):Prop:=∀(kV doc pm:Value) (an:Option Addr) (cdv ct:Value) (us:List Value),us.length=ps.length->bindArgs (PySem.W.fnOf n q (cX st) (cN st) (ax st) .none kV doc pm an cdv ct) ⟨us,[]⟩=pure (ps.zip us)
theorem cal(_:Bx P w base)(X:K.In h)(G:h.Ns mainGlobals mg)(a:PySem.W.nsIn K mainGlobals n=some (some (.ref f)))(F:Fun K n n st f fd)(o:FnOk P w K mg base CX0 k f fd ps sp)(b:BdR n n st ps):Cal P w K mg base k n ps sp f fd:=⟨o,PySem.W.mg_of X G a,F.kp,F.binds b⟩
theorem us1{A:List Value->Prop}(h:∀a,A [a]):∀us:List Value,us.length=1->A us
 | [a],_=>h a
theorem us2{A:List Value->Prop}(h:∀a b,A [a,b]):∀us:List Value,us.length=2->A us
 | [a,b],_=>h a b
theorem us3{A:List Value->Prop}(h:∀a b c,A [a,b,c]):∀us:List Value,us.length=3->A us
 | [a,b,c],_=>h a b c
end
theorem all_mk{l:PySem.W.OpenLaw}{w:World}{K:PySem.W.Frag}{h:Heap}{mg:Str->Option Value}{fa  : Addr}(X:K.In h)(G:h.Ns mainGlobals mg)(hfa:mg "law"=some (.ref fa))
 (z0:PySem.W.nsIn K mainGlobals "list"=some none)
 (z1:PySem.W.nsIn K mainGlobals "len"=some none)
 (z2:PySem.W.nsIn K mainGlobals "range"=some none)
 (z3:PySem.W.nsIn K mainGlobals "abs"=some none)
 (z4:PySem.W.nsIn K mainGlobals "max"=some none)
 (z5:PySem.W.nsIn K mainGlobals "enumerate"=some none)
 (z6:PySem.W.nsIn K mainGlobals "reversed"=some none)
 (z7:PySem.W.nsIn K mainGlobals "isinstance"=some none)
 (z8:PySem.W.nsIn K mainGlobals "bool"=some none)
 (z9:PySem.W.nsIn K mainGlobals "int"=some none)
 (z10:PySem.W.nsIn K mainGlobals "min"=some none)
 (z11:PySem.W.nsIn K mainGlobals "sum"=some none)
 (l1:FnL K "first_not_nought" gW)
 (l2:FnL K "cleared" fD)
 (l3:FnL K "determinant" gX)
 (l4:FnL K "shared_by_two" gJ)
 (l5:FnL K "shared" gK)
 (l6:FnL K "shrunk" gI)
 (l7:FnL K "plain" gQ)
 (l8:FnL K "poly" gO)
 (l9:FnL K "degree" gY)
 (l10:FnL K "coefficient" gZ)
 (l11:FnL K "added" g6)
 (l12:FnL K "multiplied" gT)
 (l13:FnL K "slid" gH)
 (l14:FnL K "table" gF)
 (l15:FnL K "opposed" gR)
 (l16:FnL K "weighted" gD)
 (l17:FnL K "through" gE)
 (l18:FnL K "sums" gG)
 (l19:FnL K "products" gL)
 (l20:FnL K "powers" gN)
 (l21:FnL K "_law_cell_at" hU)
 (l22:FnL K "_law_number" g9)
 (l23:FnL K "_law_ends_with_one" hJ)
 (l24:FnL K "_law_sums_of_powers" g7)
 (l25:FnL K "_law_next_row" hE)
 (l26:FnL K "_law_of_sums" g8)
 (l27:FnL K "law" gU)
 (hTr:l.prog.given.tree=none)
 : ∃fd:FuncData,(∀(s:Shared) (v:Value),BindsTo s fd ⟨[v],[]⟩ [("_law_script",v)])/\∀base:Heap,K.In base->base.Ns mainGlobals mg->base.NoSeer->FnOk l.prog w K mg base CX0 36 fa fd ["_law_script"] (fA K):=by
 obtain⟨_,_,a1,F1⟩:=l1;obtain⟨_,_,a2,F2⟩:=l2;obtain⟨_,_,a3,F3⟩:=l3;obtain⟨_,_,a4,F4⟩:=l4;obtain⟨_,_,a5,F5⟩:=l5;obtain⟨_,_,a6,F6⟩:=l6;obtain⟨_,_,a7,F7⟩:=l7;obtain⟨_,_,a8,F8⟩:=l8;obtain⟨_,_,a9,F9⟩:=l9;obtain⟨_,_,a10,F10⟩:=l10;obtain⟨_,_,a11,F11⟩:=l11;obtain⟨_,_,a12,F12⟩:=l12;obtain⟨_,_,a13,F13⟩:=l13;obtain⟨_,_,a14,F14⟩:=l14;obtain⟨_,_,a15,F15⟩:=l15;obtain⟨_,_,a16,F16⟩:=l16;obtain⟨_,_,a17,F17⟩:=l17;obtain⟨_,_,a18,F18⟩:=l18;obtain⟨_,_,a19,F19⟩:=l19;obtain⟨_,_,a20,F20⟩:=l20;obtain⟨_,_,a21,F21⟩:=l21;obtain⟨_,_,a22,F22⟩:=l22;obtain⟨_,_,a23,F23⟩:=l23;obtain⟨_,_,a24,F24⟩:=l24;obtain⟨_,_,a25,F25⟩:=l25;obtain⟨_,_,a26,F26⟩:=l26;obtain⟨_,fdL,a27,F27⟩:=l27;cases hfa.symm.trans (PySem.W.mg_of X G a27);have T:Txt K mg:=⟨PySem.W.mg_none_of X G z0,PySem.W.mg_none_of X G z1,PySem.W.mg_none_of X G z2,PySem.W.mg_none_of X G z3,PySem.W.mg_none_of X G z4,PySem.W.mg_none_of X G z5,PySem.W.mg_none_of X G z6,PySem.W.mg_none_of X G z7,PySem.W.mg_none_of X G z8,PySem.W.mg_none_of X G z9,PySem.W.mg_none_of X G z10,PySem.W.mg_none_of X G z11⟩;obtain⟨_,_,_,_,_,_,_,_,_,e,_,_⟩:=F27.ex;refine⟨fdL,λs v=>.of_eq (by rw[e];rfl),λbase KB GB hNS=>?_⟩;have Z:Bx l.prog w base:=⟨rfl,rfl,rfl⟩;have C1:=cal Z X G a1 F1 (rA F1 T) λ_ _ _ _ _ _=>us1 λ_=>rfl
 have C2:=cal Z X G a2 F2 (rE F2 T hNS hTr) λ_ _ _ _ _ _=>us3 λ_ _ _=>rfl
 have C3:=cal Z X G a3 F3 (rB F3 T C1 C2) λ_ _ _ _ _ _=>us1 λ_=>rfl
 have C4:=cal Z X G a4 F4 (rf F4 T) λ_ _ _ _ _ _=>us2 λ_ _=>rfl
 have C5:=cal Z X G a5 F5 (rg F5 T C4) λ_ _ _ _ _ _=>us1 λ_=>rfl
 have C6:=cal Z X G a6 F6 (re F6 T C5) λ_ _ _ _ _ _=>us1 λ_=>rfl
 have C7:=cal Z X G a7 F7 (rm F7 T C6) λ_ _ _ _ _ _=>us1 λ_=>rfl
 have C8:=cal Z X G a8 F8 (rk F8 T) λ_ _ _ _ _ _=>us1 λ_=>rfl
 have C9:=cal Z X G a9 F9 (rC F9 T) λ_ _ _ _ _ _=>us1 λ_=>rfl
 have C10:=cal Z X G a10 F10 (rD F10 T) λ_ _ _ _ _ _=>us2 λ_ _=>rfl
 have C11:=cal Z X G a11 F11 (rF F11 T C8 C10) λ_ _ _ _ _ _=>us2 λ_ _=>rfl
 have C12:=cal Z X G a12 F12 (rq F12 T) λ_ _ _ _ _ _=>us2 λ_ _=>rfl
 have C13:=cal Z X G a13 F13 (rd F13 T) λ_ _ _ _ _ _=>us2 λ_ _=>rfl
 have C14:=cal Z X G a14 F14 (ra F14 T C13 C9) λ_ _ _ _ _ _=>us2 λ_ _=>rfl
 have C15:=cal Z X G a15 F15 (rp F15 T C11 C12 C8) λ_ _ _ _ _ _=>us2 λ_ _=>rfl
 have C16:=cal Z X G a16 F16 (q8 F16 T) λ_ _ _ _ _ _=>us2 λ_ _=>rfl
 have C17:=cal Z X G a17 F17 (q9 F17 T C11 C12 C8) λ_ _ _ _ _ _=>us1 λ_=>rfl
 have C18:=cal Z X G a18 F18 (rb F18 T C9 C7 C17 C3 C14 C15) λ_ _ _ _ _ _=>us2 λ_ _=>rfl
 have C19:=cal Z X G a19 F19 (rh F19 T C9 C7 C17 C3 C14 C16) λ_ _ _ _ _ _=>us2 λ_ _=>rfl
 have C20:=cal Z X G a20 F20 (rj F20 T C9 C7 C17 C3 C14) λ_ _ _ _ _ _=>us2 λ_ _=>rfl
 have C21:=cal Z X G a21 F21 (rM F21 T) λ_ _ _ _ _ _=>us2 λ_ _=>rfl
 have C22:=cal Z X G a22 F22 (rJ F22 T) λ_ _ _ _ _ _=>us2 λ_ _=>rfl
 have C23:=cal Z X G a23 F23 (rL F23 T) λ_ _ _ _ _ _=>us2 λ_ _=>rfl
 have C24:=cal Z X G a24 F24 (rG F24 T) λ_ _ _ _ _ _=>us2 λ_ _=>rfl
 have C25:=cal Z X G a25 F25 (rK F25 T) λ_ _ _ _ _ _=>us1 λ_=>rfl
 have C26:=cal Z X G a26 F26 (rH F26 T C25) λ_ _ _ _ _ _=>us3 λ_ _ _=>rfl
 exact rz F27 T C21 C22 C23 C24 C26 C18 C19 C20
theorem walk{l:PySem.W.OpenLaw}{q:Program}{loose:List Str}{XP:(Str->Option Value)->Heap->Prop}{YP:World->Heap->Prop}{d:DefRec}{K:Params->PySem.W.Frag}(hi:PyProof.Rows.importsNone q=true)(hn:l.most=some 63)(hdf:d.params.defaults=[])
 (hY:∀(w:World) (h:Heap),YP w h->(K w.params).In h)
 (F:∀(w:World) (mg:Str->Option Value) (fa:Addr) (h:Heap),(K w.params).In h->h.Ns mainGlobals mg->mg d.name=some (.ref fa) ->
   ∃fd:FuncData,(∀(s:Shared) (u:Value),BindsTo s fd ⟨[u],[]⟩ [("_law_script",u)])/\∀base:Heap,(K w.params).In base->base.Ns mainGlobals mg->base.NoSeer->FnOk l.prog w (K w.params) mg base CX0 36 fa fd ["_law_script"] (fA (K w.params))) :
 PySem.W.WalkO q loose XP YP l.row.toRowW d [] (λf vs=>PySem.call f vs) :=
 L2.walk_ofS (n:=63) (k:=36) (x:="_law_script") (CX:=λ_=>CX0) (sp:=λw=>fA (K w.params)) hi hn (by decide) hdf ⟨rfl,by decide,by decide⟩ hY F (λ_ _ a ns hl _ hS=>⟨a,ns,rfl,hS,hl,λ_=>rfl⟩) λ_ _ _ _ _ z=>z
section
end
end R38
open PySem PySem.W PyProof.Rows
set_option maxRecDepth 100000 in
set_option maxHeartbeats 0 in
theorem PySem.Challenge.cw_rootspan_k38_whole_power_sums_holds : PySem.Challenge.rw_rootspan_k38_whole_power_sums.Holds := by
 w_on;o_law;k_head;(case hw=>w_witness2)
 k_fill
 refine R38.walk (l:=PySem.Challenge.rw_rootspan_k38_whole_power_sums) (by decide +kernel) rfl rfl (λw h Y=>PySem.W.kIn_of Y) ?F
 case F =>
  intro w mg fa h KX G hmg
  refine' R38.all_mk KX G hmg  ?_ ?_ ?_ ?_ ?_ ?_ ?_ ?_ ?_ ?_ ?_ ?_ ?_ ?_ ?_ ?_ ?_ ?_ ?_ ?_ ?_ ?_ ?_ ?_ ?_ ?_ ?_ ?_ ?_ ?_ ?_ ?_ ?_ ?_ ?_ ?_ ?_ ?_ ?_ rfl
  all_goals first | (apply R38.fnL<;>k_is) | (apply R38.mtL<;>k_is) |k_is
