import PyProof.Rows.All
import Wide.All
import OpenK.AllK
import Wide.FinOn
import Lean
import PyProof.EqAt
import PyProof.EqKinds
import PyProof.TupleCall
import PySem.Challenge.RW_rootspan_k83_looker_refuses
set_option Elab.async false
set_option linter.all false
set_option maxRecDepth 100000
local macro_rules | `(tactic|omega)=>`(tactic|first |lia |omega (splitDisjunctions:=true))
noncomputable section
namespace Al
def Fk:=@List.length_map
def Fl:=@Nat.le_refl
def Fm:=@List.length_pos_iff
def Fn:=@Nat.zero_le
def Fo:=@List.mem_map
def Fp:=@List.length_append
def Fq:=@Int.le_of_lt
def Fs:=@List.mem_cons_of_mem
def Ft:=@List.mem_cons
def Fu:=@List.mem_singleton
def Fv:=@Rat.le_of_lt
def Fw:=@List.size_toArray
def Fx:=@List.mem_cons_self
def Fy:=@Int.mul_zero
def Fz:=@Int.mul_pos
def FA:=@Nat.le_trans
def FB:=@Int.mul_ne_zero
def FC:=@Rat.mul_nonneg
def FD:=@List.map_append
def FE:=@List.length_take
def FF:=@Nat.lt_of_lt_of_le
def FG:=@Nat.ne_of_lt
def FH:=@Int.mul_eq_zero
def FI:=@List.length_cons
def FJ:=@Int.one_mul
def FK:=@Rat.intCast_mul
def FM:=@Rat.div_mul_cancel
def FN:=@Rat.intCast_lt_intCast
def FO:=@List.mem_append_right
def FP:=@Int.natAbs_mul
def FQ:=@Int.natAbs_natCast
def FR:=@Rat.mul_le_mul_of_nonneg_right
def FS:=@List.take_length
def FT:=@Int.mul_one
def FU:=@Rat.mul_pos
def FV:=@Int.zero_mul
def FW:=@List.length_range
def FX:=@Int.mul_comm
def FY:=@List.mem_append
def FZ:=@List.map_cons
def Ga:=@List.length_set
def Gb:=@List.getElem_mem
def Gc:=@List.length_eq_zero_iff
def Gd:=@Nat.le_of_not_lt
def Ge:=@List.take_add_one
def Gf:=@Int.add_zero
def Gg:=@Int.pow_succ
def Gh:=@Int.mul_le_mul_of_nonneg_right
def Gi:=@Rat.le_total
def Gj:=@Rat.not_lt
def Gk:=@Int.mul_nonneg
def Gm:=@Nat.lt_irrefl
def Gn:=@Int.mul_assoc
def Go:=@List.map_map
def Gp:=@Nat.mul_le_mul_right
def Gq:=@Rat.intCast_add
def Gr:=@List.length_replicate
def Gs:=@Int.le_refl
def Gu:=@List.getElem_of_mem
def Gv:=@Int.zero_add
def Gw:=@Int.natAbs_pos
def Gx:=@Nat.dvd_refl
def Gy:=@Int.mul_lt_mul_of_pos_right
def Gz:=@Int.zero_sub
def GA:=@Bool.false_ne_true
def GC:=@Nat.lt_succ_self
def GD:=@List.replicate_succ
def GE:=@List.lookup_cons
def GF:=@List.map_congr_left
def GG:=@Int.lt_or_gt_of_ne
def GH:=@Rat.not_le
def GI:=@Nat.le_of_lt
def GJ:=@List.mem_append_left
def GK:=@Nat.le_of_eq
def GL:=@List.nodup_cons
def GM:=@List.all_eq_true
def GN:=@Nat.gcd_dvd_left
def GO:=@Nat.sub_zero
def GP:=@Int.ofNat_dvd_left
def GQ:=@Int.mul_le_mul
def GR:=@Nat.le_zero
def GS:=@Rat.mul_le_mul_of_nonneg_left
def GT:=@List.take_zero
def GU:=@List.map_nil
def GV:=@List.length_drop
def GW:=@Int.ne_of_gt
def GX:=@Nat.gcd_dvd_right
def GY:=@Nat.dvd_trans
def GZ:=@Int.natCast_nonneg
def G1:=@Int.lt_of_mul_lt_mul_right
def G3:=@Int.eq_of_mul_eq_mul_left
def G4:=@Int.lt_or_le
def G5:=@Int.natAbs_sub_le
def G6:=@Nat.mul_le_mul_left
def G7:=@List.not_mem_nil
def G8:=@Nat.min_le_left
def G9:=@List.mem_range
def Ha:=@List.flatten_cons
def Hj:=@Bool.eq_iff_iff
def Hk:=@Int.natCast_mul
def Hl:=@Nat.mul_le_mul
def Hm:=@List.pairwise_map
def Hn:=@List.eq_nil_of_length_eq_zero
def Ho:=@Rat.intCast_inj
def Hq:=@Rat.mul_lt_mul_of_pos_right
def Hr:=@Rat.intCast_sub
def Hs:=@List.mem_or_eq_of_mem_set
def Ht:=@Int.toNat_of_nonneg
def Hu:=@Nat.pow_le_pow_right
def Hv:=@Nat.lt_of_le_of_lt
def Hw:=@Nat.le_mul_of_pos_left
def Hx:=@Int.mul_ediv_cancel'
def Hy:=@List.pairwise_cons
def Hz:=@Int.emod_lt_of_pos
def HC:=@List.mem_of_mem_take
def HD:=@Int.mul_nonneg_of_nonpos_of_nonpos
def HE:=@Int.mul_neg_of_neg_of_pos
def HF:=@Int.mul_neg_of_pos_of_neg
def HG:=@Int.mul_le_mul_of_nonneg_left
def HH:=@List.getElem_append_right
end Al
open Al
namespace PySem.W.Fast
def tw760883465867004847:=()
def tw17783729775672122456:=()
def tw17815774677344149101:=()
def tw14734588456828530698:=()
def tw8884432036572169469:=()
def tw17400337652841299256:=()
def tw967801135035460773:=()
def tw8917303931150369199:=()
def tw14423220142904993442:=()
def tw10423186128201462967:=()
def tw11020556625191191376:=()
def tw2082426353155118143:=()
def tw16813041792707820327:=()
def tw13790814562126088090:=()
def tw10800633631565707136:=()
def tw14099402848635560680:=()
def tw7712194169834036238:=()
def tw16472501330175654719:=()
def tw10654926091072846581:=()
def tw5983600815151505587:=()
def tw14482450124465704743:=()
def tw3490744649509782669:=()
def tw6633690709547841124:=()
def tw9650239054479679850:=()
def tw14240497604762857444:=()
def tw10582884824088333429:=()
def tw12769518257571180033:=()
def tw16659261805293525984:=()
def tw16544674904511853476:=()
def tw5441500257843455800:=()
def tw11126913617024860174:=()
def tw12672236483574344795:=()
def tw17318310260382759310:=()
def tw14099017544620757404:=()
def tw2888341244176623478:=()
def tw7395703564296013385:=()
def tw11200019394499380242:=()
def tw3948629941018799542:=()
def tw15882717108289419433:=()
end PySem.W.Fast
namespace L2
open PySem PySem.Spec PyProof.Rows
abbrev Key:=Sum Int Str
noncomputable def rp:Key->Value->Bool
 |.inl k,v=>Value.isInt k v
 |.inr x,v=>Value.isStrOf x v
noncomputable def zO(w:World):Key->Int
 |.inl k=>hashInt k
 |.inr x=>hashStr w x
theorem dI:∀{k:Key} {v:Value},rp k v=true->(∃i t,k=Sum.inl i/\v=Value.int i t)\/(∃x t,k=Sum.inr x/\v=Value.str x t)
 |.inl i,v,h=>by obtain⟨t,e⟩:=Value.isInt_shape (k:=i) (v:=v) h;exact .inl ⟨i,t,rfl,e⟩
 |.inr x,v,h=>by obtain⟨t,e⟩:=Value.isStrOf_shape (x:=x) (v:=v) h;exact .inr ⟨x,t,rfl,e⟩
theorem zN(a b:Int):decide ((Sum.inl a:Key)=Sum.inl b)=(a == b):=by
 by_cases e:a=b
 ·subst e;simp
 ·have h:¬(Sum.inl a:Key)=Sum.inl b:=λq=>e (Sum.inl.inj q)
  rw[decide_eq_false h];exact(beq_eq_false_iff_ne.mpr e).symm
theorem zK(a b:Str):decide ((Sum.inr a:Key)=Sum.inr b)=decide (a=b):=by
 by_cases e:a=b
 ·subst e;simp
 ·have h:¬(Sum.inr a:Key)=Sum.inr b:=λq=>e (Sum.inr.inj q)
  rw[decide_eq_false h,decide_eq_false e]
theorem zM(a:Int)(b:Str):decide ((Sum.inl a:Key)=Sum.inr b)=false:=decide_eq_false (λq=>nomatch q)
theorem zL(a:Str)(b:Int):decide ((Sum.inr a:Key)=Sum.inl b)=false:=decide_eq_false (λq=>nomatch q)
noncomputable def qT(prog:Program)(w:World):PySem.KeyKind prog w Key where
 is:=rp
 hash:=zO w
 inj:=λv a b ha hb=>by
  rcases dI ha with⟨i,t,rfl,rfl⟩ |⟨x,t,rfl,rfl⟩
  ·rcases dI hb with⟨j,u,rfl,e⟩ |⟨y,u,rfl,e⟩
   ·injection e with e1 _;rw[e1]
   ·exact nomatch e
  ·rcases dI hb with⟨j,u,rfl,e⟩ |⟨y,u,rfl,e⟩
   ·exact nomatch e
   ·injection e with e1 _;rw[e1]
 byValue:=λk v h=>by rcases dI h with⟨i,t,rfl,rfl⟩ |⟨x,t,rfl,rfl⟩<;>rfl
 pyHash:=λhv h=>by
  rcases dI hv with⟨i,t,rfl,rfl⟩ |⟨x,t,rfl,rfl⟩
  ·exact wpAny_pyHash_int h
  ·exact wpAny_pyHash_str h
 eqBool:=λhu hv h=>by
  rcases dI hu with⟨i,t,rfl,rfl⟩ |⟨x,t,rfl,rfl⟩
  ·rcases dI hv with⟨j,u,rfl,rfl⟩ |⟨y,u,rfl,rfl⟩
   ·rw[zN]at h;exact wpAny_eqBool_int h
   ·rw[zM]at h;exact SeqAt.EqAt.int_str i t y u _ _ _ _ h
  ·rcases dI hv with⟨j,u,rfl,rfl⟩ |⟨y,u,rfl,rfl⟩
   ·rw[zL]at h;exact SeqAt.EqAt.str_int x t j u _ _ _ _ h
   ·rw[zK]at h;exact wpAny_eqBool_str h
 «strs»:=λk x t v h=>by
  rcases dI h with⟨i,u,rfl,e⟩ |⟨y,u,rfl,e⟩
  ·exact nomatch e
  ·injection e with e1 _
   subst e1;cases v<;>rfl
inductive V where
 |non |bl (b:Bool) |int (i:Int) |str (x:Str) |byt (b:Array UInt8) |flt (b:UInt64) |ref (a:Addr) |ty (n:String)
 deriving DecidableEq
noncomputable def RelV:V->Value->Prop
 |.non,u=>u=Value.none
 |.bl b,u=>u=Value.bool b
 |.int i,u=>∃t,u=Value.int i t
 |.str x,u=>∃t,u=Value.str x t
 |.byt b,u=>∃t,u=Value.bytes b t
 |.flt b,u=>∃t,u=Value.float b t
 |.ref a,u=>u=Value.ref a
 |.ty n,u=>u=Value.type n
abbrev Vals:List V->List Value->Prop:=Paired RelV
theorem Vals.length{xs:List V}{us:List Value}(r:Vals xs us):xs.length=us.length:=Paired.length r
theorem Vals.get:∀{xs:List V} {us:List Value} {i:Nat} {x:V},Vals xs us->xs[i]?=some x->∃u,us[i]?=some u/\RelV x u
 |_,_,_,_,.nil,e=>by simp at e
 |_,_,0,_,.cons r _,e=>by simp at e;subst e;exact⟨_,rfl,r⟩
 |_,_,i+1,x,.cons _ t,e=>by obtain⟨u,h1,h2⟩:=Vals.get (i:=i) (x:=x) t (by simpa using e);exact⟨u,by simpa using h1,h2⟩
theorem Vals.set{x:V}{u:Value}(r:RelV x u):∀{xs:List V} {us:List Value} (i:Nat),Vals xs us->Vals (xs.set i x) (us.set i u)
 |_,_,_,.nil=>.nil
 |_,_,0,.cons _ t=>.cons r t
 |_,_,i+1,.cons q t=>.cons q (Vals.set r i t)
theorem Vals.append:∀{xs ys:List V} {us ws:List Value},Vals xs us->Vals ys ws->Vals (xs++ys) (us++ws)
 |_,_,_,_,.nil,s=>s
 |_,_,_,_,.cons r t,s=>.cons r (Vals.append t s)
theorem Vals.take:∀{xs:List V} {us:List Value} (n:Nat),Vals xs us->Vals (xs.take n) (us.take n)
 |_,_,0,_=>.nil
 |_,_,_+1,.nil=>.nil
 |_,_,n+1,.cons r t=>.cons r (Vals.take n t)
theorem Vals.drop:∀{xs:List V} {us:List Value} (n:Nat),Vals xs us->Vals (xs.drop n) (us.drop n)
 |_,_,0,r=>r
 |_,_,_+1,.nil=>.nil
 |_,_,n+1,.cons _ t=>Vals.drop n t
theorem Vals.none_of:∀{xs:List V} {us:List Value} {i:Nat},Vals xs us->xs[i]?=none->us[i]?=none:=λ{xs us i} r e=>by have h1:=r.length;have h2:xs.length<=i:=List.getElem?_eq_none_iff.mp e;exact List.getElem?_eq_none_iff.mpr (by omega)
noncomputable def RelO:Option V->Option Value->Prop
 |some v,some u=>RelV v u
 |none,none=>True
 |_,_=>False
noncomputable def KV{κ:Type}:List (κ×V)->List (κ×Value)->Prop:=Paired λ(p:κ×V) (q:κ×Value)=>p.1=q.1/\RelV p.2 q.2
noncomputable def kV:Key->V
 |.inl i=>.int i
 |.inr x=>.str x
inductive HO where
 |lst (xs:List V)
 |tup (xs:List V)
 |dK (kvs:List (Key×V)) |dT (kvs:List (List Key×V))
 |set (S:Int->Bool) (n:Nat)
 |ins (C dx:Addr) (fs:List (Str×V))
 |own (x:Addr)
 |xd (fs:List (Str×V))
 |met (f x:Addr)
 |rng (lo hi:Int)
 |frz (o:Obj) (u:HO)
 |tbl (ps:Array Value)
 |ext (φ:Heap->Prop)
abbrev Hp:=Addr->Option HO
noncomputable def upd(H:Hp)(a:Addr)(o:HO):Hp:=λb=>if b=a then some o else H b
theorem am{H:Hp}{a:Addr}{o:HO}:upd H a o a=some o:=by unfold upd;rw[if_pos rfl]
theorem upd_ne{H:Hp}{a b:Addr}{o:HO}(h:b≠a):upd H a o b=H b:=by unfold upd;rw[if_neg h]
theorem nG{H:Hp}{a:Addr}{o u:HO}:upd (upd H a o) a u=upd H a u:=by funext b;unfold upd;split<;>rfl
theorem aK{H:Hp}{a b:Addr}{o:HO}(h:H a=some o)(h':H b=none):a≠b:=by intro e;subst e;rw[h]at h';cases h'
section
variable (P:Program)(w:World)
noncomputable def ObjOk(H:Hp)(h:Heap)(a:Addr):HO->Prop
 |.lst xs=>xs.length<=sizeLine/\∃(its:List Value) (n:Nat),Vals xs its/\h.get? a=some { cls:=.type "list",data:=.seq its.toArray n }
 |.tup xs=>xs.length<=sizeLine/\∃its:List Value,Vals xs its/\IsTup h a its.toArray
 |.dK kvs=>kvs.length<=sizeLine/\(a == sysModules)=false/\∃vs,KV kvs vs/\h.DictOf (qT P w) a vs
 |.dT kvs=>kvs.length<=sizeLine/\(a == sysModules)=false/\∃xs:List (List Key×Addr×Value),
  Paired (λ(p:List Key×V) (q:List Key×Addr×Value)=>p.1=q.1/\H q.2.1=some (.tup (p.1.map kV))/\RelV p.2 q.2.2) kvs xs /\
  ∃o es ep,h.get? a=some o/\o.ExactDict/\o.data=.dict es ep/\es.toList=xs.map (entryOfKey (tupleKind (qT P w)))/\(xs.map (·.1)).Nodup
 |.set S n=>h.SetOf (intKind P w) a S n
 |.ins C dx fs=>H dx=some (.own a)/\fs.length<=1000/\dx≠a/\h.get? a=some (PySem.W.instObj C dx) /\
  ∃mA,h.Ns1 dx mA/\(∀f,RelO (fs.lookup f) (mA f))/\PySem.Within mA (fs.map (·.1))
 |.own _=>∃o,h.get? a=some o
 |.xd fs=>∃mA,h.Ns1 a mA/\∀f,RelO (fs.lookup f) (mA f)
 |.rng lo hi=>∃t u v,h.get? a=some { cls:=.type "range",data:=.fields #[.int lo t,.int hi u,.int 1 v] }
 |.frz o u=>h.get? a=some o/\ObjOk H h a u
 |.tbl ps=>h.get? a=some { cls:=.none,data:=.fields ps }
 |.met f x=>h.get? a=some (PySem.W.methodObj (.ref f) (.ref x))
 |.ext φ=>φ h/\(∃o,h.get? a=some o)/\∀h1 h2:Heap,φ h1->(∀o,h1.get? a=some o->h2.get? a=some o)->φ h2
def HOk(H:Hp)(h:Heap):Prop:=∀a o,H a=some o->ObjOk P w H h a o
end
section
variable {P:Program}{w:World}{H H':Hp}{h h':Heap}{a:Addr}{o:HO}
theorem ObjOk.lt(x:ObjOk P w H h a o):a<h.objs.size:=by
 cases o with
 |lst xs=>obtain⟨_,_,_,_,e⟩:=x;exact Heap.lt_size e
 |tup xs=>obtain⟨_,_,_,p⟩:=x;exact p.lt
 |dK kvs=>obtain⟨_,_,_,_,o,_,_,e,_⟩:=x;exact Heap.lt_size e
 |dT kvs=>obtain⟨_,_,_,_,o,_,_,e,_⟩:=x;exact Heap.lt_size e
 |set S n=>obtain⟨o,_,_,_,e,_⟩:=x;exact Heap.lt_size e
 |ins C dx fs=>obtain⟨_,_,_,e,_⟩:=x;exact Heap.lt_size e
 |own y=>obtain⟨_,e⟩:=x;exact Heap.lt_size e
 |xd fs=>obtain⟨_,⟨_,_,_,e,_⟩,_⟩:=x;exact Heap.lt_size e
 |rng lo hi=>obtain⟨_,_,_,e⟩:=x;exact Heap.lt_size e
 |frz ob u=>obtain⟨e,_⟩:=x;exact Heap.lt_size e
 |tbl ps=>exact Heap.lt_size (show h.get? a=some _ from x)
 |met f y=>exact Heap.lt_size (show h.get? a=some _ from x)
 |ext φ=>obtain⟨_,⟨_,e⟩,_⟩:=x;exact Heap.lt_size e
theorem Paired.mapP{α β:Type}{F G:α->β->Prop}:∀{l₁:List α} {l₂:List β},Paired F l₁ l₂->(∀a b,F a b->G a b)->Paired G l₁ l₂
 |_,_,.nil,_=>.nil
 |_,_,.cons r t,f=>.cons (f _ _ r) (Paired.mapP t f)
theorem ObjOk.stay(x:ObjOk P w H h a o)(k:∀b u,(b=a\/H b=some (.own a))->h.get? b=some u->h'.get? b=some u)
 (ho:∀b,H b=some (.own a)->H' b=some (.own a)) (ht:∀b xs,H b=some (.tup xs)->H' b=some (.tup xs)):ObjOk P w H' h' a o:=by
 induction o with
 |lst xs=>obtain⟨z,its,n,r,e⟩:=x;exact⟨z,its,n,r,k _ _ (.inl rfl) e⟩
 |tup xs=>obtain⟨z,its,r,ob,e,c⟩:=x;exact⟨z,its,r,ob,k _ _ (.inl rfl) e,c⟩
 |dK kvs=>obtain⟨z,y,vs,r,ob,es,ep,e,c⟩:=x;exact⟨z,y,vs,r,ob,es,ep,k _ _ (.inl rfl) e,c⟩
 |dT kvs =>obtain⟨z,y,xs,r,ob,es,ep,e,c⟩:=x;exact⟨z,y,xs,Paired.mapP r λp q z=>⟨z.1,ht _ _ z.2.1,z.2.2⟩,ob,es,ep,k _ _ (.inl rfl) e,c⟩
 |set S n=>obtain⟨ob,es,ep,t,e,c⟩:=x;exact⟨ob,es,ep,t,k _ _ (.inl rfl) e,c⟩
 |ins C dx fs =>obtain⟨d,z,ne,e,mA,⟨od,es,ep,e2,c⟩,r⟩:=x;exact⟨ho _ d,z,ne,k _ _ (.inl rfl) e,mA,⟨od,es,ep,k _ _ (.inr d) e2,c⟩,r⟩
 |own y=>obtain⟨ob,e⟩:=x;exact⟨ob,k _ _ (.inl rfl) e⟩
 |xd fs=>obtain⟨mA,⟨od,es,ep,e,c⟩,r⟩:=x;exact⟨mA,⟨od,es,ep,k _ _ (.inl rfl) e,c⟩,r⟩
 |rng lo hi=>obtain⟨t,u,v,e⟩:=x;exact⟨t,u,v,k _ _ (.inl rfl) e⟩
 |frz ob u ih=>obtain⟨e,q⟩:=x;exact⟨k _ _ (.inl rfl) e,ih q⟩
 |tbl ps =>have e:h.get? a=some { cls:=.none,data:=.fields ps }:=x;show h'.get? a=some { cls:=.none,data:=.fields ps };exact k a _ (.inl rfl) e
 |met f y =>have e:h.get? a=some (PySem.W.methodObj (.ref f) (.ref y)):=x;show h'.get? a=some (PySem.W.methodObj (.ref f) (.ref y));exact k a _ (.inl rfl) e
 |ext φ=>obtain⟨p,⟨o,e⟩,st⟩:=x;exact⟨st _ _ p λo q=>k _ _ (.inl rfl) q,⟨o,k _ _ (.inl rfl) e⟩,st⟩
theorem HOk.lt(x:HOk P w H h)(e:H a=some o):a<h.objs.size:=(x a o e).lt
theorem HOk.fresh(x:HOk P w H h)(e:h.objs.size<=a):H a=none:=by
 cases q:H a with
 |none=>rfl
 |some u=>exact absurd (FF (x.lt q) e) (Gm _)
theorem HOk.kept(x:HOk P w H h)(k:∀b u,h.get? b=some u->h'.get? b=some u):HOk P w H h':=λa o e =>(x a o e).stay (λb u _ q=>k b u q) (λ_ q=>q) λ_ _ q=>q
theorem HOk.laid(x:HOk P w H h)(k:∀b u,h.get? b=some u->h'.get? b=some u)(hp:h.objs.size<=a)(new:ObjOk P w (upd H a o) h' a o):HOk P w (upd H a o) h':=λb u e=>by
 have hn:=x.fresh hp;by_cases hb:b=a
 ·subst hb;rw[am]at e;cases e;exact new
 ·rw[upd_ne hb]at e;exact(x b u e).stay (λc v _ q=>k c v q) (λc q=>by rw[upd_ne (aK q hn)];exact q) λc xs q=>by rw[upd_ne (aK q hn)];exact q
end
def Rd(H:Hp)(a:Addr)(u:HO):Prop:=H a=some u\/∃o,H a=some (.frz o u)
theorem Rd.of{H:Hp}{a:Addr}{u:HO}(h:H a=some u):Rd H a u:=.inl h
theorem Rd.ok{P:Program}{w:World}{H:Hp}{h:Heap}{a:Addr}{u:HO}(r:Rd H a u)(x:HOk P w H h):ObjOk P w H h a u:=by
 rcases r with r |⟨o,r⟩
 ·exact x a u r
 ·obtain⟨_,q⟩:=x a _ r;exact q
noncomputable def Mut:Option HO->Prop
 |some (.lst _)=>True
 |some (.dK _)=>True
 |some (.dT _)=>True
 |some (.set _ _)=>True
 |some (.ins _ _ _)=>True
 |some (.ext _)=>True
 |_=>False
section
variable {P:Program}{w:World}{H:Hp}{h h':Heap}{x e:Addr}{o':HO}
theorem HOk.write(ok:HOk P w H h)(mu:Mut (H x))(he:e=x\/H e=some (.own x))(k:∀b u,b≠e->h.get? b=some u->h'.get? b=some u)(heo:∃u,h'.get? e=some u)
 (new:ObjOk P w (upd H x o') h' x o'):HOk P w (upd H x o') h':=λb u q=>by
 have nown:∀c y,H c=some (.own y)->c≠x:=λc y r z=>by subst z;rw[r]at mu;exact mu
 have ntup:∀c xs,H c=some (.tup xs)->c≠x:=λc xs r z=>by subst z;rw[r]at mu;exact mu
 by_cases hb:b=x
 ·subst hb;rw[am]at q;cases q;exact new
 ·rw[upd_ne hb]at q;by_cases hbe:b=e
  ·have q':H b=some (.own x):=by
    rcases he with z |z
    ·exact absurd (hbe.trans z) hb
    ·rw[hbe];exact z
   rw[q]at q';cases q';obtain⟨v,hv⟩:=heo;exact⟨v,by rw[hbe];exact hv⟩
  ·refine(ok b u q).stay (λc v hc r=>k c v ?_ r) (λc r=>by rw[upd_ne (nown c b r)];exact r) λc xs r=>by rw[upd_ne (ntup c xs r)];exact r
   rcases hc with rfl |hc
   ·exact hbe
   ·rintro rfl;rcases he with z |z
    ·exact nown c b hc z
    ·rw[hc]at z;cases z;exact hb rfl
end
structure Un(fs ex:List Addr)(H H':Hp)(h h':Heap):Prop where
 keep:∀b o,h.get? b=some o->H b=none->b∉fs->b∉ex->h'.get? b=some o
 slot:∀b o,h.get? b=some o->H b=none->b∈fs->b∉ex->∃sl,h'.get? b=some { o with slots:=sl }
 free:∀b o,h.get? b=some o->H b=none->b∉ex->H' b=none
 there:∀b o,h.get? b=some o->b∉ex->∃o',h'.get? b=some o'
 tups:∀b xs,H b=some (.tup xs)->H' b=some (.tup xs)
 frzs:∀b o u,H b=some (.frz o u)->H' b=some (.frz o u)
 tbls:∀b ps,H b=some (.tbl ps)->∃more,H' b=some (.tbl (ps++more))
section
variable {fs fs' ex ex':List Addr}{H H1 H2:Hp}{h h1 h2 h':Heap}{a x e:Addr}{o:HO}
theorem Un.any(u:Un fs ex H H1 h h1){b:Addr}{ob:Obj}(q:h.get? b=some ob)(n:H b=none)(hx:b∉ex):∃sl,h1.get? b=some { ob with slots:=sl }:=by
 by_cases hb:b∈fs
 ·exact u.slot b ob q n hb hx
 ·exact⟨ob.slots,u.keep b ob q n hb hx⟩
theorem Un.trans(a:Un fs ex H H1 h h1)(b:Un fs ex H1 H2 h1 h2):Un fs ex H H2 h h2 where
 keep:=λc ob q n hc hx=>b.keep c ob (a.keep c ob q n hc hx) (a.free c ob q n hx) hc hx
 slot:=λc ob q n hc hx=>by obtain⟨sl,e1⟩:=a.slot c ob q n hc hx;obtain⟨sl',e2⟩:=b.slot c _ e1 (a.free c ob q n hx) hc hx;exact⟨sl',e2⟩
 free:=λc ob q n hx=>by obtain⟨o',e1⟩:=a.there c ob q hx;exact b.free c o' e1 (a.free c ob q n hx) hx
 there:=λc ob q hx=>by obtain⟨o',e1⟩:=a.there c ob q hx;exact b.there c o' e1 hx
 tups:=λc xs q=>b.tups c xs (a.tups c xs q)
 frzs:=λc ob xs q=>b.frzs c ob xs (a.frzs c ob xs q)
 tbls:=λc ps q=>by obtain⟨m1,e1⟩:=a.tbls c ps q;obtain⟨m2,e2⟩:=b.tbls c _ e1;exact⟨m1++m2,by rw[e2,Array.append_assoc]⟩
theorem Un.kept(k:∀b u,h.get? b=some u->h'.get? b=some u):Un fs ex H H h h' :=
 ⟨λb ob q _ _ _=>k b ob q,λb ob q _ _ _=>⟨ob.slots,k b ob q⟩,λ_ _ _ n _=>n,λb ob q _=>⟨ob,k b ob q⟩,λ_ _ q=>q,λ_ _ _ q=>q,λ_ ps q=>⟨#[],by rw[q];simp⟩⟩
theorem Un.refl:Un fs ex H H h h:=Un.kept λ_ _ q=>q
theorem Un.laid(k:∀b u,h.get? b=some u->h'.get? b=some u)(hp:h.objs.size<=a)(hn:H a=none):Un fs ex H (upd H a o) h h' where
 keep:=λb u q _ _ _=>k b u q
 slot:=λb u q _ _ _=>⟨u.slots,k b u q⟩
 free:=λb u q n _=>by rw[upd_ne (FG (FF (Heap.lt_size q) hp))];exact n
 there:=λb u q _=>⟨u,k b u q⟩
 tups:=λb xs q=>by rw[upd_ne (aK q hn)];exact q
 frzs:=λb u xs q=>by rw[upd_ne (aK q hn)];exact q
 tbls:=λb ps q=>⟨#[],by rw[upd_ne (aK q hn),q];simp⟩
theorem Un.write(mu:Mut (H x))(he:e=x\/H e=some (.own x))(k:∀b u,b≠e->h.get? b=some u->h'.get? b=some u)(heo:∃u,h'.get? e=some u):Un fs ex H (upd H x o) h h':=by
 have hx:∀b,H b=none->b≠x:=λb n z=>by subst z;rw[n]at mu;exact mu
 have hb:∀b,H b=none->b≠e:=λb n z=>by
  subst z;rcases he with r |r
  ·exact hx b n r
  ·rw[n]at r;cases r
 have hm:∀b u,H b=some u->¬Mut (some u)->b≠x:=λb u q nm z=>by subst z;rw[q]at mu;exact nm mu
 refine⟨λb u q n _ _=>k b u (hb b n) q,λb u q n _ _=>⟨u.slots,k b u (hb b n) q⟩,λb u q n _=>by rw[upd_ne (hx b n)];exact n,λb u q _=>?_,
  λb xs q=>by rw[upd_ne (hm b _ q λz=>z)];exact q,λb u xs q=>by rw[upd_ne (hm b _ q λz=>z)];exact q,λb ps q=>⟨#[],by rw[upd_ne (hm b _ q λz=>z),q];simp⟩⟩
 by_cases hbe:b=e
 ·subst hbe;exact heo
 ·exact⟨u,k b u hbe q⟩
theorem Un.mono(u:Un fs ex H H1 h h1)(hs:∀b∈fs,b∈fs')(hx:∀b∈ex,b∈ex'):Un fs' ex' H H1 h h1 :=
 ⟨λb ob q n hb he=>u.keep b ob q n (λz=>hb (hs b z)) λz=>he (hx b z),λ_ _ q n _ he=>u.any q n λz=>he (hx _ z),λb ob q n he=>u.free b ob q n λz=>he (hx b z),λb ob q he=>u.there b ob q λz=>he (hx b z),u.tups,u.frzs,u.tbls⟩
end
noncomputable def trk(h:Heap)(H:Hp):List Addr:=(List.range h.objs.size).filter λa=>(H a).isSome
noncomputable def dd(h:Heap)(H:Hp):Heap:=PySem.W.hideAll h (trk h H)
theorem AE(h:Heap)(H:Hp):(dd h H).objs.size=h.objs.size:=PySem.W.hideAll_size _ _
theorem AF{h:Heap}{H:Hp}{b:Addr}{o:Obj}(e:h.get? b=some o)(n:H b=none):(dd h H).get? b=some o :=
 PySem.W.hideAll_get _ e λhm=>by have q:(H b).isSome=true:=(List.mem_filter.mp hm).2;rw[n]at q;simp at q
theorem yu{h:Heap}{H:Hp}{b:Addr}{o:Obj}(e:(dd h H).get? b=some o):h.get? b=some o/\H b=none:=by
 have e':h.get? b=some o:=PySem.W.of_hideAll (trk h H) e;refine⟨e',?_⟩;cases q:H b with
 |none=>rfl
 |some x =>have hm:b∈trk h H:=List.mem_filter.mpr ⟨G9.mpr (Heap.lt_size e'),by simp[q]⟩;have z:(dd h H).get? b=none:=PySem.W.hideAll_none (trk h H) hm;rw[z]at e;cases e
noncomputable def CB(g h:Heap)(L:Addr):List (Addr×Obj):=(List.range h.objs.size).filterMap λa=>if a=L\/(g.get? a).isSome=true then none else(h.get? a).map λo=>(a,o)
noncomputable def rest(g h:Heap)(L d:Addr):List (Addr×Obj):=(CB g h L).filter λp=>decide (p.1≠d)
structure Mod(K:PySem.W.Frag)(mg:Str->Option Value)(base:Heap):Prop where
 kin:K.In base
 glob:base.Ns mainGlobals mg
 blt:∃mb,base.Ns builtinsNs mb/\∀x:Str,x≠"__name__"->mb x=bootBuiltins x
 nolimit:base.NoLimit
structure Cx where
 prog:Program
 w:World
 K:PySem.W.Frag
 mg:Str->Option Value
 base:Heap
 A:Around
 N:List Str
 s₀:Shared
 H₀:Hp
 env:Env
 outer:List Env
 stack:List Env
 ex:List Addr
 fn:Str->Bool
 calm:Bool
 pn:List (Addr×Obj)
 xe:Value->Shared->Prop
noncomputable def frs(l:List Env):List Addr:=l.filterMap (·.frame)
abbrev Cx.fs(X:Cx):List Addr:=frs X.outer
def Vis(sc:Scope)(x:Str):Prop:=sc.names.lookup x=some .local\/sc.names.lookup x=some .cell\/sc.names.lookup x=some .free
def Loc(sc:Scope)(x:Str):Prop:=sc.names.lookup x=some .local\/sc.names.lookup x=some .cell
noncomputable def CF(env:Env)(h:Heap)(m:Str->Option Value)(x:Str)(u:Value):Prop :=
 (env.kindOf x=some .local/\m x=some u)\/((env.kindOf x=some .cell\/env.kindOf x=some .free)/\∃c,env.cells.lookup x=some c/\h.IsCell c (some u))
structure Cx.Ok(X:Cx):Prop where
 mod:Mod X.K X.mg X.base
 kind:X.env.scope.kind=.function
 glob:X.env.globals=mainGlobals
 blt:X.env.builtins=builtinsNs
 above:X.s₀.heap.objs.size<=X.env.locals
 inj:∀x y c,X.env.cells.lookup x=some c->X.env.cells.lookup y=some c->x=y
 has:∀x,(X.env.kindOf x=some .cell\/X.env.kindOf x=some .free)->∃c,X.env.cells.lookup x=some c
 cab:∀x c,X.fn x=true->X.env.cells.lookup x=some c->X.s₀.heap.objs.size<=c
 hd:X.calm=true->X.A.handled=none
 frames:X.A.frames=some X.stack
 stk:X.stack=X.outer\/(X.stack=X.env::X.outer/\X.env.frame=some X.env.locals)
 exf:∀b∈X.ex,b≠X.env.locals/\∀x c,X.env.cells.lookup x=some c->c≠b
 bs:∀b o,X.base.get? b=some o->X.s₀.heap.get? b=some o/\X.H₀ b=none
 bsz:X.base.objs.size<=X.s₀.heap.objs.size
 noex:∀b o,X.base.get? b=some o->b∉X.ex
 exfs:∀b∈X.ex,b∉X.fs
 funs:X.s₀.heap.FunFrames X.base X.outer
 frf:∀b∈X.fs,X.H₀ b=none
structure Inv(X:Cx)(pins:List (Addr×Obj))(σ:List (Option V))(H:Hp)(s:Shared):Prop where
 ok:X.Ok
 os:s.os=X.s₀.os
 bare:AllBare s.gens
 base:Un X.fs X.ex X.H₀ H X.s₀.heap s.heap
 loc:∃m,s.heap.Ns X.env.locals m/\∀(i:Nat) (x:Str) (v:V),X.N[i]?=some x->σ[i]?=some (some v)->Vis X.env.scope x->∃u,RelV v u/\CF X.env s.heap m x u
 cell:∀x c,X.env.cells.lookup x=some c->∃v,s.heap.IsCell c v
 free:H X.env.locals=none
 freeC:∀x c,X.env.cells.lookup x=some c->H c=none
 pin:∀p∈X.pn++pins,s.heap.get? p.1=some p.2/\H p.1=none/\p.1≠X.env.locals/\p.1∉X.fs/\∀v,p.2.data≠.cell v
 hok:HOk X.prog X.w H s.heap
 len:σ.length=X.N.length
section
variable {X:Cx}{pins:List (Addr×Obj)}{σ:List (Option V)}{H H':Hp}{s:Shared}{h':Heap}
theorem Cx.Ok.nofr(ok:X.Ok){b:Addr}{o:Obj}(e:X.base.get? b=some o):b∉X.fs:=λhb=>by have:=(ok.funs.mem hb).1;rw[e]at this;cases this
theorem Inv.bs(I:Inv X pins σ H s):∀b o,X.base.get? b=some o->s.heap.get? b=some o/\H b=none:=λb o e =>⟨I.base.keep b o (I.ok.bs b o e).1 (I.ok.bs b o e).2 (I.ok.nofr e) (I.ok.noex b o e),I.base.free b o (I.ok.bs b o e).1 (I.ok.bs b o e).2 (I.ok.noex b o e)⟩
theorem Inv.bk(I:Inv X pins σ H s):∀b o,X.base.get? b=some o->s.heap.get? b=some o:=λb o e=>(I.bs b o e).1
theorem Inv.mod(I:Inv X pins σ H s):Mod X.K X.mg X.base:=I.ok.mod
theorem Inv.kIn(I:Inv X pins σ H s):X.K.In s.heap:=I.ok.mod.kin.keeps I.bk
theorem Inv.nolimit(I:Inv X pins σ H s):s.heap.NoLimit:=I.ok.mod.nolimit.keeps I.bk
theorem Inv.fr(I:Inv X pins σ H s):∃m,Fr X.base X.env.locals s.heap m :=
 let⟨m,hn,_⟩:=I.loc
 ⟨m,hn,I.bk,FA I.ok.bsz I.ok.above⟩
theorem Inv.lt(I:Inv X pins σ H s):X.env.locals<s.heap.objs.size:=let⟨_,hn,_⟩:=I.loc;hn.lt
theorem Inv.sz(I:Inv X pins σ H s):X.s₀.heap.objs.size<=s.heap.objs.size:=FA I.ok.above (GI I.lt)
theorem Inv.nofs(I:Inv X pins σ H s){a:Addr}(h:s.heap.objs.size<=a):a∉X.fs:=λhb=>by obtain⟨_,o,ho,_⟩:=I.ok.funs.mem hb;exact absurd (FF (Heap.lt_size ho) (FA I.sz h)) (Gm _)
theorem Inv.cne(I:Inv X pins σ H s):∀x c,X.env.cells.lookup x=some c->c≠X.env.locals:=λx c e z=>by obtain⟨v,o,ho,hd⟩:=I.cell x c e;obtain⟨m,⟨o',es,ep,ho',hd',_⟩,_⟩:=I.loc;rw[z,ho']at ho;cases ho;rw[hd']at hd;cases hd
theorem Inv.funs(I:Inv X pins σ H s):s.heap.FunFrames X.base X.outer:=by
 have all:∀(l:List Env),(∀b∈frs l,b∈X.fs)->X.s₀.heap.FunFrames X.base l->s.heap.FunFrames X.base l:=by
  intro l
  induction l with
  |nil=>intro _ _;trivial
  |cons env r ih =>
   intro hs hl;obtain⟨hk,⟨L,o,hf,hn,ho,hd⟩,hr⟩:=hl;have hL:L∈X.fs:=hs L (by unfold frs;rw[List.filterMap_cons,hf];exact Fx);obtain⟨sl,e⟩:=I.base.slot L o ho (I.ok.frf L hL) hL λz=>I.ok.exfs L z hL
   exact⟨hk,⟨L,_,hf,hn,e,hd⟩,ih (λb hb=>hs b (by unfold frs;rw[List.filterMap_cons,hf];exact Fs _ hb)) hr⟩
 exact all X.outer (λ_ hb=>hb) I.ok.funs
theorem Inv.stack(I:Inv X pins σ H s):s.heap.FunFrames X.base X.stack:=by
 rcases I.ok.stk with e |⟨e,hf⟩
 ·rw[e];exact I.funs
 ·rw[e];obtain⟨m,hn,_⟩:=I.loc;refine .cons (by rw[I.ok.kind];decide) hf hn ?_ I.funs;exact Heap.get?_none_of_le (FA I.ok.bsz I.ok.above)
theorem Inv.stkSub(I:Inv X pins σ H s):∀b∈frs X.stack,b∈X.env.locals::X.fs:=λb hb=>by
 rcases I.ok.stk with e |⟨e,hf⟩
 ·rw[e]at hb;exact Fs _ hb
 ·rw[e]at hb;unfold frs at hb
  rw[List.filterMap_cons,hf]at hb;exact hb
theorem Inv.stkFree(I:Inv X pins σ H s):∀b∈frs X.stack,H b=none:=λb hb=>by
 rcases Ft.mp (I.stkSub b hb)with e |hb
 ·rw[e];exact I.free
 ·obtain⟨_,o,ho,_⟩:=I.ok.funs.mem hb;exact I.base.free b o ho (I.ok.frf b hb) λz=>I.ok.exfs b z hb
theorem Inv.step{g':Array GenState}{t':Nat}{d':Drawn}{ch:List Addr}(I:Inv X pins σ H s)
 (hch:∀b∈ch,(b∈X.ex\/X.s₀.heap.objs.size<=b)/\b≠X.env.locals/\(∀x c,X.env.cells.lookup x=some c->c≠b)/\∀p∈X.pn++pins,p.1≠b)
 (keep:∀b o,b≠X.env.locals->b∉X.fs->b∉ch->s.heap.get? b=some o->H b=none->h'.get? b=some o)
 (slot:∀b o,b≠X.env.locals->b∈X.fs->b∉ch->s.heap.get? b=some o->H b=none->∃sl,h'.get? b=some { o with slots:=sl }) (free:∀b o,b∉ch->s.heap.get? b=some o->H b=none->H' b=none)
 (there:∀b o,b∉ch->s.heap.get? b=some o->∃o',h'.get? b=some o')
 (tups:∀b xs,H b=some (.tup xs)->H' b=some (.tup xs)) (frzs:∀b o u,H b=some (.frz o u)->H' b=some (.frz o u)) (tbls:∀b ps,H b=some (.tbl ps)->∃more,H' b=some (.tbl (ps++more)))
 (ns:∀m,s.heap.Ns X.env.locals m->h'.Ns X.env.locals m) (hok:HOk X.prog X.w H' h') (hg:AllBare g') :
 Inv X pins σ H' { s with heap:=h',gens:=g',drawn:=d',toks:=t' }:=by
 have neL:∀b o,X.s₀.heap.get? b=some o->b≠X.env.locals:=λb o e=>FG (FF (Heap.lt_size e) I.ok.above)
 have neC:∀b o,X.s₀.heap.get? b=some o->b∉X.ex->b∉ch:=λb o e hx hb=>by
  rcases(hch b hb).1 with z |z
  ·exact hx z
  ·exact absurd (FF (Heap.lt_size e) z) (Gm _)
 have cellK:∀x c,X.env.cells.lookup x=some c->∀v,s.heap.IsCell c v->h'.IsCell c v:=λx c e v ⟨o,ho,hd⟩=>by
  have nch:c∉ch:=λz=>(hch c z).2.2.1 x c e rfl
  by_cases hc:c∈X.fs
  ·obtain⟨sl,q⟩:=slot c o (I.cne x c e) hc nch ho (I.freeC x c e);exact⟨_,q,hd⟩
  ·exact⟨o,keep c o (I.cne x c e) hc nch ho (I.freeC x c e),hd⟩
 refine⟨I.ok,I.os,hg,⟨λb o e n hb hx=>?_,λb o e n hb hx=>?_,λb o e n hx=>?_,λb o e hx=>?_,λb xs e=>tups b xs (I.base.tups b xs e),λb o xs e=>frzs b o xs (I.base.frzs b o xs e),λb ps e=>?_⟩,?_,λx c e=>?_,?_,λx c e=>?_,λp hp=>?_,hok,I.len⟩
 ·exact keep b o (neL b o e) hb (neC b o e hx) (I.base.keep b o e n hb hx) (I.base.free b o e n hx)
 ·obtain⟨sl,e1⟩:=I.base.slot b o e n hb hx;obtain⟨sl',e2⟩:=slot b _ (neL b o e) hb (neC b o e hx) e1 (I.base.free b o e n hx);exact⟨sl',e2⟩
 ·obtain⟨o',e1⟩:=I.base.there b o e hx;exact free b o' (neC b o e hx) e1 (I.base.free b o e n hx)
 ·obtain⟨o',e1⟩:=I.base.there b o e hx;exact there b o' (neC b o e hx) e1
 ·obtain⟨m1,e1⟩:=I.base.tbls b ps e;obtain⟨m2,e2⟩:=tbls b _ e1;exact⟨m1++m2,by rw[e2,Array.append_assoc]⟩
 ·obtain⟨m,hn,hl⟩:=I.loc;refine⟨m,ns m hn,λi x v e1 e2 e3=>?_⟩;obtain⟨u,r,l⟩:=hl i x v e1 e2 e3;refine⟨u,r,?_⟩;rcases l with l |⟨k,c,e,z⟩
  ·exact .inl l
  ·exact .inr ⟨k,c,e,cellK x c e _ z⟩
 ·obtain⟨v,z⟩:=I.cell x c e;exact⟨v,cellK x c e v z⟩
 ·obtain⟨m,⟨o,_,_,ho,_⟩,_⟩:=I.loc;exact free _ o (λz=>(hch _ z).2.1 rfl) ho I.free
 ·obtain⟨v,o,ho,hd⟩:=I.cell x c e;exact free c o (λz=>(hch c z).2.2.1 x c e rfl) ho (I.freeC x c e)
 ·obtain⟨e,n,ne,nf,d⟩:=I.pin p hp;have nch:p.1∉ch:=λz=>(hch p.1 z).2.2.2 p hp rfl
  exact⟨keep p.1 p.2 ne nf nch e n,free p.1 p.2 nch e n,ne,nf,d⟩
theorem Inv.un{t':Nat}(I:Inv X pins σ H s)(u:Un X.fs [] H H' s.heap h')(hok:HOk X.prog X.w H' h'):Inv X pins σ H' { s with heap:=h',toks:=t' }:=by
 obtain⟨m,⟨o,es,ep,ho,r⟩,_⟩:=id I.loc;obtain⟨sl,hL⟩:=u.any ho I.free (by simp)
 exact I.step (g':=s.gens) (d':=s.drawn) (ch:=[]) (λ_ z=>nomatch z) (λb o _ hb _ e n=>u.keep b o e n hb (by simp)) (λb o _ hb _ e n=>u.slot b o e n hb (by simp)) (λb o _ e n=>u.free b o e n (by simp)) (λb o _ e=>u.there b o e (by simp)) u.tups u.frzs u.tbls (λm' hm=>by
  obtain⟨o',es',ep',ho',r'⟩:=hm;rw[ho]at ho';cases ho'
  exact⟨_,es',ep',hL,r'⟩) hok I.bare
theorem Inv.call{g':Array GenState}{t':Nat}{d':Drawn}{ch:List Addr}(I:Inv X pins σ H s)(u:Un (frs X.stack) ch H H' s.heap h')(hok:HOk X.prog X.w H' h')(hg:AllBare g')
 (hch:∀b∈ch,(b∈X.ex\/X.s₀.heap.objs.size<=b)/\b≠X.env.locals/\(∀x c,X.env.cells.lookup x=some c->c≠b)/\∀p∈X.pn++pins,p.1≠b) :
 Inv X pins σ H' { s with heap:=h',gens:=g',drawn:=d',toks:=t' }:=by
 obtain⟨m,⟨o,es,ep,ho,r⟩,_⟩:=id I.loc;obtain⟨sl,hL⟩:=u.any ho I.free λz=>(hch _ z).2.1 rfl
 exact I.step (ch:=ch) hch (λb o hL hb hc e n=>u.keep b o e n (λz=>(Ft.mp (I.stkSub b z)).elim hL hb) hc) (λb o _ _ hc e n=>u.any e n hc) (λb o hc e n=>u.free b o e n hc) (λb o hc e=>u.there b o e hc) u.tups u.frzs u.tbls (λm' hm=>by
  obtain⟨o',es',ep',ho',r'⟩:=hm;rw[ho]at ho';cases ho'
  exact⟨_,es',ep',hL,r'⟩) hok hg
theorem Inv.turned{t':Nat}{it:Addr}(I:Inv X pins σ H s)(k:∀b o,b≠it->s.heap.get? b=some o->h'.get? b=some o)(hn:H it=none)(hL:it≠X.env.locals)
 (h1:it∈X.ex\/X.s₀.heap.objs.size<=it) (h2:∀x c,X.env.cells.lookup x=some c->c≠it) (h3:∀p∈X.pn++pins,p.1≠it):Inv X pins σ H { s with heap:=h',toks:=t' }:=by
 have nit:∀b u,H b=some u->b≠it:=λb u e z=>by rw[z,hn]at e;cases e
 refine I.step (g':=s.gens) (d':=s.drawn) (ch:=[it]) (λb hb=>?_) (λb o _ _ hc e _=>k b o (λz=>hc (by simp[z])) e) (λb o _ _ hc e _=>⟨o.slots,k b o (λz=>hc (by simp[z])) e⟩) (λ_ _ _ _ n=>n)
  (λb o hc e=>⟨o,k b o (λz=>hc (by simp[z])) e⟩) (λ_ _ e=>e) (λ_ _ _ e=>e) (λb ps e=>⟨#[],by rw[e];simp⟩) (λm hm=>?_) (λb u e=>?_) I.bare
 ·have e:b=it:=by simpa using hb
  subst e;exact⟨h1,hL,h2,h3⟩
 ·obtain⟨o,es,ep,ho,r⟩:=hm;exact⟨o,es,ep,k _ o (Ne.symm hL) ho,r⟩
 ·refine(I.hok b u e).stay (λc v hc q=>k c v ?_ q) (λ_ q=>q) λ_ _ q=>q
  rcases hc with z |z
  ·rw[z];exact nit b u e
  ·exact nit c _ z
theorem Inv.tok(I:Inv X pins σ H s)(t:Nat):Inv X pins σ H { s with toks:=t }:=I.un (h':=s.heap) (t':=t) Un.refl I.hok
theorem Inv.kept{t':Nat}(I:Inv X pins σ H s)(k:∀b u,s.heap.get? b=some u->h'.get? b=some u):Inv X pins σ H { s with heap:=h',toks:=t' }:=I.un (Un.kept k) (I.hok.kept k)
theorem Inv.laid{a:Addr}{o:HO}{t':Nat}(I:Inv X pins σ H s)(k:∀b u,s.heap.get? b=some u->h'.get? b=some u)(hp:s.heap.objs.size<=a)(new:ObjOk X.prog X.w (upd H a o) h' a o) :
 Inv X pins σ (upd H a o) { s with heap:=h',toks:=t' }:=I.un (Un.laid k hp (I.hok.fresh hp)) (I.hok.laid k hp new)
theorem Inv.write{x e:Addr}{o:HO}{t':Nat}(I:Inv X pins σ H s)(mu:Mut (H x))(he:e=x\/H e=some (.own x))(k:∀b u,b≠e->s.heap.get? b=some u->h'.get? b=some u)(heo:∃u,h'.get? e=some u)
 (new:ObjOk X.prog X.w (upd H x o) h' x o):Inv X pins σ (upd H x o) { s with heap:=h',toks:=t' }:=I.un (Un.write mu he k heo) (I.hok.write mu he k heo new)
theorem Inv.pins_of{pins':List (Addr×Obj)}(I:Inv X pins σ H s)(h:∀p∈pins',s.heap.get? p.1=some p.2/\H p.1=none/\p.1≠X.env.locals/\p.1∉X.fs/\∀v,p.2.data≠.cell v):Inv X pins' σ H s :=
 ⟨I.ok,I.os,I.bare,I.base,I.loc,I.cell,I.free,I.freeC,λp hp=>(FY.mp hp).elim (λz=>I.pin p (GJ _ z)) (h p),I.hok,I.len⟩
theorem qF{N:List Str}(hN:N.Nodup){i j:Nat}{x:Str}(a:N[i]?=some x)(b:N[j]?=some x):i=j:=by obtain⟨h1,e1⟩:=List.getElem?_eq_some_iff.mp a;obtain⟨h2,e2⟩:=List.getElem?_eq_some_iff.mp b;exact(List.getElem_inj hN).mp (e1.trans e2.symm)
theorem n6{M:Model}{A:Around}{E:Value->Shared->Prop}{i:Nat}{x:Str}{v:V}{u:Value}{Q:Unit->Shared->Prop}(I:Inv X pins σ H s)(hN:X.N.Nodup)(hi:X.N[i]?=some x)(hx:Loc X.env.scope x)(r:RelV v u)
 (h:∀s',Inv X pins (σ.set i (some v)) H s'->(∃a,Heap.SameBut a s.heap s'.heap/\(a=X.env.locals\/X.env.cells.lookup x=some a))->Q () s') (hf:X.fn x=true\/X.env.scope.names.lookup x=some .local:=by first |exact .inl rfl |exact .inr rfl |assumption):wpAny M A (storeName X.env x u) Q E s:=by
 obtain⟨m,hn,hl⟩:=id I.loc;have hcls:(X.env.scope.kind == .class || (X.env.scope.kind == .module&&X.env.locals != X.env.globals))=false:=by rw[I.ok.kind];rfl
 have hiσ:i<σ.length:=by rw[I.len];exact(List.getElem?_eq_some_iff.mp hi).1
 have cne:=I.cne
 have tracked:∀{a:Addr} {h':Heap},(∃o,s.heap.get? a=some o/\H a=none)->Heap.SameBut a s.heap h'->HOk X.prog X.w H h':=λ{a h'} ha hs b ob e=>by
  obtain⟨_,_,hfree⟩:=ha;refine(I.hok b ob e).stay (λc w' hc q=>(hs.2 c ?_).trans q) (λ_ q=>q) λ_ _ q=>q
  rintro rfl;rcases hc with rfl |hc
  ·rw[hfree]at e;cases e
  ·rw[hfree]at hc;cases hc
 rcases hx with hk |hk
 ·refine wpAny_storeName_local hk hn (λh' hn' hs=>?_) hcls;obtain⟨oL,_,_,hoL,_⟩:=id hn;refine h _ ⟨I.ok,I.os,I.bare,⟨λb o e n hb hx=>?_,λb o e n hb hx=>?_,I.base.free,λb o e hx=>?_,I.base.tups,I.base.frzs,I.base.tbls⟩,⟨_,hn',λj y v' e1 e2 e3=>?_⟩,λy c e=>?_,I.free,I.freeC,λp hp=>?_,tracked ⟨oL,hoL,I.free⟩ hs,by simpa using I.len⟩ ⟨_,hs,.inl rfl⟩
  ·exact(hs.2 b (FG (FF (Heap.lt_size e) I.ok.above))).trans (I.base.keep b o e n hb hx)
  ·obtain⟨sl,e1⟩:=I.base.slot b o e n hb hx;exact⟨sl,(hs.2 b (FG (FF (Heap.lt_size e) I.ok.above))).trans e1⟩
  ·obtain⟨o',e1⟩:=I.base.there b o e hx;exact⟨o',(hs.2 b (FG (FF (Heap.lt_size e) I.ok.above))).trans e1⟩
  ·by_cases hj:j=i
   ·subst hj;rw[hi]at e1;cases e1;rw[List.getElem?_set_self hiσ]at e2;cases e2;exact⟨u,r,.inl ⟨hk,by simp⟩⟩
   ·rw[List.getElem?_set_ne (Ne.symm hj)]at e2;obtain⟨u',r',q⟩:=hl j y v' e1 e2 e3;refine⟨u',r',?_⟩;rcases q with⟨k,e⟩ |⟨k,c,e,z⟩
    ·refine .inl ⟨k,?_⟩;have:y≠x:=λe=>hj (qF hN e1 (e ▸ hi))
     simp[this,e]
    ·exact .inr ⟨k,c,e,z.sameBut hs (cne y c e)⟩
  ·obtain⟨w',z⟩:=I.cell y c e;exact⟨w',z.sameBut hs (cne y c e)⟩
  ·obtain⟨e,n,ne,nf,d⟩:=I.pin p hp;exact⟨(hs.2 p.1 ne).trans e,n,ne,nf,d⟩
 ·have hfn:X.fn x=true:=by
   rcases hf with z |z
   ·exact z
   ·rw[z]at hk;cases hk
  obtain⟨c,hc⟩:=I.ok.has x (.inl hk);obtain⟨w',z⟩:=I.cell x c hc;refine wpAny_storeName_cell I.ok.kind hk hc z (λh' hc' hs=>?_);obtain⟨oc,hoc,hocd⟩:=id z;refine h { s with heap:=h' } ⟨I.ok,I.os,I.bare,⟨λb o e n hb hx=>?_,λb o e n hb hx=>?_,I.base.free,λb o e hx=>?_,I.base.tups,I.base.frzs,I.base.tbls⟩,⟨m,hn.sameBut hs (Ne.symm (cne x c hc)),λj y v' e1 e2 e3=>?_⟩,λy c' e=>?_,I.free,I.freeC,λp hp=>?_,tracked ⟨oc,hoc,I.freeC x c hc⟩ hs,by simpa using I.len⟩ ⟨c,hs,.inr hc⟩
  ·exact(hs.2 b (FG (FF (Heap.lt_size e) (I.ok.cab x c hfn hc)))).trans (I.base.keep b o e n hb hx)
  ·obtain⟨sl,e1⟩:=I.base.slot b o e n hb hx;exact⟨sl,(hs.2 b (FG (FF (Heap.lt_size e) (I.ok.cab x c hfn hc)))).trans e1⟩
  ·obtain⟨o',e1⟩:=I.base.there b o e hx;exact⟨o',(hs.2 b (FG (FF (Heap.lt_size e) (I.ok.cab x c hfn hc)))).trans e1⟩
  ·by_cases hj:j=i
   ·subst hj;rw[hi]at e1;cases e1;rw[List.getElem?_set_self hiσ]at e2;cases e2;exact⟨u,r,.inr ⟨.inl hk,c,hc,hc'⟩⟩
   ·rw[List.getElem?_set_ne (Ne.symm hj)]at e2;obtain⟨u',r',q⟩:=hl j y v' e1 e2 e3;refine⟨u',r',?_⟩;rcases q with q |⟨k,c',e,z'⟩
    ·exact .inl q
    ·refine .inr ⟨k,c',e,z'.sameBut hs ?_⟩;rintro rfl;exact hj (qF hN e1 (I.ok.inj _ _ _ e hc ▸ hi))
  ·by_cases hcc:c'=c
   ·subst hcc;exact⟨_,hc'⟩
   ·obtain⟨w2,z2⟩:=I.cell y c' e;exact⟨w2,z2.sameBut hs hcc⟩
  ·obtain⟨e,n,ne,nf,d⟩:=I.pin p hp;refine⟨(hs.2 p.1 ?_).trans e,n,ne,nf,d⟩;intro q;rw[q,hoc]at e;have q':oc=p.2:=Option.some.inj e;exact d w' (by rw[<- q'];exact hocd)
theorem n8{M:Model}{A:Around}{E:Value->Shared->Prop}{i:Nat}{x:Str}{v:V}{u:Value}{Q:Unit->Shared->Prop}(I:Inv X pins σ H s)(hN:X.N.Nodup)(hi:X.N[i]?=some x)(hx:Loc X.env.scope x)(r:RelV v u)
 (h:∀s',Inv X pins (σ.set i (some v)) H s'->Q () s') (hf:X.fn x=true\/X.env.scope.names.lookup x=some .local:=by first |exact .inl rfl |exact .inr rfl |assumption):wpAny M A (storeName X.env x u) Q E s :=
 n6 I hN hi hx r (λs' I' _=>h s' I') hf
theorem Inv.call'{s':Shared}{ch:List Addr}(I:Inv X pins σ H s)(ho:s'.os=s.os)(u:Un (frs X.stack) ch H H' s.heap s'.heap)(hok:HOk X.prog X.w H' s'.heap)(hg:AllBare s'.gens)
 (hch:∀b∈ch,(b∈X.ex\/X.s₀.heap.objs.size<=b)/\b≠X.env.locals/\(∀x c,X.env.cells.lookup x=some c->c≠b)/\∀p∈X.pn++pins,p.1≠b):Inv X pins σ H' s':=by
 obtain⟨h',g',d',t',o'⟩:=s';have e:o'=s.os:=ho;subst e;exact I.call (g':=g') (t':=t') (d':=d') u hok hg hch
end
abbrev XK:=Value->Option Addr->Hp->Prop
abbrev St:=List (Option V)
abbrev VK:=V->Hp->Prop
abbrev TE:=St->Hp->VK->Prop
abbrev TT:=St->Hp->(Bool->Hp->Prop)->Prop
abbrev TA:=St->Hp->(List V->Hp->Prop)->Prop
structure Ends where
 nx:St->Hp->Prop
 rt:VK
 bk:St->Hp->Prop:=λ_ _=>False
 ct:St->Hp->Prop:=λ_ _=>False
abbrev TS:=Ends->St->Hp->Prop
def EP(X:Cx)(pins:List (Addr×Obj))(σ:St)(Q:VK)(u:Value)(s':Shared):Prop:=∃v H',Inv X pins σ H' s'/\RelV v u/\Q v H'
def TP(X:Cx)(pins:List (Addr×Obj))(σ:St)(Q:Bool->Hp->Prop)(b:Bool)(s':Shared):Prop:=∃H',Inv X pins σ H' s'/\Q b H'
def AP(X:Cx)(pins:List (Addr×Obj))(σ:St)(Q:List V->Hp->Prop)(us:List Value)(s':Shared):Prop:=∃vs H',Inv X pins σ H' s'/\Vals vs us/\Q vs H'
noncomputable def SP(X:Cx)(pins:List (Addr×Obj))(D:Ends)(f:Flow)(s':Shared):Prop :=
 match f with
 |.next=>∃σ' H',Inv X pins σ' H' s'/\D.nx σ' H'
 |.brk=>∃σ' H',Inv X pins σ' H' s'/\D.bk σ' H'
 |.cont=>∃σ' H',Inv X pins σ' H' s'/\D.ct σ' H'
 |.ret u=>∃v σ' H',Inv X pins σ' H' s'/\RelV v u/\D.rt v H'
noncomputable def PE(X:Cx)(e:Expr)(t:TE):Prop :=
 ∀(pins:List (Addr×Obj)) (s:Shared) (σ:St) (H:Hp) (Q:VK),Inv X pins σ H s->t σ H Q->wpAny (model X.prog X.w) X.A (eval e X.env) (EP X pins σ Q) X.xe s
noncomputable def PT(X:Cx)(e:Expr)(t:TT):Prop :=
 ∀(pins:List (Addr×Obj)) (s:Shared) (σ:St) (H:Hp) (Q:Bool->Hp->Prop),Inv X pins σ H s->t σ H Q->wpAny (model X.prog X.w) X.A (isTrue e X.env (eval e X.env)) (TP X pins σ Q) X.xe s
noncomputable def PW(X:Cx)(e:Expr)(t:TT):Prop :=
 ∀(whole:Sem Value) (pins:List (Addr×Obj)) (s:Shared) (σ:St) (H:Hp) (Q:Bool->Hp->Prop),Inv X pins σ H s->t σ H Q->wpAny (model X.prog X.w) X.A (isTrue e X.env whole) (TP X pins σ Q) X.xe s
theorem PW.pt{X:Cx}{e:Expr}{t:TT}(h:PW X e t):PT X e t:=h _
noncomputable def PA(X:Cx)(es:List Expr)(t:TA):Prop :=
 ∀(pos:Pos) (pins:List (Addr×Obj)) (s:Shared) (σ:St) (H:Hp) (Q:List V->Hp->Prop),Inv X pins σ H s->t σ H Q->wpAny (model X.prog X.w) X.A (spliced (backTo pos (starEach es X.env))) (AP X pins σ Q) X.xe s
noncomputable def PS(X:Cx)(st:Stmt)(t:TS):Prop :=
 ∀(pins:List (Addr×Obj)) (s:Shared) (σ:St) (H:Hp) (D:Ends),Inv X pins σ H s->t D σ H->wpAny (model X.prog X.w) X.A (exec st X.env) (SP X pins D) X.xe s
noncomputable def PSs(X:Cx)(st:List Stmt)(t:TS):Prop :=
 ∀(pins:List (Addr×Obj)) (s:Shared) (σ:St) (H:Hp) (D:Ends),Inv X pins σ H s->t D σ H->wpAny (model X.prog X.w) X.A (execs st X.env) (SP X pins D) X.xe s
theorem thn{α:Type}{t:Sem α}{Q Q':α->Shared->Prop}{M:Model}{A:Around}{E:Value->Shared->Prop}{s:Shared}(h:wpAny M A t Q E s)(hQ:∀a s,Q a s->Q' a s):wpAny M A t Q' E s:=wpAny_mono h hQ λ_ _ x=>x
section
variable {X:Cx}
def gX(i:Nat):TE:=λσ H Q=>∃v,σ[i]?=some (some v)/\Q v H
def tC(v:V):TE:=λ_ H Q=>Q v H
theorem wZ{i:Nat}{x:Str}{pos:Pos}(hN:X.N[i]?=some x)(hv:Vis X.env.scope x)(hd:(x == ("__debug__":Str))=false:=by decide)(hcd:(x == ("__classdict__":Str))=false:=by decide):PE X (.Name x pos) (gX i):=by
 intro pins s σ H Q I h;obtain⟨v,e,h⟩:=h;obtain⟨m,hn,hl⟩:=I.loc;obtain⟨u,r,l⟩:=hl i x v hN e hv;have fin:EP X pins σ Q u s:=⟨v,H,I,r,h⟩;rcases l with⟨hk,hm⟩ |⟨hk,c,hc,hcell⟩
 ·exact wpAny_Name (wpAny_loadName_local I.ok.kind hk hn hm fin) hd
 ·rcases hk with hk |hk
  ·exact wpAny_Name (wpAny_loadName_cell I.ok.kind hk hc hcell fin) hd
  ·exact wpAny_Name (wpAny_loadName_free I.ok.kind hk hc hcell fin hcd) hd
theorem ac{i j pos}:PE X (.Constant (.int i) j pos) (tC (.int i)):=λ_ _ _ H _ I h=>wpAny_Constant_int ⟨.int i,H,I.tok _,⟨_,rfl⟩,h⟩
theorem dD{b j pos}:PE X (.Constant (.bool b) j pos) (tC (.bl b)):=λ_ _ _ H _ I h=>Constant_bool ⟨.bl b,H,I,rfl,h⟩
def Gl(X:Cx)(x:Str):Prop:=X.env.kindOf x=some .globalImplicit
theorem rk{E:Value->Shared->Prop}{pins:List (Addr×Obj)}{s:Shared}{σ:St}{H:Hp}{x:Str}{u:Value}{pos:Pos}{Q:Value->Shared->Prop}(I:Inv X pins σ H s)(hg:Gl X x)(hm:X.mg x=some u)(h:Q u s)
 (hd:(x == ("__debug__":Str))=false:=by decide):wpAny (model X.prog X.w) X.A (eval (.Name x pos) X.env) Q E s :=
 Calls.Name_function_global I.ok.kind hg (Calls.loadGlobal_global (by rw[I.ok.glob];exact I.mod.glob.keeps I.bk) hm h) hd
theorem dG{E:Value->Shared->Prop}{pins:List (Addr×Obj)}{s:Shared}{σ:St}{H:Hp}{x:Str}{u:Value}{pos:Pos}{Q:Value->Shared->Prop}(I:Inv X pins σ H s)(hg:Gl X x)(hm:X.mg x=none)(hv:bootBuiltins x=some u)(h:Q u s)
 (hn:x≠"__name__":=by decide) (hd:(x == ("__debug__":Str))=false:=by decide):wpAny (model X.prog X.w) X.A (eval (.Name x pos) X.env) Q E s:=by
 obtain⟨mb,h1,h2⟩:=I.mod.blt;exact Calls.Name_function_global I.ok.kind hg (Calls.loadGlobal_builtin (by rw[I.ok.glob];exact I.mod.glob.keeps I.bk) hm (by rw[I.ok.blt];exact h1.keeps I.bk) ((h2 x hn).trans hv) h) hd
theorem qq{x:Str}{v:V}{u:Value}{pos:Pos}(hg:Gl X x)(hm:X.mg x=none)(hv:bootBuiltins x=some u)(r:RelV v u)(hn:x≠"__name__":=by decide)(hd:(x == ("__debug__":Str))=false:=by decide):PE X (.Name x pos) (tC v) :=
 λ_ _ _ H _ I h=>dG I hg hm hv ⟨v,H,I,r,h⟩ hn hd
variable {a b:Expr}{ta tb:TE}{pos:Pos}
def tB(t:TE):TT:=λσ H Q=>t σ H λx H1=>∃c,x=.bl c/\Q c H1
theorem wB{e:Expr}{t:TE}(h:PE X e t)(he:∀whole,isTrue e X.env whole=(do let v <- whole;standAt e.pos;holding [v] (truthy v)):=by intro _;rfl):PT X e (tB t):=by intro pins s σ H Q I hw;refine isTrue_plain (thn (h pins s σ H _ I hw) λv s1 ⟨x,H1,I1,r1,q1⟩=>?_) (he _);obtain⟨d,rfl,q⟩:=q1;cases r1;exact wpAny_truthy_bool ⟨H1,I1,q⟩
variable {tA tB':TT}{rest:List Expr}
def gZ(t u:TT):TT:=λσ H Q=>t σ H λc H1=>if c=true then u σ H1 Q else Q false H1
def tOr(t u:TT):TT:=λσ H Q=>t σ H λc H1=>if c=true then Q true H1 else u σ H1 Q
def nS(t:TT):TT:=λσ H Q=>t σ H λc H1=>Q (!c) H1
theorem cS(ha:PT X a tA):PW X (.BoolOp .And [a] pos) tA:=by
 intro wh pins s σ H Q I h;refine isTrue_and (thn (ha pins s σ H Q I h) λc s1 e=>?_);cases c with
 |true=>exact isTrue_and_nil e
 |false=>exact e
theorem fN(ha:PT X a tA):PW X (.BoolOp .Or [a] pos) tA:=by
 intro wh pins s σ H Q I h;refine isTrue_or (thn (ha pins s σ H Q I h) λc s1 e=>?_);cases c with
 |false=>exact isTrue_or_nil e
 |true=>exact e
theorem cE(ha:PT X a tA)(hb:PW X (.BoolOp .And (b::rest) pos) tB'):PW X (.BoolOp .And (a::b::rest) pos) (gZ tA tB'):=by
 intro wh pins s σ H Q I h;refine isTrue_and (thn (ha pins s σ H _ I h) λc s1 ⟨H1,I1,q1⟩=>?_);cases c with
 |true=>exact hb wh pins s1 σ H1 Q I1 q1
 |false=>exact⟨H1,I1,q1⟩
theorem eI(ha:PT X a tA)(hb:PW X (.BoolOp .Or (b::rest) pos) tB'):PW X (.BoolOp .Or (a::b::rest) pos) (tOr tA tB'):=by
 intro wh pins s σ H Q I h;refine isTrue_or (thn (ha pins s σ H _ I h) λc s1 ⟨H1,I1,q1⟩=>?_);cases c with
 |true=>exact⟨H1,I1,q1⟩
 |false=>exact hb wh pins s1 σ H1 Q I1 q1
theorem wC(ha:PT X a tA):PT X (.UnaryOp .Not a pos) (nS tA):=by intro pins s σ H Q I h;exact isTrue_not (ha pins s σ H (λc H1=>Q (!c) H1) I h)
def nX(ta tb:TE):TE:=λσ H Q=>ta σ H λx H1=>∃c,x=.bl c/\if c=true then tb σ H1 Q else Q (.bl false) H1
theorem qo{op}{t:TE}(h:PE X a t):PE X (.BoolOp op [a] pos) t:=λpins s σ H Q I hw=>BoolOp_one (h pins s σ H Q I hw)
theorem iB(ha:PE X a ta)(hb:PE X (.BoolOp .And (b::rest) pos) tb):PE X (.BoolOp .And (a::b::rest) pos) (nX ta tb):=by
 intro pins s σ H Q I h;refine BoolOp_and (thn (ha pins s σ H _ I h) λv s1 ⟨x,H1,I1,r1,q1⟩=>?_);obtain⟨c,rfl,q1⟩:=q1;cases r1;refine wpAny_truthy_bool ?_;cases c with
 |true=>exact hb pins s1 σ H1 Q I1 q1
 |false=>exact⟨.bl false,H1,I1,rfl,q1⟩
end
noncomputable def SqL(K:PySem.W.Frag)(H:Hp)(a:Addr)(xs:List V):Prop :=
 Rd H a (.lst xs) \/
  ∃(o:Obj) (its:Array Value) (n:Nat),K.lookup a=some o/\o.cls=.type "list"/\o.dict=none/\o.data=.seq its n/\its.size<=sizeLine/\Vals xs its.toList
noncomputable def SqT(K:PySem.W.Frag)(H:Hp)(a:Addr)(xs:List V):Prop :=
 Rd H a (.tup xs) \/
  ∃(o:Obj) (its:Array Value) (n:Nat),K.lookup a=some o/\o.cls=.type "tuple"/\o.data=.seq its n/\its.size<=sizeLine/\Vals xs its.toList
noncomputable def CC:Value->Option V
 |.none=>some .non
 |.bool b=>some (.bl b)
 |.int i _=>some (.int i)
 |.str x _=>some (.str x)
 |.bytes b _=>some (.byt b)
 |.float b _=>some (.flt b)
 |.ref a=>some (.ref a)
 |.type n=>some (.ty n)
 |_=>none
theorem RelV.abs{x:V}{u:Value}(r:RelV x u):CC u=some x:=by
 cases x with
 |non=>cases r;rfl
 |bl _=>cases r;rfl
 |int _=>obtain⟨t,rfl⟩:=r;rfl
 |str _=>obtain⟨t,rfl⟩:=r;rfl
 |byt _=>obtain⟨t,rfl⟩:=r;rfl
 |flt _=>obtain⟨t,rfl⟩:=r;rfl
 |ref _=>cases r;rfl
 |ty _=>cases r;rfl
theorem RelV.inj{x y:V}{u:Value}(r:RelV x u)(q:RelV y u):x=y:=Option.some.inj (r.abs.symm.trans q.abs)
theorem Vals.inj:∀{xs ys:List V} {us:List Value},Vals xs us->Vals ys us->xs=ys
 |_,_,_,.nil,.nil=>rfl
 |_,_,_,.cons r t,.cons r' t'=>by rw[r.inj r',Vals.inj t t']
section
variable {X:Cx}{pins:List (Addr×Obj)}{σ:St}{H:Hp}{s:Shared}{a:Addr}{xs ys:List V}
theorem SqL.of{K:PySem.W.Frag}(h:H a=some (.lst xs)):SqL K H a xs:=.inl (.inl h)
theorem SqT.of{K:PySem.W.Frag}(h:H a=some (.tup xs)):SqT K H a xs:=.inl (.inl h)
theorem Inv.list(I:Inv X pins σ H s)(h:SqL X.K H a xs):∃its:List Value,Vals xs its/\PlainL s.heap a its.toArray/\xs.length<=sizeLine:=by
 rcases h with h |⟨o,its,n,hk,hc,hd,hs,hz,r⟩
 ·obtain⟨z,its,n,r,e⟩:=h.ok I.hok;exact⟨its,r,⟨_,n,e,rfl,rfl,rfl⟩,z⟩
 ·refine⟨its.toList,r,⟨o,n,I.kIn a o hk,hc,hd,by simpa using hs⟩,?_⟩;have e:=r.length;simp only[Array.length_toList]at e;omega
theorem Inv.tuple(I:Inv X pins σ H s)(h:SqT X.K H a xs):∃its:List Value,Vals xs its/\IsTup s.heap a its.toArray/\xs.length<=sizeLine:=by
 rcases h with h |⟨o,its,n,hk,hc,hs,hz,r⟩
 ·obtain⟨z,its,r,p⟩:=h.ok I.hok;exact⟨its,r,p,z⟩
 ·refine⟨its.toList,r,⟨o,I.kIn a o hk,hc,n,by simpa using hs⟩,?_⟩;have e:=r.length;simp only[Array.length_toList]at e;omega
theorem Inv.list_inj(I:Inv X pins σ H s)(h:SqL X.K H a xs)(h':SqL X.K H a ys):xs=ys:=by
 obtain⟨its,r,⟨o,n,e,_,_,d⟩,_⟩:=I.list h;obtain⟨its',r',⟨o',n',e',_,_,d'⟩,_⟩:=I.list h';rw[e]at e';cases e';rw[d]at d'
 injection d' with d1 _
 have:its=its':=by simpa using congrArg Array.toList d1
 subst this;exact r.inj r'
end
abbrev Cx.wish(X:Cx)(E:Value->Shared->Prop):Cx:={ X with xe:=E }
abbrev Cx.nox(X:Cx):Cx:=X.wish λ_ _=>False
theorem Cx.Ok.wish{X:Cx}(ok:X.Ok)(E:Value->Shared->Prop):(X.wish E).Ok :=
 ⟨ok.mod,ok.kind,ok.glob,ok.blt,ok.above,ok.inj,ok.has,ok.cab,ok.hd,ok.frames,ok.stk,ok.exf,ok.bs,ok.bsz,ok.noex,ok.exfs,ok.funs,ok.frf⟩
theorem Cx.Ok.unwish{X:Cx}{E:Value->Shared->Prop}(ok:(X.wish E).Ok):X.Ok :=
 ⟨ok.mod,ok.kind,ok.glob,ok.blt,ok.above,ok.inj,ok.has,ok.cab,ok.hd,ok.frames,ok.stk,ok.exf,ok.bs,ok.bsz,ok.noex,ok.exfs,ok.funs,ok.frf⟩
section
variable {X:Cx}{pins:List (Addr×Obj)}{σ:St}{H:Hp}{s:Shared}{E:Value->Shared->Prop}
theorem Inv.wish(I:Inv X pins σ H s)(E:Value->Shared->Prop):Inv (X.wish E) pins σ H s:=⟨I.ok.wish E,I.os,I.bare,I.base,I.loc,I.cell,I.free,I.freeC,I.pin,I.hok,I.len⟩
theorem Inv.unwish(I:Inv (X.wish E) pins σ H s):Inv X pins σ H s:=⟨I.ok.unwish,I.os,I.bare,I.base,I.loc,I.cell,I.free,I.freeC,I.pin,I.hok,I.len⟩
theorem SP.unwish{D:Ends}{f:Flow}{s':Shared}(h:SP (X.wish E) pins D f s'):SP X pins D f s':=by
 cases f with
 |next=>obtain⟨σ',H',I,q⟩:=h;exact⟨σ',H',I.unwish,q⟩
 |brk=>obtain⟨σ',H',I,q⟩:=h;exact⟨σ',H',I.unwish,q⟩
 |cont=>obtain⟨σ',H',I,q⟩:=h;exact⟨σ',H',I.unwish,q⟩
 |ret u=>obtain⟨v,σ',H',I,r,q⟩:=h;exact⟨v,σ',H',I.unwish,r,q⟩
theorem PE.nox{e:Expr}{t:TE}(h:PE X.nox e t):PE X e t:=λpins s σ H Q I hw =>wpAny_mono (h pins s σ H Q (I.wish _) hw) (λ_ _ ⟨v,H',I',r,q⟩=>⟨v,H',I'.unwish,r,q⟩) λ_ _ z=>False.elim z
theorem PT.nox{e:Expr}{t:TT}(h:PT X.nox e t):PT X e t:=λpins s σ H Q I hw =>wpAny_mono (h pins s σ H Q (I.wish _) hw) (λ_ _ ⟨H',I',q⟩=>⟨H',I'.unwish,q⟩) λ_ _ z=>False.elim z
theorem PSs.nox{st:List Stmt}{t:TS}(h:PSs X.nox st t):PSs X st t:=λpins s σ H D I hw =>wpAny_mono (h pins s σ H D (I.wish _) hw) (λ_ _ q=>q.unwish) λ_ _ z=>False.elim z
end
section
variable {X:Cx}{st:Stmt}{rest:List Stmt}{t u:TS}{e:Expr}{te:TE}{pos:Pos}
def gY:TS:=λD σ H=>D.nx σ H
def br(t u:TS):TS:=λD σ H=>t { D with nx:=u D } σ H
theorem aR:PSs X [] gY:=λ_ _ σ H _ I h=>wpAny_execs_nil ⟨σ,H,I,h⟩
theorem ag(h1:PS X st t)(h2:PSs X rest u):PSs X (st::rest) (br t u):=by
 intro pins s σ H D I h;refine wpAny_execs_cons (thn (h1 pins s σ H { D with nx:=u D } I h) λf s1 q=>?_);cases f with
 |next =>obtain⟨σ',H',I',q⟩:=q;exact h2 pins s1 σ' H' D I' q
 |ret v=>exact q
 |brk=>exact q
 |cont=>exact q
theorem ak(h1:PS X st t):PSs X [st] t:=by
 intro pins s σ H D I h;refine wpAny_execs_cons (thn (h1 pins s σ H D I h) λf s1 q=>?_);cases f with
 |next=>exact wpAny_execs_nil q
 |ret v=>exact q
 |brk=>exact q
 |cont=>exact q
theorem Inv.quiet{pins:List (Addr×Obj)}{σ:St}{H:Hp}{s:Shared}(I:Inv X pins σ H s):interactive X.env=false:=by simp[interactive,I.ok.kind]
def jr(te:TE):TS:=λD σ H=>te σ H λ_ H1=>D.nx σ H1
theorem dA(he:PE X e te)(hs:swapsWith e none pos.line X.env=pure false:=by rfl):PS X (.Expr e pos) (jr te):=by intro pins s σ H D I h;exact wpAny_Expr_any (thn (he pins s σ H _ I h) λv s1 ⟨x,H1,I1,r1,q1⟩=>⟨σ,H1,I1,q1⟩) I.quiet hs
def nR(te:TE):TS:=λD σ H=>te σ H D.rt
theorem aD(he:PE X e te):PS X (.Return (some e) pos) (nR te):=by intro pins s σ H D I h;exact wpAny_Return_some (thn (he pins s σ H _ I h) λv s1 ⟨x,H1,I1,r1,q1⟩=>⟨x,σ,H1,I1,r1,q1⟩)
def eu(c:TT)(t u:TS):TS:=λD σ H=>c σ H λb H1=>if b=true then t D σ H1 else u D σ H1
theorem aQ{c:Expr}{a b:List Stmt}{tc:TT}(hc:PT X c tc)(ha:PSs X a t)(hb:PSs X b u):PS X (.If c a b pos) (eu tc t u):=by
 intro pins s σ H D I h;refine wpAny_If (thn (hc pins s σ H _ I h) λd s1 ⟨H1,I1,q1⟩=>?_);cases d with
 |true=>exact ha pins s1 σ H1 D I1 q1
 |false=>exact hb pins s1 σ H1 D I1 q1
def uP:TS:=λ_ _ _=>False
theorem wD:PS X st uP:=λ_ _ _ _ _ _ h=>h.elim
end
abbrev TG:=V->St->Hp->(St->Hp->Prop)->Prop
abbrev TGs:=List V->St->Hp->(St->Hp->Prop)->Prop
noncomputable def PG(X:Cx)(target:Expr)(t:TG):Prop :=
 ∀(pins:List (Addr×Obj)) (s:Shared) (σ:St) (H:Hp) (v:V) (u:Value) (Q:St->Hp->Prop),Inv X pins σ H s->RelV v u->t v σ H Q ->
  wpAny (model X.prog X.w) X.A (assign target X.env u) (λ_ s'=>∃σ' H',Inv X pins σ' H' s'/\Q σ' H') X.xe s
noncomputable def PGs(X:Cx)(ts:List Expr)(t:TGs):Prop :=
 ∀(pins:List (Addr×Obj)) (s:Shared) (σ:St) (H:Hp) (vs:List V) (us:List Value) (Q:St->Hp->Prop),Inv X pins σ H s->Vals vs us->t vs σ H Q ->
  wpAny (model X.prog X.w) X.A (assignInOrder ((assignEach ts X.env).map (·.2)) us) (λ_ s'=>∃σ' H',Inv X pins σ' H' s'/\Q σ' H') X.xe s
abbrev mR:=V->V->V->Hp->(Hp->Prop)->Prop
noncomputable def ua(X:Cx)(t:mR):Prop :=
 ∀(pins:List (Addr×Obj)) (s:Shared) (σ:St) (H:Hp) (o i v:V) (ov iv u:Value) (Q:Hp->Prop),Inv X pins σ H s->RelV o ov->RelV i iv->RelV v u->t o i v H Q ->
  wpAny (model X.prog X.w) X.A (setItem ov iv u) (λ_ s'=>∃H',Inv X pins σ H' s'/\Q H') X.xe s
section
variable {X:Cx}{pos:Pos}
def dY(i:Nat):TG:=λv σ H Q=>Q (σ.set i (some v)) H
theorem aS{i:Nat}{x:Str}(hN:X.N.Nodup)(hi:X.N[i]?=some x)(hx:Loc X.env.scope x)(hf:X.fn x=true\/X.env.scope.names.lookup x=some .local:=by first |exact .inl rfl |exact .inr rfl |assumption):PG X (.Name x pos) (dY i):=by intro pins s σ H v u Q I r h;exact wpAny_assign_Name (n8 I hN hi hx r (λs' I'=>⟨_,H,I',h⟩) hf)
noncomputable def AS:TGs:=λvs σ H Q=>vs=[]/\Q σ H
noncomputable def AT(t:TG)(u:TGs):TGs:=λvs σ H Q=>∃v r,vs=v::r/\t v σ H λσ' H'=>u r σ' H' Q
theorem eT:PGs X [] AS:=by intro pins s σ H vs us Q I r h;obtain⟨e,h⟩:=h;subst e;cases r;exact assignInOrder_nil ⟨σ,H,I,h⟩
theorem cv{e:Expr}{es:List Expr}{t:TG}{u:TGs}(h1:PG X e t)(h2:PGs X es u)
 (hs:(assignEach (e::es) X.env).map (·.2)=assign e X.env::(assignEach es X.env).map (·.2):=by rfl):PGs X (e::es) (AT t u):=by
 intro pins s σ H vs us Q I r h;obtain⟨v,vr,e1,h⟩:=h;subst e1;cases r with
 |cons r rr =>rw[hs];refine assignInOrder_cons (thn (h1 pins s σ H _ _ _ I r h) λ_ s1 ⟨σ1,H1,I1,q1⟩=>?_);exact h2 pins s1 σ1 H1 _ _ Q I1 rr q1
def rZ(K:PySem.W.Frag)(n:Nat)(t:TGs):TG:=λv σ H Q=>∃a xs,v=.ref a/\SqT K H a xs/\xs.length=n/\t xs σ H Q
theorem fR{es:List Expr}{k:Nat}{t:TGs}{n:Nat}(hc:X.calm=true)(h:PGs X es t)
 (hn:(assignEach es X.env).length=n:=by rfl) (hst:(assignEach es X.env).findIdx? (·.1)=none:=by rfl):PG X (.Tuple es k pos) (rZ X.K n t):=by
 intro pins s σ H v u Q I r hw;obtain⟨a,xs,e1,hq,hl,hw⟩:=hw;subst e1;cases r;obtain⟨its,rv,ht,hz⟩:=I.tuple hq;refine assign_Tuple_tuple (I.ok.hd hc) ht (by simp[hn,<- hl,rv.length]) hst λh' hx=>?_
 have I1:Inv X pins σ H { s with heap:=h' }:=I.kept (t':=s.toks) λb o e=>hx b o (FG (Heap.lt_size e)) e
 exact h pins _ σ H xs _ Q I1 (by simpa using rv) hw
def AR(to ti:TE)(t:mR):TG:=λv σ H Q=>to σ H λo H1=>ti σ H1 λi H2=>t o i v H2 λH3=>Q σ H3
theorem cw{o i:Expr}{to ti:TE}{t:mR}(ho:PE X o to)(hi:PE X i ti)(hs:ua X t)
 (ha:∀v,assign (.Subscript o i pos) X.env v=(do
   let ov <- holding [v] (eval o X.env)
   let iv <- holding [v,ov] (eval i X.env)
   standAt pos
   holding [v,ov,iv] (setItem ov iv v)
   release [v,ov,iv] []):=by intro _;rfl):PG X (.Subscript o i pos) (AR to ti t):=by
 intro pins s σ H v u Q I r h;rw[ha];refine wpAny_bind (wpAny_holding (thn (ho pins s σ H _ I h) λov s1 ⟨x,H1,I1,r1,q1⟩=>?_));refine wpAny_bind (wpAny_holding (thn (hi pins s1 σ H1 _ I1 q1) λiv s2 ⟨y,H2,I2,r2,q2⟩=>?_));refine wpAny_bind (wpAny_standAt (wpAny_bind (wpAny_holding (thn (hs pins s2 σ H2 x y v ov iv u _ I2 r1 r2 r q2) λ_ s3 ⟨H3,I3,q3⟩=>?_))));exact wpAny_release ⟨σ,H3,I3,q3⟩
def fA(te:TE)(g:TG):TS:=λD σ H=>te σ H λx H1=>g x σ H1 D.nx
theorem cr{tg e:Expr}{te:TE}{g:TG}(he:PE X e te)(hg:PG X tg g)(hs:swapsWithSole [tg] e pos.line X.env=pure false:=by rfl)(hw:swappedStores [tg] e X.env=pure none:=by rfl)
 (h1:(assignEach [tg] X.env).map (·.2)=[assign tg X.env]:=by rfl):PS X (.Assign [tg] e pos) (fA te g):=by
 intro pins s σ H D I h;refine wpAny_Assign_stores (thn (he pins s σ H _ I h) λv s1 ⟨x,H1,I1,r1,q1⟩=>?_) hs hw;rw[h1];exact thn (hg pins s1 σ H1 x v _ I1 r1 q1) λ_ s2 q=>q
theorem aq{i:Nat}{x:Str}{e:Expr}{te:TE}{pos':Pos}(hN:X.N.Nodup)(hi:X.N[i]?=some x)(hx:Loc X.env.scope x)(he:PE X e te)(hs:swapsWith e (some (.Name x pos')) pos.line X.env=pure false:=by rfl)(hf:X.fn x=true\/X.env.scope.names.lookup x=some .local:=by first |exact .inl rfl |exact .inr rfl |assumption) :
 PS X (.Assign [.Name x pos'] e pos) (fA te (dY i)):=by
 intro pins s σ H D I h;refine wpAny_Assign_Name (thn (he pins s σ H _ I h) λv s1 ⟨y,H1,I1,r1,q1⟩=>?_) hs;exact n8 I1 hN hi hx r1 (λs2 I2=>⟨_,H1,I2,q1⟩) hf
end
section
variable {X:Cx}{pos:Pos}
def uL(c:TT)(tb:TS):TS:=λD σ H=>∃W:Nat->St->Hp->Prop,(∃m,W m σ H)/\∀m σ H,W m σ H ->
 c σ H λb H1=>if b=true then ∃N:St->Hp->Prop,(∀σ' H',N σ' H'->∃m',m'<m/\W m' σ' H')/\tb { D with nx:=N,ct:=N,bk:=D.nx } σ H1 else D.nx σ H1
theorem eJ{c:Expr}{body:List Stmt}{tc:TT}{tb:TS}(hp:PassesOwn (model X.prog X.w) X.A X.env X.xe)(hc:PT X c tc)(hb:PSs X body tb):PS X (.While c body [] pos) (uL tc tb):=by
 intro pins s σ H D I h;obtain⟨W,⟨m0,w0⟩,turn⟩:=h;refine wpAny_While (codeAny_whileLoop (λn s'=>∃σ' H',Inv X pins σ' H' s'/\W n σ' H') ?_ m0 ⟨σ,H,I,w0⟩);rintro n s1 ⟨σ1,H1,I1,w1⟩;refine wpAny_passesOwn hp (thn (hc pins s1 σ1 H1 _ I1 (turn n σ1 H1 w1)) λb s2 ⟨H2,I2,q2⟩=>?_);cases b with
 |true =>
  obtain⟨N,hN,q2⟩:=q2;rw[if_pos rfl];refine wpAny_passesOwn hp (thn (hb pins s2 σ1 H2 _ I2 q2) λf s3 q3=>?_);cases f with
  |next =>obtain⟨σ3,H3,I3,n3⟩:=q3;obtain⟨m',hm,w3⟩:=hN σ3 H3 n3;exact⟨m',hm,σ3,H3,I3,w3⟩
  |cont =>obtain⟨σ3,H3,I3,n3⟩:=q3;obtain⟨m',hm,w3⟩:=hN σ3 H3 n3;exact⟨m',hm,σ3,H3,I3,w3⟩
  |brk=>exact q3
  |ret v=>exact q3
 |false =>rw[if_neg GA];exact wpAny_execs_nil ⟨σ1,H2,I2,q2⟩
end
structure It where
 go:Nat->Hp->Prop
 yld:Nat->Hp->V->Hp->Prop
 stop:Nat->Hp->Prop
noncomputable def dr(X:Cx)(pins:List (Addr×Obj))(H:Hp)(b:Addr):Prop :=
 H b=none/\b≠X.env.locals/\b∉X.fs/\(b∈X.ex\/X.s₀.heap.objs.size<=b)/\(∀x c,X.env.cells.lookup x=some c->c≠b)/\∀p∈X.pn++pins,p.1≠b
theorem Inv.fpOk{X:Cx}{pins:List (Addr×Obj)}{σ:St}{H H':Hp}{s:Shared}{b:Addr}(I:Inv X pins σ H s)(hb:s.heap.objs.size<=b)(hn:H' b=none):dr X pins H' b:=by
 refine⟨hn,Nat.ne_of_gt (FF I.lt hb),I.nofs hb,.inr (FA I.sz hb),λx c e z=>?_,λp hp z=>?_⟩
 ·obtain⟨v,q⟩:=I.cell x c e;exact absurd (FF q.lt (by rw[z];exact hb)) (Gm _)
 ·exact absurd (FF (Heap.lt_size (I.pin p hp).1) (by rw[z];exact hb)) (Gm _)
structure Turn(P:Program)(w:World)(K:PySem.W.Frag)(tg:Expr)(J:It)(fp:List Addr)(it:Addr)(tn:Nat->Heap->Prop):Prop where
 mem:it∈fp
 obj:∀i h,tn i h->∀b∈fp,∃o,h.get? b=some o/\∀v,o.data≠.cell v
 keep:∀i h h',tn i h->(∀b∈fp,∀o,h.get? b=some o->h'.get? b=some o)->tn i h'
 item:∀(X:Cx),X.prog=P->X.w=w->X.K=K->X.calm=true->∀(i:Nat) (pins:List (Addr×Obj)) (s:Shared) (σ:St) (H:Hp) (E:Value->Shared->Prop),Inv X pins σ H s->(∀b∈fp,dr X pins H b)->tn i s.heap->J.go i H ->
  wpAny (model P w) X.A (pyNext (.ref it)) (λr s1=>∃u,r=some u /\
   wpAny (model P w) X.A (letOwnedTupleGo tg (.ref it) u) (λ_ s2=>∃x H',Inv X pins σ H' s2/\RelV x u/\J.yld i H x H'/\tn (i+1) s2.heap/\∀b∈fp,H' b=none) E s1) E s
 done:∀(X:Cx),X.prog=P->X.w=w->X.K=K->X.calm=true->∀(i:Nat) (pins:List (Addr×Obj)) (s:Shared) (σ:St) (H:Hp) (E:Value->Shared->Prop),Inv X pins σ H s->(∀b∈fp,dr X pins H b)->tn i s.heap->J.stop i H ->
  wpAny (model P w) X.A (pyNext (.ref it)) (λr s1=>r=none/\Inv X pins σ H s1) E s
 self:∀(A:Around) (i:Nat) (s:Shared) (Q:Value->Shared->Prop) (E:Value->Shared->Prop),tn i s.heap->Q (.ref it) s->wpAny (model P w) A (pyIter (.ref it)) Q E s
abbrev TI:=St->Hp->(It->Hp->Prop)->Prop
noncomputable def PIE(X:Cx)(pins:List (Addr×Obj))(σ:St)(tg:Expr)(R:It->Hp->Prop)(itv:Value)(s2:Shared):Prop :=
 ∃(it:Addr) (fp:List Addr) (tn:Nat->Heap->Prop) (J:It) (H':Hp),itv=.ref it/\Inv X pins σ H' s2/\Turn X.prog X.w X.K tg J fp it tn/\tn 0 s2.heap/\(∀b∈fp,dr X pins H' b)/\R J H'
noncomputable def PI(X:Cx)(tg iter:Expr)(wi:TI):Prop :=
 ∀(pins:List (Addr×Obj)) (s:Shared) (σ:St) (H:Hp) (R:It->Hp->Prop),Inv X pins σ H s->wi σ H R ->
  wpAny (model X.prog X.w) X.A (eval iter X.env) (λv s1=>wpAny (model X.prog X.w) X.A (pyIter v) (PIE X pins σ tg R) X.xe s1) X.xe s
theorem iU{M:Model}{A:Around}{E:Value->Shared->Prop}{s:Shared}{tg:Expr}{it:Addr}{u:Value}{o:Obj}{n:String}{vs:Array Value}{Q:Unit->Shared->Prop}(ho:s.heap.get? it=some o)(hc:o.cls=.type n)(hd:o.data=.fields vs)
 (hn:["enumerate","zip","dict_itemiterator","dict_reverseitemiterator","odict_iterator","itertools.zip_longest","itertools.pairwise"].contains n=false) (hQ:Q () s):wpAny M A (letOwnedTupleGo tg (.ref it) u) Q E s:=by
 unfold letOwnedTupleGo
 cases tg<;>first
  |exact wpAny_pure hQ
  | (cases u<;>first
      |exact wpAny_pure hQ
      | (refine wpAny_bind (wpAny_load ho ?_)
         rw[hc,hd];show wpAny M A (if(["enumerate","zip","dict_itemiterator","dict_reverseitemiterator","odict_iterator","itertools.zip_longest","itertools.pairwise"].contains n&&vs[0]? == some (rawInt _))=true then _ else _) Q E s;rw[if_neg (by intro h;rw[hn,Bool.false_and]at h;cases h)]
         exact wpAny_pure hQ))
noncomputable def Itl(K:PySem.W.Frag)(a:Addr):It :=
 ⟨λi H=>∃xs x,SqL K H a xs/\xs[i]?=some x,λi H x H'=>H'=H/\∀xs,SqL K H a xs->xs[i]?=some x,λi H=>∃xs,SqL K H a xs/\xs.length<=i⟩
noncomputable def Itr(lo:Int)(n:Nat):It:=⟨λi _=>i<n,λi H x H'=>H'=H/\x=.int (lo+i),λi _=>n<=i⟩
theorem uC{P:Program}{w:World}{K:PySem.W.Frag}{tg:Expr}(a it:Addr):Turn P w K tg (Itl K a) [it] it (λi h=>h.IsListIter it a i) where
 mem:=by simp
 obj:=λi h st b hb=>by
  have e:b=it:=by simpa using hb
  subst e;obtain⟨o,e,c,d⟩:=st;exact⟨o,e,λv z=>by rw[d]at z;cases z⟩
 keep:=λi h h' st k=>st.at λo e=>k it (by simp) o e
 item:=by
  intro X hP hw hK hc i pins s σ H E I hf st hg;subst hP hw hK;obtain⟨xs,x,hq,hx⟩:=hg;obtain⟨its,rv,p,hz⟩:=I.list hq;obtain⟨u,hu,ru⟩:=rv.get hx;obtain⟨f0,f1,f2,f3,f4,f5⟩:=hf it (by simp);refine wpAny_pyNext_list_item st p.isList (x:=u) (by simpa using hu) λh' st' sb=>?_
  have I1:Inv X pins σ H { s with heap:=h' }:=I.turned (t':=s.toks) (λb o hb e=>(sb.2 b hb).trans e) f0 f1 f3 f4 f5;obtain⟨o,e,c,d⟩:=id st';exact⟨u,rfl,iU (s:={ s with heap:=h' }) e c d (by decide) ⟨x,H,I1,ru,⟨rfl,λys hy=>by rw[I.list_inj hy hq];exact hx⟩,st',λb hb=>(hf b hb).1⟩⟩
 done:=by intro X hP hw hK hc i pins s σ H E I hf st hg;subst hP hw hK;obtain⟨xs,hq,hx⟩:=hg;obtain⟨its,rv,p,hz⟩:=I.list hq;obtain⟨f0,f1,f2,f3,f4,f5⟩:=hf it (by simp);have hl:=rv.length;exact wpAny_pyNext_list_end (I.ok.hd hc) st p.isList (by simp;omega) λh' eb=>⟨rfl,I.turned (t':=s.toks) (λb o hb e=>eb b o hb e) f0 f1 f3 f4 f5⟩
 self:=λ_ _ _ _ _ st h=>wpAny_pyIter_listiter st h
theorem uB{P:Program}{w:World}{K:PySem.W.Frag}{tg:Expr}(it:Addr)(lo:Int)(n:Nat):Turn P w K tg (Itr lo n) [it] it (λi h=>IsRangeIter h it (lo+(i:Nat)*1) ((n:Int)-(i:Nat)) 1) where
 mem:=by simp
 obj:=λi h st b hb=>by
  have e:b=it:=by simpa using hb
  subst e
  exact⟨_,st,λv z=>by
   have z':Data.fields _=Data.cell v:=z
   cases z'⟩
 keep:=λi h h' st k=>k it (by simp) _ st
 item:=by
  intro X hP hw hK hc i pins s σ H E I hf st hg;subst hP hw hK;obtain⟨f0,f1,f2,f3,f4,f5⟩:=hf it (by simp);have W:=Walks.range (prog:=X.prog) (w:=X.w) (I.ok.hd hc) it lo 1 n;refine W.item i s _ _ hg st λv h' tk hv st' kk=>?_
  obtain⟨t,rfl⟩:=hv;have I1:Inv X pins σ H { s with heap:=h',toks:=tk }:=I.turned (λb o hb e=>kk b o (by simpa using hb) e) f0 f1 f3 f4 f5;refine⟨_,rfl,iU (s:={ s with heap:=h',toks:=tk }) (n:="range_iterator") st' rfl rfl (by decide) ⟨.int (lo+i),H,I1,⟨t,?_⟩,⟨rfl,rfl⟩,st',λb hb=>(hf b hb).1⟩⟩;rw[FT]
 done:=by intro X hP hw hK hc i pins s σ H E I hf st hg;subst hP hw hK;obtain⟨f0,f1,f2,f3,f4,f5⟩:=hf it (by simp);exact wpAny_pyNext_range_end (I.ok.hd hc) st (by have:n<=i:=hg;omega) λh' eb=>⟨rfl,I.turned (t':=s.toks) (λb o hb e=>eb b o hb e) f0 f1 f3 f4 f5⟩
 self:=λ_ _ _ _ _ st h=>wpAny_pyIter_rangeiter st h
section
variable {X:Cx}{tg:Expr}
def rK(K:PySem.W.Frag)(tl:TE):TI:=λσ H R=>tl σ H λx H1=>∃a,x=.ref a/\(∃xs,SqL K H1 a xs)/\R (Itl K a) H1
theorem wY{l:Expr}{tl:TE}(hl:PE X l tl):PI X tg l (rK X.K tl):=by
 intro pins s σ H R I h;refine thn (hl pins s σ H _ I h) λv s1 ⟨x,H1,I1,r1,q1⟩=>?_
 obtain⟨a,e,⟨xs,hq⟩,q⟩:=q1;subst e;cases r1;obtain⟨its,rv,p,hz⟩:=I1.list hq;refine wpAny_pyIter_list p.isList ?_;refine⟨s1.heap.objs.size,[s1.heap.objs.size],_,_,H1,rfl,I1.kept (t':=s1.toks) λb o e=>Heap.get?_push_of_some _ e,uC a _,⟨_,Heap.get?_push_size _ rfl,rfl,rfl⟩,λb hb=>?_,q⟩;have e:b=s1.heap.objs.size:=by simpa using hb
 subst e;exact I1.fpOk (Fl _) (I1.hok.fresh (Fl _))
theorem pO{pins:List (Addr×Obj)}{σ:St}{H:Hp}{s:Shared}{R:It->Hp->Prop}{E:Value->Shared->Prop}{lo hi:Int}{t u v:Tok}{tk:Nat}(I:Inv X pins σ H s)(h1 : -(2^62)<=lo)(h2:lo<2^62)(h3 : -(2^62)<=hi)(h4:hi<2^62)
 (q:R (Itr lo (hi-lo).toNat) H):wpAny (model X.prog X.w) X.A (pyIter (.ref s.heap.objs.size)) (PIE X pins σ tg R) E { s with heap:=s.heap.push { cls:=.type "range",data:=.fields #[.int lo t,.int hi u,.int 1 v] },toks:=tk }:=by
 refine wpAny_pyIter_range (IsRange.new ..) (small_one h1 h2 h3 h4) ?_;have I1:Inv X pins σ H { s with heap:=s.heap.push { cls:=.type "range",data:=.fields #[.int lo t,.int hi u,.int 1 v] },toks:=tk }:=I.kept λb o e=>Heap.get?_push_of_some _ e
 refine⟨(s.heap.push { cls:=.type "range",data:=.fields #[.int lo t,.int hi u,.int 1 v] }).objs.size,[(s.heap.push { cls:=.type "range",data:=.fields #[.int lo t,.int hi u,.int 1 v] }).objs.size],_,_,H,rfl,
  I1.kept (t':=tk) λb o e=>Heap.get?_push_of_some _ e,uB _ lo (hi-lo).toNat,?_,λb hb=>?_,q⟩
 ·have e1:lo+((0:Nat):Int)*1=lo:=by simp
  have e2:(((hi-lo).toNat:Nat):Int)-((0:Nat):Int)=Builtin.Range.rangeSize lo hi 1:=by rw[rangeSize_one];split<;>omega
  show IsRangeIter _ _ (lo+((0:Nat):Int)*1) ((((hi-lo).toNat:Nat):Int)-((0:Nat):Int)) 1;rw[e1,e2];exact Heap.get?_push_size _ rfl
 ·have e:b=(s.heap.push { cls:=.type "range",data:=.fields #[.int lo t,.int hi u,.int 1 v] }).objs.size:=by simpa using hb
  subst e;exact I1.fpOk (Fl _) (I1.hok.fresh (Fl _))
def Az(ta:TA):TI:=λσ H R=>ta σ H λvs H1=>∃j:Int,vs=[.int j] /\ -(2^62)<=j/\j<2^62/\R (Itr 0 j.toNat) H1
def Ay(ta:TA):TI:=λσ H R=>ta σ H λvs H1=>∃i j:Int,vs=[.int i,.int j]/\(-(2^62)<=i/\i<2^62 /\ -(2^62)<=j/\j<2^62)/\R (Itr i (j-i).toNat) H1
theorem gA{a:Expr}{ta:TA}{p pos:Pos}(hg:Gl X "range")(hm:X.mg "range"=none)(ha:PA X [a] ta)(hs:starEach [a] X.env=[(false,eval a X.env)]:=by rfl):PI X tg (.Call (.Name "range" p) [a] [] pos) (Az ta):=by
 intro pins s σ H R I h;refine Call_ (dG I hg hm boot_range (PyProof.Rows.callWith_type1 (thn (ha pos pins s σ H _ I h) λus s1 ⟨vs,H1,I1,r1,q1⟩=>?_) hs rfl));obtain⟨j,e,q1,q2,q⟩:=q1;subst e;cases r1 with
 |cons r rr =>cases rr;obtain⟨t,rfl⟩:=r;exact call_range_1 (pO I1 (by omega) (by omega) q1 q2 (by simpa using q))
theorem wX{a b:Expr}{ta:TA}{p pos:Pos}(hg:Gl X "range")(hm:X.mg "range"=none)(ha:PA X [a,b] ta)(hs:starEach [a,b] X.env=[(false,eval a X.env),(false,eval b X.env)]:=by rfl)(hs2:starEach [b] X.env=[(false,eval b X.env)]:=by rfl) :
 PI X tg (.Call (.Name "range" p) [a,b] [] pos) (Ay ta):=by
 intro pins s σ H R I h;refine Call_ (dG I hg hm boot_range (PyProof.Rows.callWith_type1 (thn (ha pos pins s σ H _ I h) λus s1 ⟨vs,H1,I1,r1,q1⟩=>?_) (by rw[hs,hs2]) (by rw[hs2];rfl)));obtain⟨i,j,e,⟨q1,q2,q3,q4⟩,q⟩:=q1;subst e;cases r1 with
 |cons r rr =>
  cases rr with
  |cons r' rr =>cases rr;obtain⟨t,rfl⟩:=r;obtain⟨t',rfl⟩:=r';exact call_range_2 (pO I1 q1 q2 q3 q4 q)
def uT(wi:TI)(g:TG)(tb:TS):TS:=λD σ H=>wi σ H λJ H1=>∃W:Nat->Nat->St->Hp->Prop,(∃m,W 0 m σ H1)/\∀i m σ H,W i m σ H ->
 (J.stop i H/\D.nx σ H)\/(J.go i H/\∃N:St->Hp->Prop,(∀σ' H',N σ' H'->∃m',m'<m/\W (i+1) m' σ' H')/\∀x H',J.yld i H x H'->g x σ H' λσ2 H2=>tb { D with nx:=N,ct:=N,bk:=D.nx } σ2 H2)
noncomputable def iA(fp:List Addr)(h:Heap):List (Addr×Obj):=fp.filterMap λb=>(h.get? b).map λo=>(b,o)
theorem iH{fp:List Addr}{h:Heap}{b:Addr}{o:Obj}(hb:b∈fp)(e:h.get? b=some o):(b,o)∈iA fp h:=List.mem_filterMap.mpr ⟨b,hb,by rw[e];rfl⟩
theorem yt{fp:List Addr}{h:Heap}{p:Addr×Obj}(hp:p∈iA fp h):p.1∈fp/\h.get? p.1=some p.2:=by
 obtain⟨b,hb,e⟩:=List.mem_filterMap.mp hp;cases q:h.get? b with
 |none=>rw[q]at e;cases e
 |some o =>rw[q]at e;have e':(b,o)=p:=Option.some.inj e;subst e';exact⟨hb,q⟩
theorem Inv.pinned{pins:List (Addr×Obj)}{σ:St}{H:Hp}{s:Shared}{fp:List Addr}(I:Inv X pins σ H s)(hf:∀b∈fp,dr X pins H b)(ho:∀b∈fp,∃o,s.heap.get? b=some o/\∀v,o.data≠.cell v):Inv X (pins++iA fp s.heap) σ H s :=
 I.pins_of λp hp=>(FY.mp hp).elim (λz=>I.pin p (FO _ z)) λz=>by obtain⟨hb,e⟩:=yt z;obtain⟨f0,f1,f2,_⟩:=hf p.1 hb;obtain⟨o,e',d⟩:=ho p.1 hb;rw[e]at e';cases e';exact⟨e,f0,f1,f2,d⟩
theorem Inv.unpinned{pins pl:List (Addr×Obj)}{σ:St}{H:Hp}{s:Shared}(I:Inv X (pins++pl) σ H s):Inv X pins σ H s:=I.pins_of λp hp=>I.pin p (FO _ (GJ _ hp))
theorem ca{iter:Expr}{body:List Stmt}{wi:TI}{g:TG}{tb:TS}{pos:Pos}(hp:PassesOwn (model X.prog X.w) X.A X.env X.xe)(hc:X.calm=true)(hi:PI X tg iter wi)(hg:PG X tg g)(hb:PSs X body tb)
 (hs:∀x,foldedSetIterable iter X.env x=pure x:=by intro _;rfl):PS X (.For tg iter body [] pos) (uT wi g tb):=by
 intro pins s σ H D I h;refine wpAny_For (thn (hi pins s σ H _ I h) λv s1 h1=>thn h1 λitv s2 h2=>?_) hs;obtain⟨it,fp,tn,J,H2,e,I2,T,st2,f2,W,⟨m0,w0⟩,turn⟩:=h2;subst e;have stat:∀{H':Hp},(∀b∈fp,H' b=none)->∀b∈fp,dr X pins H' b:=λhn b hb=>⟨hn b hb,(f2 b hb).2⟩
 refine codeAny_forLoop_any (λn s'=>∃i σ' H',Inv X pins σ' H' s'/\tn i s'.heap/\(∀b∈fp,H' b=none)/\W i n σ' H') ?_ m0 ⟨0,σ,H2,I2,st2,λb hb=>(f2 b hb).1,w0⟩;rintro n s3 ⟨i,σ3,H3,I3,st3,fr3,w3⟩;rcases turn i n σ3 H3 w3 with⟨stop,qn⟩ |⟨go,N,hN,step⟩
 ·refine wpAny_passesOwn hp (thn (T.done X rfl rfl rfl hc i pins s3 σ3 H3 X.xe I3 (stat fr3) st3 stop) λr s4 ⟨hr,I4⟩=>?_);subst hr;exact wpAny_execs_nil ⟨σ3,H3,I4,qn⟩
 ·refine wpAny_passesOwn hp (thn (T.item X rfl rfl rfl hc i pins s3 σ3 H3 X.xe I3 (stat fr3) st3 go) λr s4 ⟨u,hr,h4⟩=>?_);subst hr;refine wpAny_passesOwn hp (thn h4 λ_ s5 ⟨x,H5,I5,r5,y5,st5,fr5⟩=>?_);have I5':=I5.pinned (stat fr5) (T.obj _ _ st5);refine wpAny_passesOwn hp (thn (hg _ s5 σ3 H5 x u _ I5' r5 (step x H5 y5)) λ_ s6 ⟨σ6,H6,I6,q6⟩=>?_);refine wpAny_passesOwn hp (thn (hb _ s6 σ6 H6 _ I6 q6) λf s7 q7=>?_)
  have again:∀{σ7:St} {H7:Hp},Inv X (pins++iA fp s5.heap) σ7 H7 s7->N σ7 H7->∃m,m<n/\∃i σ' H',Inv X pins σ' H' s7/\tn i s7.heap/\(∀b∈fp,H' b=none)/\W i m σ' H':=λ{σ7 H7} I7 n7=>by obtain⟨m',hm,w7⟩:=hN σ7 H7 n7;refine⟨m',hm,i+1,σ7,H7,I7.unpinned,T.keep _ _ _ st5 λb hb o e=>(I7.pin (b,o) (FO _ (FO _ (iH hb e)))).1,λb hb=>?_,w7⟩;obtain⟨o,e,d⟩:=T.obj _ _ st5 b hb;exact(I7.pin (b,o) (FO _ (FO _ (iH hb e)))).2.1
  cases f with
  |next=>obtain⟨σ7,H7,I7,n7⟩:=q7;exact again I7 n7
  |cont=>obtain⟨σ7,H7,I7,n7⟩:=q7;exact again I7 n7
  |brk=>obtain⟨σ7,H7,I7,q7⟩:=q7;exact⟨σ7,H7,I7.unpinned,q7⟩
  |ret v=>obtain⟨x7,σ7,H7,I7,r7,q7⟩:=q7;exact⟨x7,σ7,H7,I7.unpinned,r7,q7⟩
end
theorem dJ{K:PySem.W.Frag}{a:Addr}{xs:List V}{g:TG}{tb:TS}{D:Ends}{σ:St}{H:Hp}(Pv:Nat->St->Hp->Prop)(h0:Pv 0 σ H)(hl:∀i σ H,i<=xs.length->Pv i σ H->SqL K H a xs)
 (hs:∀i x σ H,xs[i]?=some x->Pv i σ H->g x σ H λσ2 H2=>tb { D with nx:=Pv (i+1),ct:=Pv (i+1),bk:=D.nx } σ2 H2) (hd:∀σ H,Pv xs.length σ H->D.nx σ H) :
 ∃W:Nat->Nat->St->Hp->Prop,(∃m,W 0 m σ H)/\∀i m σ H,W i m σ H ->
  ((Itl K a).stop i H/\D.nx σ H)\/((Itl K a).go i H/\∃N:St->Hp->Prop,(∀σ' H',N σ' H'->∃m',m'<m/\W (i+1) m' σ' H')/\∀x H',(Itl K a).yld i H x H'->g x σ H' λσ2 H2=>tb { D with nx:=N,ct:=N,bk:=D.nx } σ2 H2):=by
 refine⟨λi m σ H=>m=xs.length-i/\i<=xs.length/\Pv i σ H,⟨xs.length,by simp,Fn _,h0⟩,?_⟩;rintro i m σ H ⟨rfl,hi,p⟩;have q:=hl i σ H hi p;by_cases hlt:i<xs.length
 ·refine .inr ⟨⟨xs,xs[i],q,by simp[hlt]⟩,Pv (i+1),λσ' H' p'=>⟨xs.length-(i+1),by omega,rfl,hlt,p'⟩,λx H' y=>?_⟩;obtain⟨e,y⟩:=y;subst e;exact hs i x σ _ (y xs q) p
 ·have e:i=xs.length:=by omega
  subst e;exact .inl ⟨⟨xs,q,Fl _⟩,hd σ H p⟩
theorem r9{lo:Int}{n:Nat}{g:TG}{tb:TS}{D:Ends}{σ:St}{H:Hp}(Pv:Nat->St->Hp->Prop)(h0:Pv 0 σ H)
 (hs:∀i σ H,i<n->Pv i σ H->g (.int (lo+i)) σ H λσ2 H2=>tb { D with nx:=Pv (i+1),ct:=Pv (i+1),bk:=D.nx } σ2 H2) (hd:∀σ H,Pv n σ H->D.nx σ H) :
 ∃W:Nat->Nat->St->Hp->Prop,(∃m,W 0 m σ H)/\∀i m σ H,W i m σ H ->
  ((Itr lo n).stop i H/\D.nx σ H)\/((Itr lo n).go i H/\∃N:St->Hp->Prop,(∀σ' H',N σ' H'->∃m',m'<m/\W (i+1) m' σ' H')/\∀x H',(Itr lo n).yld i H x H'->g x σ H' λσ2 H2=>tb { D with nx:=N,ct:=N,bk:=D.nx } σ2 H2):=by
 refine⟨λi m σ H=>m=n-i/\i<=n/\Pv i σ H,⟨n,by simp,Fn _,h0⟩,?_⟩;rintro i m σ H ⟨rfl,hi,p⟩;by_cases hlt:i<n
 ·refine .inr ⟨hlt,Pv (i+1),λσ' H' p'=>⟨n-(i+1),by omega,rfl,hlt,p'⟩,λx H' y=>?_⟩;obtain⟨e,y⟩:=y;subst e y;exact hs i σ _ hlt p
 ·have e:i=n:=by omega
  subst e;exact .inl ⟨Fl _,hd σ H p⟩
abbrev R2:=V->V->Hp->VK->Prop
noncomputable def OpR(X:Cx)(f:Value->Value->Sem Value)(r:R2):Prop :=
 ∀(pins:List (Addr×Obj)) (s:Shared) (σ:St) (H:Hp) (x y:V) (v u:Value) (Q:VK),Inv X pins σ H s->RelV x v->RelV y u->r x y H Q ->
  wpAny (model X.prog X.w) X.A (f v u) (EP X pins σ Q) X.xe s
noncomputable def UnR(X:Cx)(f:Value->Sem Value)(r:V->Hp->VK->Prop):Prop :=
 ∀(pins:List (Addr×Obj)) (s:Shared) (σ:St) (H:Hp) (x:V) (v:Value) (Q:VK),Inv X pins σ H s->RelV x v->r x H Q ->
  wpAny (model X.prog X.w) X.A (f v) (EP X pins σ Q) X.xe s
noncomputable def CallR(X:Cx)(f:Value)(r:List V->Hp->VK->Prop):Prop :=
 ∀(pins:List (Addr×Obj)) (s:Shared) (σ:St) (H:Hp) (xs:List V) (us:List Value) (Q:VK),Inv X pins σ H s->Vals xs us->r xs H Q ->
  wpAny (model X.prog X.w) X.A (call f us) (EP X pins σ Q) X.xe s
def tOp(r:R2)(ta tb:TE):TE:=λσ H Q=>ta σ H λx H1=>tb σ H1 λy H2=>r x y H2 Q
def tUn(r:V->Hp->VK->Prop)(ta:TE):TE:=λσ H Q=>ta σ H λx H1=>r x H1 Q
def rI(C:Int->Int->Prop)(g:Int->Int->V):R2:=λx y H Q=>∃i j,x=.int i/\y=.int j/\C i j/\Q (g i j) H
def rI0(g:Int->Int->V):R2:=λx y H Q=>∃i j,x=.int i/\y=.int j/\Q (g i j) H
noncomputable def rU(g:Int->V):V->Hp->VK->Prop:=λx H Q=>∃i,x=.int i/\Q (g i) H
section
variable {X:Cx}{a b c:Expr}{ta tb tc:TE}{pos:Pos}
theorem mE(ha:PE X a ta)(hb:PE X b tb){pins:List (Addr×Obj)}{s:Shared}{σ:St}{H:Hp}{R:V->V->Hp->Prop}(I:Inv X pins σ H s)
 (h:ta σ H λx H1=>tb σ H1 λy H2=>R x y H2) {Q:Value->Shared->Prop} {f:Value->Value->Sem Value}
 (hf:∀v u s2 x y H2,Inv X pins σ H2 s2->RelV x v->RelV y u->R x y H2->wpAny (model X.prog X.w) X.A (f v u) Q X.xe s2) :
 wpAny (model X.prog X.w) X.A (eval a X.env) (λv s₁=>wpAny (model X.prog X.w) X.A (eval b X.env) (λu s₂=>wpAny (model X.prog X.w) X.A (f v u) Q X.xe s₂) X.xe s₁) X.xe s:=by
 refine thn (ha pins s σ H _ I h) λv s1 ⟨x,H1,I1,r1,q1⟩=>?_
 refine thn (hb pins s1 σ H1 _ I1 q1) λu s2 ⟨y,H2,I2,r2,q2⟩=>?_
 exact hf v u s2 x y H2 I2 r1 r2 q2
theorem af{op:Operator}{r:R2}(ho:OpR X (binaryOp op) r)(ha:PE X a ta)(hb:PE X b tb):PE X (.BinOp a op b pos) (tOp r ta tb):=by intro pins s σ H Q I h;exact wpAny_BinOp (mE ha hb I h λv u s2 x y H2 I2 rx ry q=>ho pins s2 σ H2 x y v u Q I2 rx ry q)
theorem cx{op:UnaryOp}{r:V->Hp->VK->Prop}(ho:UnR X (unaryOp op) r)(ha:PE X a ta):PE X (.UnaryOp op a pos) (tUn r ta):=by intro pins s σ H Q I h;exact UnaryOp_ (thn (ha pins s σ H _ I h) λv s1 ⟨x,H1,I1,r1,q1⟩=>ho pins s1 σ H1 x v Q I1 r1 q1)
theorem opI{f:Value->Value->Sem Value}{C:Int->Int->Prop}{g:Int->Int->Int}
 (rule:∀(i j:Int) (t u:Tok) (s:Shared) (Q:Value->Shared->Prop) (E:Value->Shared->Prop),C i j->Q (.int (g i j) s.toks) { s with toks:=s.toks+1 }->wpAny (model X.prog X.w) X.A (f (.int i t) (.int j u)) Q E s) :
 OpR X f (rI C λi j=>.int (g i j)):=by
 intro pins s σ H x y v u Q I rx ry h;obtain⟨i,j,rfl,rfl,hc,q⟩:=h;obtain⟨t,rfl⟩:=rx;obtain⟨t',rfl⟩:=ry;exact rule i j t t' s _ _ hc ⟨.int (g i j),H,I.tok _,⟨_,rfl⟩,q⟩
theorem qw{f:Value->Value->Sem Value}{g:Int->Int->Int}
 (rule:∀(i j:Int) (t u:Tok) (s:Shared) (Q:Value->Shared->Prop) (E:Value->Shared->Prop),Q (.int (g i j) s.toks) { s with toks:=s.toks+1 }->wpAny (model X.prog X.w) X.A (f (.int i t) (.int j u)) Q E s) :
 OpR X f (rI0 λi j=>.int (g i j)):=by
 intro pins s σ H x y v u Q I rx ry h;obtain⟨i,j,rfl,rfl,q⟩:=h;obtain⟨t,rfl⟩:=rx;obtain⟨t',rfl⟩:=ry;exact rule i j t t' s _ _ ⟨.int (g i j),H,I.tok _,⟨_,rfl⟩,q⟩
theorem fW{f:Value->Value->Sem Value}{g:Int->Int->Bool}
 (rule:∀(i j:Int) (t u:Tok) (s:Shared) (Q:Value->Shared->Prop) (E:Value->Shared->Prop),Q (.bool (g i j)) s->wpAny (model X.prog X.w) X.A (f (.int i t) (.int j u)) Q E s) :
 OpR X f (rI0 λi j=>.bl (g i j)):=by
 intro pins s σ H x y v u Q I rx ry h;obtain⟨i,j,rfl,rfl,q⟩:=h;obtain⟨t,rfl⟩:=rx;obtain⟨t',rfl⟩:=ry;exact rule i j t t' s _ _ ⟨.bl (g i j),H,I,rfl,q⟩
def CMul(i j:Int):Prop:=(-(2^64)<i/\i<2^64)\/(-(2^64)<j/\j<2^64)
theorem CMul.ok{i j:Int}(h:CMul i j):IntMulOk i j:=by
 rcases h with⟨h1,h2⟩ |⟨h1,h2⟩
 ·exact .of_left (intBits_le_64 h1 h2)
 ·exact .of_right (intBits_le_64 h1 h2)
theorem aZ:OpR X (binaryOp .Add) (rI0 λi j=>.int (i+j)):=qw λ_ _ _ _ _ _ _ q=>add_int q
theorem aV:OpR X (binaryOp .Sub) (rI0 λi j=>.int (i-j)):=qw λ_ _ _ _ _ _ _ q=>sub_int q
theorem fU:OpR X (binaryOp .Mult) (rI CMul λi j=>.int (i*j)):=opI λ_ _ _ _ _ _ _ hc q=>mul_int q hc.ok
theorem xj:OpR X (binaryOp .Mod) (rI (λ_ j=>0<j) λi j=>.int (i%j)):=opI λi j _ _ _ _ _ hc q=>by have h1:(0:Int)<j:=hc;exact mod_int' (by omega) (by rw[Int.fmod_eq_emod_of_nonneg i (by omega)];exact q)
theorem unI{f:Value->Sem Value}{g:Int->Int}
 (rule:∀(i:Int) (t:Tok) (s:Shared) (Q:Value->Shared->Prop) (E:Value->Shared->Prop),Q (.int (g i) s.toks) { s with toks:=s.toks+1 }->wpAny (model X.prog X.w) X.A (f (.int i t)) Q E s) :
 UnR X f (rU λi=>.int (g i)):=by
 intro pins s σ H x v Q I rx h;obtain⟨i,rfl,q⟩:=h;obtain⟨t,rfl⟩:=rx;exact rule i t s _ _ ⟨.int (g i),H,I.tok _,⟨_,rfl⟩,q⟩
theorem cp:UnR X (unaryOp .USub) (rU λi=>.int (-i)):=unI λ_ _ _ _ _ q=>neg_int q
end
section
variable {X:Cx}{a b c:Expr}{ta tb tc:TE}{pos:Pos}
theorem cF:OpR X (compareOp .Lt) (rI0 λi j=>.bl (decide (i<j))):=fW λ_ _ _ _ _ _ _ q=>lt_int q
theorem fV:OpR X (compareOp .LtE) (rI0 λi j=>.bl (decide (i<=j))):=fW λ_ _ _ _ _ _ _ q=>le_int q
theorem cT:OpR X (compareOp .Gt) (rI0 λi j=>.bl (decide (j<i))):=fW λ_ _ _ _ _ _ _ q=>gt_int q
theorem qu:OpR X (compareOp .GtE) (rI0 λi j=>.bl (decide (j<=i))):=fW λ_ _ _ _ _ _ _ q=>ge_int q
theorem OpR.or{f:Value->Value->Sem Value}{r r':R2}(h:OpR X f r)(h':OpR X f r'):OpR X f (λx y H Q=>r x y H Q\/r' x y H Q):=by
 intro pins s σ H x y v u Q I rx ry q;rcases q with q |q
 ·exact h pins s σ H x y v u Q I rx ry q
 ·exact h' pins s σ H x y v u Q I rx ry q
theorem ay(b:Expr){op:CmpOp}(h:op≠.In:=by decide)(h2:op≠.NotIn:=by decide):behindInMarks op b=false:=by
 have e1:(op == CmpOp.In)=false:=by cases op<;>first |rfl |exact absurd rfl h
 have e2:(op == CmpOp.NotIn)=false:=by cases op<;>first |rfl |exact absurd rfl h2
 cases b<;>simp[behindInMarks,e1,e2]
theorem gB{op:CmpOp}{r:R2}(ho:OpR X (compareOp op) r)(ha:PE X a ta)(hb:PE X b tb)(hm:behindInMarks op b=false):PE X (.Compare a [op] [b] pos) (tOp r ta tb):=by intro pins s σ H Q I h;exact wpAny_Compare1 (mE ha hb I h λv u s2 x y H2 I2 rx ry q=>ho pins s2 σ H2 x y v u Q I2 rx ry q) hm
def jq(t:TE):TT:=λσ H Q=>t σ H λx H'=>∃k,x=.bl k/\Q k H'
theorem aC{op:CmpOp}{r:R2}(ho:OpR X (compareOp op) r)(ha:PE X a ta)(hb:PE X b tb)(hm:behindInMarks op b=false):PT X (.Compare a [op] [b] pos) (jq (tOp r ta tb)):=by
 intro pins s σ H Q I h
 refine wpAny_isTrue_Compare1 (thn (ha pins s σ H _ I h) λv s1 ⟨x,H1,I1,r1,q1⟩=>thn (hb pins s1 σ H1 _ I1 q1) λu s2 ⟨y,H2,I2,r2,q2⟩ =>thn (ho pins s2 σ H2 x y v u _ I2 r1 r2 q2) λc s3 ⟨z,H3,I3,r3,k,e,q3⟩=>?_) hm
 subst e;cases r3;exact wpAny_truthy_bool ⟨H3,I3,q3⟩
theorem iM:(sizeLine:Nat)<2^63:=by rw[sizeLine_eq];decide
theorem fy{x:V}{us:List Value}(r:Vals [x] us):∃u,us=[u]/\RelV x u:=by
 cases r with
 |cons r1 r2=>cases r2;exact⟨_,rfl,r1⟩
theorem ut{x y:V}{us:List Value}(r:Vals [x,y] us):∃u w',us=[u,w']/\RelV x u/\RelV y w':=by
 cases r with
 |cons r1 r2 =>
  cases r2 with
  |cons r3 r4=>cases r4;exact⟨_,_,rfl,r1,r3⟩
theorem gP:CallR X (.builtin "abs") (λxs H Q=>∃i,xs=[.int i]/\Q (.int (if i<0 then -i else i)) H):=by intro pins s σ H xs us Q I r h;obtain⟨i,rfl,q⟩:=h;obtain⟨u,rfl,t,rfl⟩:=fy r;exact call_abs_int λu tk=>⟨.int (if i<0 then -i else i),H,I.tok _,⟨_,rfl⟩,q⟩
theorem BS(hc:X.calm=true):CallR X (.builtin "max") (λxs H Q=>∃i j,xs=[.int i,.int j]/\Q (.int (if j>i then j else i)) H):=by
 intro pins s σ H xs us Q I r h;obtain⟨i,j,rfl,q⟩:=h;obtain⟨u,w',rfl,⟨t,rfl⟩,⟨t',rfl⟩⟩:=ut r;refine max_two_ints (I.ok.hd hc) λh' tk k=>⟨_,H,I.kept k,?_,q⟩
 by_cases hj:j>i
 ·rw[if_pos hj,if_pos hj];exact⟨_,rfl⟩
 ·rw[if_neg hj,if_neg hj];exact⟨_,rfl⟩
theorem BX:CallR X (.type "int") (λxs H Q=>(∃i,xs=[.int i]/\Q (.int i) H)\/∃k,xs=[.bl k]/\Q (.int (if k then 1 else 0)) H):=by
 intro pins s σ H xs us Q I r h;rcases h with⟨i,rfl,q⟩ |⟨k,rfl,q⟩
 ·obtain⟨u,rfl,t,rfl⟩:=fy r;exact call_int_int ⟨.int i,H,I,⟨_,rfl⟩,q⟩
 ·obtain⟨u,rfl,r1⟩:=fy r;cases r1;exact call_int_bool ⟨.int (if k then 1 else 0),H,I.tok _,⟨_,rfl⟩,q⟩
end
structure ObjM(h:Heap)(x dx C:Addr)(mA:Str->Option Value):Prop where
 obj:h.get? x=some (PySem.W.instObj C dx)
 ns:h.Ns1 dx mA
 ne:dx≠x
theorem zy{h:Heap}{dx:Addr}{mA:Str->Option Value}(n:h.Ns1 dx mA):∃od,h.get? dx=some od/\∀name,PySem.W.lookIn name od=some (mA name):=by
 obtain⟨o,es,ep,ho,hd,hk,_,hm⟩:=n;refine⟨o,ho,λname=>?_⟩;have e:=hm name;unfold nsFind findBy at e
 rw[<- Array.find?_toList]at e;unfold PySem.W.lookIn;rw[hd];dsimp only
 split
 ·rename_i y q
  rw[q]at e;exact congrArg some e
 ·rename_i q
  rw[q]at e
  have a:es.toList.any (·.refKey)=false:=by rw[List.any_eq_false];intro y hy;obtain⟨z,t,hkey⟩:=hk y (Array.mem_toList_iff.mp hy);simp[DictEntry.refKey,hkey]
  have a':¬es.toList.any (·.refKey)=true:=by rw[a];exact GA
  rw[if_neg a'];exact congrArg some e
theorem ObjM.look{h:Heap}{x dx C:Addr}{mA:Str->Option Value}(I:ObjM h x dx C mA):∃od,PySem.W.InstAt h x (PySem.W.instObj C dx) C (some od)/\∀name,PySem.W.lookIn name od=some (mA name) :=
 let⟨od,ho,hl⟩:=zy I.ns
 ⟨od,⟨I.obj,rfl,rfl,ho⟩,hl⟩
section
variable {prog:Program}{w:World}{A:Around}{E:Value->Shared->Prop}{s:Shared}{K:PySem.W.Frag}{x dx C f:Addr}{mA:Str->Option Value}{name:Str}{v:Value}
theorem AL{expr:Bool}{Q:Value->Shared->Prop}(X:K.In s.heap)(I:ObjM s.heap x dx C mA)(hg:PySem.W.plainGet K C name=true)(hh:PySem.W.hasDictIn K C=true)
 (ha:PySem.W.findIn K (.ref C) name=some none) (hv:mA name=some v) (hv':PySem.W.handedIn v=true) (h:Q v { s with toks:=s.toks+1 }) :
 wpAny (model prog w) A (getAttr (.ref x) name expr) Q E s:=by
 obtain⟨od,J,hl⟩:=I.look;exact PySem.W.get_value X J (PySem.W.plainGet_of hg).1 (PySem.W.findObj_own hh ha rfl (by rw[hl,hv])) hv' h
theorem AK{pl:Sem Bool}{Q:Value×List Value->Shared->Prop}(X:K.In s.heap)(I:ObjM s.heap x dx C mA)(hg:PySem.W.plainGet K C name=true)
 (hf:PySem.W.findIn K (.ref C) name=some (some (.ref f))) (ht:PySem.W.isFn K (.ref f)=true) (hv:mA name=none) (h:Q (.ref f,[.ref x]) s) :
 wpAny (model prog w) A (getMethod (.ref x) name pl) Q E s:=by
 obtain⟨od,J,hl⟩:=I.look;exact PySem.W.method_fn X J (PySem.W.plainGet_of hg).1 (PySem.W.plainGet_of hg).2 hf (beq_iff_eq.mp ht) (by show(PySem.W.lookIn name od).map (·.isSome)=some false;rw[hl,hv];rfl) h
theorem vD{ns:List Str}{Q:Unit->Shared->Prop}(X:K.In s.heap)(I:ObjM s.heap x dx C mA)
 (hs:PySem.W.findIn K (.ref C) "__setattr__"=some (some (.builtin "object.__setattr__"))) (hp:PySem.W.plainOver K C=true) (ht:PySem.W.takerIn K C name=some none) (hh:PySem.W.hasDictIn K C=true)
 (hw:PySem.Within mA ns) (hsz:ns.length<=sizeLine)
 (h:∀h',ObjM h' x dx C (λy=>if y=name then some v else mA y)->Heap.SameBut dx s.heap h'->Q () { s with heap:=h',toks:=s.toks+2 }) :
 wpAny (model prog w) A (setAttr (.ref x) name v) Q E s:=by
 obtain⟨od,J,hl⟩:=I.look;refine PySem.W.set_plain X J hs (PySem.W.osa_open (s:={ s with toks:=s.toks+1 }) (r:=none) X J hp ht λb=>?_);obtain⟨cd,hc,hd'⟩:=PySem.W.any_some hh;have hx:s.heap.get? x=some ⟨.ref C,some dx,.plain,#[]⟩:=I.obj;refine wpAny_bind (wpAny_pure (wpAny_bind (wpAny_bind (wpAny_loadPart hx (wpAny_bind (PySem.W.Looks.here (s:={ s with toks:=s.toks+1 }) (PySem.W.looks_clsIn X hc) ?_))))));rw[hd'];refine wpAny_pure (a:=some dx) (wpAny_bind (wpAny_pure (wpAny_bind ?_)));refine wpAny_nsSet1 (s:={ s with toks:=s.toks+1 }) I.ns λh' hn2 hs2=>?_
 obtain⟨oD,esD,epD,hoD,hdD,hcD⟩:=hn2.count (PySem.Within.cons name v hw);refine wpAny_bind (wpAny_lookBehind hoD (by rw[hdD];exact pastItsLine_dict (FA hcD (by rw[FI];omega))) ?_);exact wpAny_pure (h _ ⟨(hs2.2 _ (Ne.symm I.ne)).trans I.obj,hn2,I.ne⟩ hs2)
theorem yX{R:Result->Shared->Prop}{vs:List Value}{kw:List (Str×Value)}(X:K.In s.heap)(hm:PySem.W.makesIn K C=true)
 (hi:PySem.W.findIn K (.ref C) "__init__"=some (some (.ref f))) (hf:PySem.W.typeIn K (.ref f)=some (.type "function"))
 (h:codeAny (model prog w) (A.under (.builtin "type.__call__" ⟨.ref C::vs,kw⟩)) (.call (.ref f) ⟨.ref (s.heap.objs.size+1)::vs,kw⟩) (PySem.W.InitBack (s.heap.objs.size+1) R)
   { s with heap:=(s.heap.push PySem.W.emptyDict).push (PySem.W.instObj C s.heap.objs.size) }) :
 codeAny (model prog w) A (.call (.ref C) ⟨vs,kw⟩) R s:=by
 obtain⟨hh,g,d,t,os⟩:=s;exact PySem.W.make_core (PySem.W.makes_of X hm) (PySem.W.looks_findIn X hi) (λself=>PySem.W.bind_fn X self hf) (.inl rfl) h
end
noncomputable def b9(f:Str)(v:V):List (Str×V)->List (Str×V)
 | []=>[(f,v)]
 | (g,x)::r=>if g=f then(g,v)::r else(g,x)::b9 f v r
theorem eZ(f g:Str)(v:V):∀fs:List (Str×V),(b9 f v fs).lookup g=if g=f then some v else fs.lookup g
 | []=>by
  show List.lookup g [(f,v)]=_;by_cases h:g=f
  ·have hb:(g == f)=true:=beq_iff_eq.mpr h;simp only[List.lookup,hb,if_pos h]
  ·have hb:(g == f)=false:=beq_eq_false_iff_ne.mpr h;simp only[List.lookup,hb,if_neg h]
 | (k,x)::r=>by
  have ih:=eZ f g v r;rw[show b9 f v ((k,x)::r)=(if k=f then(k,v)::r else(k,x)::b9 f v r)from rfl];by_cases hk:k=f
  ·rw[if_pos hk];by_cases h:g=k
   ·have hb:(g == k)=true:=beq_iff_eq.mpr h;simp only[List.lookup,hb,if_pos (h.trans hk)]
   ·have hb:(g == k)=false:=beq_eq_false_iff_ne.mpr h;simp only[List.lookup,hb,if_neg (λe:g=f=>h (e.trans hk.symm))]
  ·rw[if_neg hk];by_cases h:g=k
   ·have hb:(g == k)=true:=beq_iff_eq.mpr h;simp only[List.lookup,hb,if_neg (λe:g=f=>hk (h.symm.trans e))]
   ·have hb:(g == k)=false:=beq_eq_false_iff_ne.mpr h;simp only[List.lookup,hb];exact ih
theorem lf(f:Str)(v:V):∀fs:List (Str×V),f∈(b9 f v fs).map (·.1)/\∀g,g∈fs.map (·.1)->g∈(b9 f v fs).map (·.1)
 | []=>⟨by simp[b9],λg h=>by simp at h⟩
 | (k,x)::r=>by
  obtain⟨i1,i2⟩:=lf f v r;rw[show b9 f v ((k,x)::r)=(if k=f then(k,v)::r else(k,x)::b9 f v r)from rfl];by_cases hk:k=f
  ·rw[if_pos hk];subst hk;exact⟨by simp,λg h=>by simpa using h⟩
  ·rw[if_neg hk];refine⟨?_,λg h=>?_⟩
   ·rw[FZ];exact Fs _ i1
   ·rw[FZ]at h ⊢;rcases Ft.mp h with e |e
    ·exact Ft.mpr (.inl e)
    ·exact Fs _ (i2 g e)
theorem rg(f:Str)(v:V):∀fs:List (Str×V),(b9 f v fs).length<=fs.length+1
 | []=>by simp[b9]
 | (k,x)::r=>by
  have ih:=rg f v r;rw[show b9 f v ((k,x)::r)=(if k=f then(k,v)::r else(k,x)::b9 f v r)from rfl];by_cases hk:k=f
  ·rw[if_pos hk,FI,FI];omega
  ·rw[if_neg hk,FI,FI];omega
theorem RelO.some_of{v:V}{o:Option Value}(r:RelO (some v) o):∃u,o=some u/\RelV v u:=by
 cases o with
 |none=>exact(show False from r).elim
 |some u=>exact⟨u,rfl,r⟩
theorem RelO.none_of{o:Option Value}(r:RelO none o):o=none:=by
 cases o with
 |none=>rfl
 |some u=>exact(show False from r).elim
theorem AG{v:V}{u:Value}(r:RelV v u):PySem.W.handedIn u=true:=by
 cases v with
 |non=>cases(show u=Value.none from r);rfl
 |bl b=>cases(show u=Value.bool b from r);rfl
 |int i=>obtain⟨t,e⟩:=(show ∃t,u=Value.int i t from r);cases e;rfl
 |str x=>obtain⟨t,e⟩:=(show ∃t,u=Value.str x t from r);cases e;rfl
 |byt b=>obtain⟨t,e⟩:=(show ∃t,u=Value.bytes b t from r);cases e;rfl
 |flt b=>obtain⟨t,e⟩:=(show ∃t,u=Value.float b t from r);cases e;rfl
 |ref a=>cases(show u=Value.ref a from r);rfl
 |ty n=>cases(show u=Value.type n from r);rfl
section
variable {P:Program}{w:World}{H H':Hp}{h h':Heap}{a C dx:Addr}{fs fs':List (Str×V)}
theorem iS(hok:HOk P w H h)(e:H a=some (.ins C dx fs)):∃mA,ObjM h a dx C mA/\(∀f,RelO (fs.lookup f) (mA f))/\PySem.Within mA (fs.map (·.1))/\fs.length<=1000/\H dx=some (.own a):=by obtain⟨d,z,ne,ob,mA,n,r,q⟩:=(show ObjOk P w H h a (.ins C dx fs)from hok a _ e);exact⟨mA,⟨ob,n,ne⟩,r,q,z,d⟩
end
structure Cls(K:PySem.W.Frag)(C:Addr):Prop where
 pg:PySem.W.plainGet K C Str.empty=true
 hd:PySem.W.hasDictIn K C=true
 po:PySem.W.plainOver K C=true
 sa:PySem.W.findIn K (.ref C) "__setattr__"=some (some (.builtin "object.__setattr__"))
theorem Cls.get{K:PySem.W.Frag}{C:Addr}(c:Cls K C)(f:Str):PySem.W.plainGet K C f=true:=c.pg
def NoAttr(K:PySem.W.Frag)(C:Addr)(f:Str):Prop:=PySem.W.findIn K (.ref C) f=some none
theorem NoAttr.taker{K:PySem.W.Frag}{C:Addr}{f:Str}(n:NoAttr K C f):PySem.W.takerIn K C f=some none:=by unfold PySem.W.takerIn;rw[show PySem.W.findIn K (.ref C) f=some none from n];rfl
structure Meth(K:PySem.W.Frag)(C:Addr)(m:Str)(f:Addr):Prop where
 at_:PySem.W.findIn K (.ref C) m=some (some (.ref f))
 fn:PySem.W.isFn K (.ref f)=true
 kp:PySem.W.keepIn K (.ref f)=true
section
variable {X:Cx}{pins:List (Addr×Obj)}{σ:St}{H:Hp}{s:Shared}{a C dx:Addr}{fs:List (Str×V)}{f:Str}{v:V}{A:Around}{E:Value->Shared->Prop}
theorem AJ{b:Bool}{Q:Value->Shared->Prop}(I:Inv X pins σ H s)(e:H a=some (.ins C dx fs))(c:Cls X.K C)(n:NoAttr X.K C f)(l:fs.lookup f=some v)
 (h:∀u s',Inv X pins σ H s'->RelV v u->Q u s'):wpAny (model X.prog X.w) A (getAttr (.ref a) f b) Q E s:=by
 obtain⟨mA,O,r,_,_,_⟩:=iS I.hok e;obtain⟨u,hu,ru⟩:=RelO.some_of (v:=v) (o:=mA f) (by rw[<- l];exact r f);exact AL I.kIn O (c.get f) c.hd n hu (AG ru) (h u _ (I.tok _) ru)
theorem AI{m:Str}{g:Addr}{pl:Sem Bool}{Q:Value×List Value->Shared->Prop}(I:Inv X pins σ H s)(e:H a=some (.ins C dx fs))(c:Cls X.K C)(k:Meth X.K C m g)(l:fs.lookup m=none)
 (h:Q (.ref g,[.ref a]) s):wpAny (model X.prog X.w) A (getMethod (.ref a) m pl) Q E s:=by
 obtain⟨mA,O,r,_,_,_⟩:=iS I.hok e;have hn:mA m=none:=RelO.none_of (by rw[<- l];exact r m);exact AK I.kIn O (c.get m) k.at_ k.fn hn h
theorem vC{y:V}{u:Value}{Q:Unit->Shared->Prop}(I:Inv X pins σ H s)(e:H a=some (.ins C dx fs))(c:Cls X.K C)(n:NoAttr X.K C f)(hl:fs.length<1000)(ry:RelV y u)
 (h:∀s',Inv X pins σ (upd H a (.ins C dx (b9 f y fs))) s'->Q () s'):wpAny (model X.prog X.w) A (setAttr (.ref a) f u) Q E s:=by
 obtain⟨mA,O,r,wi,_,ho⟩:=iS I.hok e;have hz:(fs.map (·.1)).length<=sizeLine:=by rw[Fk,sizeLine_eq];omega
 refine vD I.kIn O c.sa c.po n.taker c.hd wi hz λh' O' sb=>h _ ?_
 have hd:∃o,h'.get? dx=some o:=let⟨o,_,_,e',_⟩:=O'.ns;⟨o,e'⟩;refine I.write (x:=a) (e:=dx) (by rw[e];exact True.intro) (.inr ho) (λb q hb z=>(sb.2 b hb).trans z) hd ?_;refine⟨by rw[upd_ne O.ne];exact ho,?_,O.ne,O'.obj,_,O'.ns,λg=>?_,λg hg=>?_⟩
 ·have:=rg f y fs;omega
 ·show RelO ((b9 f y fs).lookup g) (if g=f then some u else mA g);rw[eZ];by_cases q:g=f
  ·rw[if_pos q,if_pos q];exact ry
  ·rw[if_neg q,if_neg q];exact r g
 ·by_cases q:g=f
  ·rw[q];exact(lf f y fs).1
  ·refine(lf f y fs).2 g (wi g λz=>hg ?_);show(if g=f then some u else mA g)=none;rw[if_neg q];exact z
theorem Inv.made(I:Inv X pins σ H s):Inv X pins σ (upd (upd H s.heap.objs.size (.own (s.heap.objs.size+1))) (s.heap.objs.size+1) (.ins C s.heap.objs.size []))
 { s with heap:=(s.heap.push PySem.W.emptyDict).push (PySem.W.instObj C s.heap.objs.size) }:=by
 have e1:(s.heap.push PySem.W.emptyDict).get? s.heap.objs.size=some PySem.W.emptyDict:=Heap.get?_push_size s.heap rfl
 have e2:((s.heap.push PySem.W.emptyDict).push (PySem.W.instObj C s.heap.objs.size)).get? (s.heap.objs.size+1)=some (PySem.W.instObj C s.heap.objs.size):=by
  have:=Heap.get?_push_size (s.heap.push PySem.W.emptyDict) (o:=PySem.W.instObj C s.heap.objs.size) rfl
  rwa [Heap.size_push]at this
 have e3:(s.heap.push PySem.W.emptyDict).Ns s.heap.objs.size (λ_=>none):=⟨PySem.W.emptyDict,#[],_,e1,rfl,(λe he=>absurd he (by simp)),λ_=>rfl⟩;have I1:=I.laid (a:=s.heap.objs.size) (o:=.own (s.heap.objs.size+1)) (h':=s.heap.push PySem.W.emptyDict) (t':=s.toks) (λb u q=>Heap.get?_push_of_some _ q) (Fl _) ⟨_,e1⟩;refine I1.laid (a:=s.heap.objs.size+1) (o:=.ins C s.heap.objs.size []) (t':=s.toks) (λb u q=>Heap.get?_push_of_some _ q) (GK (Heap.size_push _ _)) ?_;have ne:s.heap.objs.size≠s.heap.objs.size+1:=FG (GC _);refine⟨by rw[upd_ne ne,am],Fn _,ne,e2,λ_=>none,(Heap.Ns1.of_empty e3).at λo q=>Heap.get?_push_of_some _ q,λ_=>True.intro,λy hy=>absurd rfl hy⟩
theorem Cu{prog:Program}{w:World}{env:Env}{e:Expr}{f:Str}{pos:Pos}{s:Shared}{Q:Value->Shared->Prop}(hb:attributeBase e f env (eval e env)=eval e env)
 (h:wpAny (model prog w) A (eval e env) (λo s₁=>wpAny (model prog w) A (getAttr o f true) Q E s₁) E s):wpAny (model prog w) A (eval (.Attribute e f pos) env) Q E s :=
 Attribute_any_ h (by rw[arm_eval_Attribute,hb])
end
def nV(K:PySem.W.Frag)(ta:TE)(f:Str):TE:=λσ H Q=>ta σ H λx H1=>∃a C dx fs v,x=.ref a/\H1 a=some (.ins C dx fs)/\Cls K C/\NoAttr K C f/\fs.lookup f=some v/\Q v H1
def vT(K:PySem.W.Frag)(ta tv:TE)(f:Str):TS:=λD σ H=>tv σ H λy H1=>ta σ H1 λx H2=>∃a C dx fs,x=.ref a/\H2 a=some (.ins C dx fs)/\Cls K C/\NoAttr K C f/\fs.length<1000 /\
 D.nx σ (upd H2 a (.ins C dx (b9 f y fs)))
section
variable {X:Cx}{o e value:Expr}{f:Str}{pos pos' tpos:Pos}{ta tv:TE}
theorem w9(he:PE X e ta)(hb:attributeBase e f X.env (eval e X.env)=eval e X.env):PE X (.Attribute e f pos) (nV X.K ta f):=by intro pins s σ H Q I h;refine Cu hb (thn (he pins s σ H _ I h) λu s1 ⟨x,H1,I1,rx,a,C,dx,fs,v,ex,ea,c,n,l,q⟩=>?_);subst ex;obtain rfl:u=Value.ref a:=rx;exact AJ I1 ea c n l λu' s2 I2 ru=>⟨v,H1,I2,ru,q⟩
theorem p8(ha:PE X o ta)(hv:PE X value tv)(hs:swapsWith value (some (.Attribute o f pos')) pos.line X.env=pure false):PS X (.Assign [.Attribute o f pos'] value pos) (vT X.K ta tv f):=by intro pins s σ H D I h;refine plainObj_wpAny_Assign_Attribute (thn (hv pins s σ H _ I h) λu s1 ⟨y,H1,I1,ry,q⟩=>thn (ha pins s1 σ H1 _ I1 q) λov s2 ⟨x,H2,I2,rx,a,C,dx,fs,ex,ea,c,n,l,q2⟩=>?_) hs;subst ex;obtain rfl:ov=Value.ref a:=rx;exact vC I2 ea c n l ry λs3 I3=>⟨σ,_,I3,q2⟩
end
section
variable {X:Cx}{pins:List (Addr×Obj)}{σ:St}{H:Hp}{s:Shared}{A:Around}{E:Value->Shared->Prop}{Q:Value->Shared->Prop}{c:Value}{b:Bool}
inductive TyOf(K:PySem.W.Frag)(H:Hp):V->Value->Prop where
 |non:TyOf K H .non (.type "NoneType")
 |bl (x:Bool):TyOf K H (.bl x) (.type "bool")
 |int (i:Int):TyOf K H (.int i) (.type "int")
 |str (x:Str):TyOf K H (.str x) (.type "str")
 |flt (x:UInt64):TyOf K H (.flt x) (.type "float")
 |lst {a:Addr} {xs:List V} (e:H a=some (.lst xs)):TyOf K H (.ref a) (.type "list")
 |frz {a:Addr} {o:Obj} {xs:List V} (e:H a=some (.frz o (.lst xs))):TyOf K H (.ref a) (.type "list")
 |tup {a:Addr} {xs:List V} (e:H a=some (.tup xs)):TyOf K H (.ref a) (.type "tuple")
 |dK {a:Addr} {kvs:List (Key×V)} (e:H a=some (.dK kvs)):TyOf K H (.ref a) (.type "dict")
 |dT {a:Addr} {kvs:List (List Key×V)} (e:H a=some (.dT kvs)):TyOf K H (.ref a) (.type "dict")
 |ins {a C dx:Addr} {fs:List (Str×V)} (e:H a=some (.ins C dx fs)) (cl:Cls K C) (ha:PySem.W.findIn K (.ref C) "__class__"=some (some (.builtin "object.__class__")))
  (hn:PySem.W.specialIn K (.builtin "object.__class__") "__get__"=some (some (.builtin "getset_descriptor.__get__"))) (htk:PySem.W.takesIn K (.builtin "object.__class__")=some true)
  (hm:PySem.W.mroIn K C (.type "object")=some true):TyOf K H (.ref a) (.ref C)
theorem Au{x:V}{u t:Value}(I:Inv X pins σ H s)(rx:RelV x u)(ty:TyOf X.K H x t)(e:PySem.W.kitOne X.K t c=some b)(h:∀tk,Q (.bool b) { s with toks:=tk }) :
 wpAny (model X.prog X.w) A (call (.builtin "isinstance") [u,c]) Q E s:=by
 cases ty with
 |non=>cases(show u=Value.none from rx);exact PySem.W.kia_one PySem.W.kitx_none I.kIn True.intro e (λz=>nomatch z) h
 |bl y=>cases(show u=Value.bool y from rx);exact PySem.W.kia_one PySem.W.kitx_bool I.kIn True.intro e (λz=>nomatch z) h
 |int i=>obtain⟨t,q⟩:=(show ∃t,u=Value.int i t from rx);cases q;exact PySem.W.kia_one PySem.W.kitx_int I.kIn True.intro e (λz=>nomatch z) h
 |str y=>obtain⟨t,q⟩:=(show ∃t,u=Value.str y t from rx);cases q;exact PySem.W.kia_one PySem.W.kitx_str I.kIn True.intro e (λz=>nomatch z) h
 |flt y=>obtain⟨t,q⟩:=(show ∃t,u=Value.float y t from rx);cases q;exact PySem.W.kia_one PySem.W.kitx_float I.kIn True.intro e (λz=>nomatch z) h
 | @lst a xs ea =>cases(show u=Value.ref a from rx);obtain⟨_,_,n,_,h1⟩:=(show ObjOk X.prog X.w H s.heap a (.lst xs)from I.hok a _ ea);exact PySem.W.kia_one PySem.W.kitx_list I.kIn ⟨_,h1,rfl⟩ e (λz=>nomatch z) h
 | @frz a ob xs ea =>cases(show u=Value.ref a from rx);obtain⟨_,_,_,n,_,h1⟩:=(show ObjOk X.prog X.w H s.heap a (.frz ob (.lst xs))from I.hok a _ ea);exact PySem.W.kia_one PySem.W.kitx_list I.kIn ⟨_,h1,rfl⟩ e (λz=>nomatch z) h
 | @tup a xs ea =>cases(show u=Value.ref a from rx);obtain⟨_,_,_,p⟩:=(show ObjOk X.prog X.w H s.heap a (.tup xs)from I.hok a _ ea);obtain⟨o,h1,h2,_⟩:=p;exact PySem.W.kia_one PySem.W.kitx_tuple I.kIn ⟨o,h1,h2⟩ e (λz=>nomatch z) h
 | @dK a kvs ea =>cases(show u=Value.ref a from rx);obtain⟨_,_,vs,_,p⟩:=(show ObjOk X.prog X.w H s.heap a (.dK kvs)from I.hok a _ ea);obtain⟨o,es,ep,h1,h2,_⟩:=p;exact PySem.W.kia_one PySem.W.kitx_dict I.kIn ⟨o,h1,h2.1⟩ e (λz=>nomatch z) h
 | @dT a kvs ea =>cases(show u=Value.ref a from rx);obtain⟨_,_,xs,_,o,es,ep,h1,h2,_⟩:=(show ObjOk X.prog X.w H s.heap a (.dT kvs)from I.hok a _ ea);exact PySem.W.kia_one PySem.W.kitx_dict I.kIn ⟨o,h1,h2.1⟩ e (λz=>nomatch z) h
 | @ins a C dx fs ea cl ha hn htk hm =>cases(show u=Value.ref a from rx);obtain⟨mA,O,_⟩:=iS I.hok ea;obtain⟨od,J,_⟩:=O.look;exact PySem.W.kia_one (PySem.W.kitx_own (cl.get _) cl.hd ha hn htk hm) I.kIn J e (λz=>nomatch z) h
end
structure Room(k:Nat)(A:Around):Prop where
 hd:A.handled=none
 dp:A.depth+3*k+5<recursionLimit
 un:A.units+16*k+200<cLine
theorem Room.mono{j k:Nat}{A:Around}(r:Room k A)(h:j<=k:=by decide):Room j A:=⟨r.hd,by have:=r.dp;omega,by have:=r.un;omega⟩
theorem Room.deeper{k:Nat}{A:Around}(r:Room (k+1) A)(env:Env):Room k (A.deeper env) :=
 ⟨r.hd,by have:=r.dp;show A.depth+1+3*k+5<_;omega,by have:=r.un;show A.units+3+16*k+200<_;omega⟩
theorem Room.in1{k:Nat}{A:Around}(r:Room (k+1) A):Room k A.in1 :=
 ⟨r.hd,by have:=r.dp;show A.depth+3*k+5<_;omega,by have:=r.un;show A.units+1+16*k+200<_;omega⟩
theorem yY{A:Around}{C:Addr}{us:List Value}{kw:List (Str×Value)}:(A.under (.builtin "type.__call__" ⟨.ref C::us,kw⟩)).depth=A.depth+1:=by first |rfl |simp[Around.under,Code.weight,Code.isCreation,Code.isGuard,Code.isCaller,Code.frames,Code.isFrame,guardIds]
theorem yW{A:Around}{C:Addr}{us:List Value}{kw:List (Str×Value)}:(A.under (.builtin "type.__call__" ⟨.ref C::us,kw⟩)).units=A.units+1:=by first |rfl |simp[Around.under,Code.cUnits,Code.frames,Code.isFrame]
theorem Room.make{k:Nat}{A:Around}(r:Room (k+1) A)(C:Addr)(us:List Value)(kw:List (Str×Value)):Room k (A.under (.builtin "type.__call__" ⟨.ref C::us,kw⟩)) :=
 ⟨r.hd,by have:=r.dp;rw[yY];omega,by have:=r.un;rw[yW];omega⟩
theorem Room.depth{k:Nat}{A:Around}(r:Room k A):A.depth<recursionLimit:=by have:=r.dp;omega
theorem Room.units{k:Nat}{A:Around}(r:Room k A):A.units+64<cLine:=by have:=r.un;omega
def nU:TA:=λ_ H Q=>Q [] H
def jt(ta:TE)(tr:TA):TA:=λσ H Q=>ta σ H λx H1=>tr σ H1 λxs H2=>Q (x::xs) H2
section
variable {X:Cx}{e:Expr}{es:List Expr}{te:TE}{t:TA}{pos:Pos}
theorem ae:PA X [] nU:=λ_ _ _ _ H Q I h=>Calls.spliced_nil ⟨[],H,I,.nil,h⟩
theorem aa(ha:PE X e te)(hr:PA X es t)(hs:starEach (e::es) X.env=(false,eval e X.env)::starEach es X.env:=by rfl):PA X (e::es) (jt te t):=by intro pos pins s σ H Q I h;rw[hs];show wpAny _ _ (spliced ((false,eval e X.env)::backTo pos (starEach es X.env))) _ _ s;refine Calls.spliced_cons (thn (ha pins s σ H _ I h) λu s1 ⟨x,H1,I1,r1,q1⟩=>?_);exact thn (hr pos pins s1 σ H1 _ I1 q1) λus s2 ⟨xs,H2,I2,r2,q2⟩=>⟨x::xs,H2,I2,.cons r1 r2,q2⟩
def uM(t:TA):TE:=λσ H Q=>t σ H λxs H1=>xs.length<=sizeLine/\∀p,H1 p=none->Q (.ref p) (upd H1 p (.tup xs))
def uS(t:TA):TE:=λσ H Q=>t σ H λxs H1=>xs.length<=sizeLine/\∀p,H1 p=none->Q (.ref p) (upd H1 p (.lst xs))
theorem b5{x1}(h:PA X es t):PE X (.Tuple es x1 pos) (uM t):=by intro pins s σ H Q I hq;refine wpAny_Tuple_spliced (thn (h pos pins s σ H _ I hq) λus s1 ⟨xs,H1,I1,r,z,q⟩=>⟨by rw[<- r.length];exact z,?_⟩);have hf:H1 s1.heap.objs.size=none:=I1.hok.fresh (Fl _);refine⟨.ref s1.heap.objs.size,upd H1 s1.heap.objs.size (.tup xs),I1.laid (t':=s1.toks) (λb u e=>Heap.get?_push_of_some _ e) (Fl _) ?_,rfl,q _ hf⟩;exact⟨z,us,r,⟨_,Heap.get?_push_size _ rfl,rfl,_,rfl⟩⟩
theorem bI(h:PA X es t):PE X (.List es pos) (uS t):=by intro pins s σ H Q I hq;refine wpAny_List_spliced (thn (h pos pins s σ H _ I hq) λus s1 ⟨xs,H1,I1,r,z,q⟩=>⟨by rw[<- r.length];exact z,?_⟩);have hf:H1 s1.heap.objs.size=none:=I1.hok.fresh (Fl _);refine⟨.ref s1.heap.objs.size,upd H1 s1.heap.objs.size (.lst xs),I1.laid (t':=s1.toks) (λb u e=>Heap.get?_push_of_some _ e) (Fl _) ?_,rfl,q _ hf⟩;exact⟨z,us,0,r,Heap.get?_push_size _ rfl⟩
end
abbrev Sp:=List V->Hp->VK->XK->Prop
abbrev CXT:=List Env->Hp->Shared->XK->Value->Shared->Prop
structure Env0(P:Program)(w:World)(K:PySem.W.Frag)(mg:Str->Option Value)(base:Heap)(A:Around)(outer:List Env)(s:Shared)(H:Hp):Prop where
 frames:A.frames=some outer
 mod:Mod K mg base
 bs:∀b o,base.get? b=some o->s.heap.get? b=some o/\H b=none
 bsz:base.objs.size<=s.heap.objs.size
 funs:s.heap.FunFrames base outer
 frf:∀b∈frs outer,H b=none
 hok:HOk P w H s.heap
 bare:AllBare s.gens
noncomputable def CE(outer:List Env)(P:Program)(w:World)(H:Hp)(s:Shared)(Q:VK)(u:Value)(s':Shared):Prop :=
 ∃v H',s'.os=s.os/\AllBare s'.gens/\Un (frs outer) [] H H' s.heap s'.heap/\HOk P w H' s'.heap/\RelV v u/\Q v H'
noncomputable def CR(CX:CXT)(outer:List Env)(P:Program)(w:World)(H:Hp)(s:Shared)(Q:VK)(E:XK)(r:Result)(s':Shared):Prop :=
 match r with
 |.ok (.ret u)=>CE outer P w H s Q u s'
 |.ok _=>False
 |.error e=>CX outer H s E e s'
structure FnOk(P:Program)(w:World)(K:PySem.W.Frag)(mg:Str->Option Value)(base:Heap)(CX:CXT)(k:Nat)(f:Addr)(fd:FuncData)(ps:List Str)(sp:Sp):Prop where
 len:∀vs H Q E,sp vs H Q E->vs.length=ps.length
 run:∀(A:Around) (outer:List Env) (s:Shared) (H:Hp) (args:Args) (us:List Value) (vs:List V) (Q:VK) (E:XK),Room k A->Env0 P w K mg base A outer s H->BindsTo s fd args (ps.zip us)->Vals vs us->sp vs H Q E ->
  codeAny (model P w) A (.call (.ref f) args) (CR CX outer P w H s Q E) s
theorem FnOk.mono{P:Program}{w:World}{K:PySem.W.Frag}{mg:Str->Option Value}{base:Heap}{CX:CXT}{j k:Nat}{f:Addr}{fd:FuncData}{ps:List Str}{sp:Sp}(F:FnOk P w K mg base CX j f fd ps sp)(h:j<=k:=by decide) :
 FnOk P w K mg base CX k f fd ps sp:=⟨F.len,λA outer s H args us vs Q E hr=>F.run A outer s H args us vs Q E (hr.mono h)⟩
theorem Env0.make{P:Program}{w:World}{K:PySem.W.Frag}{mg:Str->Option Value}{base:Heap}{A:Around}{outer:List Env}{s:Shared}{H:Hp}(e:Env0 P w K mg base A outer s H)(C:Addr)(us:List Value)(kw:List (Str×Value)) :
 Env0 P w K mg base (A.under (.builtin "type.__call__" ⟨.ref C::us,kw⟩)) outer s H:=⟨by first |exact e.frames | (simpa[Around.under,Code.envs,Code.isFrame,pushEnvs]using e.frames),e.mod,e.bs,e.bsz,e.funs,e.frf,e.hok,e.bare⟩
section
variable {X:Cx}{pins:List (Addr×Obj)}{σ:St}{H:Hp}{s s':Shared}
theorem Inv.env0(I:Inv X pins σ H s):Env0 X.prog X.w X.K X.mg X.base X.A X.stack s H :=
 ⟨I.ok.frames,I.ok.mod,I.bs,FA I.ok.bsz I.sz,I.stack,I.stkFree,I.hok,I.bare⟩
theorem Inv.after{Q:VK}{u:Value}(I:Inv X pins σ H s)(h:CE X.stack X.prog X.w H s Q u s'):EP X pins σ Q u s':=by obtain⟨v,H',os,bare,un,hok,r,q⟩:=h;obtain⟨hh,g,d,t,os'⟩:=s';obtain rfl:os'=s.os:=os;exact⟨v,H',I.call (h':=hh) (g':=g) (d':=d) (t':=t) (ch:=[]) un hok bare (λb z=>absurd z (by simp)),r,q⟩
end
def uU(sp:Sp)(dvs:List V)(E:XK)(t:TA):TE:=λσ H Q=>t σ H λvs H1=>sp (vs++dvs) H1 Q E
def uQ(C:Addr)(m:Str)(sp:Sp)(dvs:List V)(E:XK)(ta:TE)(t:TA):TE:=λσ H Q=>ta σ H λx H1=>∃a dx fs,x=.ref a/\H1 a=some (.ins C dx fs)/\fs.lookup m=none /\
 t σ H1 λvs H2=>sp (x::(vs++dvs)) H2 Q E
def uR(C:Addr)(sp:Sp)(dvs:List V)(E:XK)(t:TA):TE:=λσ H Q=>t σ H λvs H1=>∀x dx,H1 x=none->H1 dx=none->dx≠x ->
 sp (.ref x::(vs++dvs)) (upd (upd H1 dx (.own x)) x (.ins C dx [])) (λv H2=>v=.non/\Q (.ref x) H2) E
noncomputable def Binds(K:PySem.W.Frag)(fd:FuncData)(ps:List Str)(ds:List Value):Prop :=
 ∀(s:Shared) (us:List Value),K.In s.heap->(us++ds).length=ps.length->BindsTo s fd ⟨us,[]⟩ (ps.zip (us++ds))
theorem Binds.all{K:PySem.W.Frag}{fd:FuncData}{ps:List Str}(h:∀us:List Value,us.length=ps.length->bindArgs fd ⟨us,[]⟩=pure (ps.zip us)):Binds K fd ps []:=λs us _ hl=>by rw[List.append_nil]at hl ⊢;exact .of_eq (h us hl)
def gg(CX:CXT)(X:Cx)(E:XK):Prop:=∀(pins:List (Addr×Obj)) (σ:St) (H:Hp) (s:Shared) (e:Value) (s':Shared),Inv X pins σ H s->CX X.stack H s E e s'->X.xe e s'
section
variable {X:Cx}{CX:CXT}{k:Nat}{f C:Addr}{fd:FuncData}{ps:List Str}{sp:Sp}{dvs:List V}{ds:List Value}{E:XK}{x m:Str}{p pos apos:Pos}{e o:Expr}{es:List Expr}{ta:TE}{t:TA}
theorem px{pins:List (Addr×Obj)}{σ:St}{H:Hp}{s:Shared}{Q:VK}{us:List Value}{vs:List V}(F:FnOk X.prog X.w X.K X.mg X.base CX k f fd ps sp)(hr:Room k X.A)(hb:Binds X.K fd ps ds)(hd:Vals dvs ds)(hx:gg CX X E)
 (I:Inv X pins σ H s) (r:Vals vs us) (h:sp (vs++dvs) H Q E):wpAny (model X.prog X.w) X.A (call (.ref f) us) (EP X pins σ Q) X.xe s:=by
 have r2:Vals (vs++dvs) (us++ds):=r.append hd;have hl:(us++ds).length=ps.length:=by rw[<- r2.length];exact F.len _ _ _ _ h
 refine wpAny_call (codeAny_mono (F.run X.A X.stack s H ⟨us,[]⟩ (us++ds) (vs++dvs) Q E hr I.env0 (hb s us I.kIn hl) r2 h) λr s' hq=>?_);cases r with
 |error e=>exact hx pins σ H s e s' I hq
 |ok fl =>
  cases fl with
  |ret u=>exact I.after hq
  |next=>exact False.elim hq
  |brk=>exact False.elim hq
  |cont=>exact False.elim hq
theorem av(F:FnOk X.prog X.w X.K X.mg X.base CX k f fd ps sp)(hr:Room k X.A)(hg:Gl X x)(hm:X.mg x=some (.ref f))(hk:PySem.W.keepIn X.K (.ref f)=true)(hb:Binds X.K fd ps ds)(hd:Vals dvs ds)(hx:gg CX X E)
 (ha:PA X (e::es) t) (hdb:(x == ("__debug__":Str))=false:=by decide) (he:starEach (e::es) X.env=(false,eval e X.env)::starEach es X.env:=by rfl) (hpl:(backTo pos (starEach es X.env)).any (·.1)=false:=by rfl) :
 PE X (.Call (.Name x p) (e::es) [] pos) (uU sp dvs E t):=by
 intro pins s σ H Q I h;refine wpAny_Call_Name_kw (rk I hg hm ?_ hdb);refine PySem.W.callWith_K (h₀:=X.base) I.ok.mod.kin hk (thn (ha pos pins s σ H _ I h) λus s1 ⟨vs,H1,I1,r,q⟩=>⟨I1.kIn,?_⟩) he hpl;exact px F hr hb hd hx I1 r q
theorem w6{pl:Sem Bool}(he:PE X o ta)(c:Cls X.K C)(hm:Meth X.K C m f)(F:FnOk X.prog X.w X.K X.mg X.base CX k f fd ps sp)(hr:Room k X.A)(hb:Binds X.K fd ps ds)(hd:Vals dvs ds)(hx:gg CX X E)(ha:PA X (e::es) t)
 (hst:starEach (e::es) X.env=(false,eval e X.env)::starEach es X.env:=by rfl) (hpl:(backTo pos (starEach es X.env)).any (·.1)=false:=by rfl)
 (ht:eval (.Call (.Attribute o m apos) (e::es) [] pos) X.env=(do
   let ov <- eval o X.env
   standAt apos.atName
   let(f,first) <- holding [ov] (getMethod ov m pl)
   callWith pos f first (backTo pos (starEach (e::es) X.env)) (backToKw pos (keywordEach [] X.env))):=by rfl) :
 PE X (.Call (.Attribute o m apos) (e::es) [] pos) (uQ C m sp dvs E ta t):=by
 intro pins s σ H Q I h;refine PySem.W.methodCall_KW (pl:=pl) (thn (he pins s σ H _ I h) λu s1 ⟨x,H1,I1,rx,a,dx,fs,ex,ea,l,q⟩=>?_) ht;subst ex;obtain rfl:u=Value.ref a:=rx;refine AI I1 ea c hm l ?_;refine PySem.W.callWith_K (first:=[.ref a]) (h₀:=X.base) I.ok.mod.kin hm.kp (thn (ha pos pins s1 σ H1 _ I1 q) λus s2 ⟨vs,H2,I2,r,q2⟩=>⟨I2.kIn,?_⟩) hst hpl;exact px (us:=.ref a::us) (vs:=.ref a::vs) F hr hb hd hx I2 (.cons rfl r) q2
structure Mk(K:PySem.W.Frag)(C f:Addr):Prop where
 makes:PySem.W.makesIn K C=true
 init:PySem.W.findIn K (.ref C) "__init__"=some (some (.ref f))
 fn:PySem.W.isFn K (.ref f)=true
 kp:PySem.W.keepIn K (.ref C)=true
theorem vU{pins:List (Addr×Obj)}{σ:St}{H:Hp}{s:Shared}{Q:VK}{us:List Value}{vs:List V}(M:Mk X.K C f)(F:FnOk X.prog X.w X.K X.mg X.base CX k f fd ps sp)(hr:Room (k+1) X.A)(hb:Binds X.K fd ps ds)(hd:Vals dvs ds)
 (hx:gg CX X E) (I:Inv X pins σ H s) (r:Vals vs us)
 (h:∀x dx,H x=none->H dx=none->dx≠x->sp (.ref x::(vs++dvs)) (upd (upd H dx (.own x)) x (.ins C dx [])) (λv H2=>v=.non/\Q (.ref x) H2) E) :
 wpAny (model X.prog X.w) X.A (call (.ref C) us) (EP X pins σ Q) X.xe s:=by
 have hq:=h (s.heap.objs.size+1) s.heap.objs.size (I.hok.fresh (Nat.le_succ _)) (I.hok.fresh (Fl _)) (FG (GC _));have I2:=Inv.made (C:=C) I;have r2:Vals (V.ref (s.heap.objs.size+1)::(vs++dvs)) (Value.ref (s.heap.objs.size+1)::(us++ds)):=.cons rfl (r.append hd)
 have hl:(Value.ref (s.heap.objs.size+1)::us++ds).length=ps.length:=by have e:=r2.length;rw[F.len _ _ _ _ hq]at e;exact e.symm
 refine wpAny_call (yX (f:=f) I.kIn M.makes M.init (beq_iff_eq.mp M.fn) (codeAny_mono (F.run _ X.stack _ _ ⟨Value.ref (s.heap.objs.size+1)::us,[]⟩ (Value.ref (s.heap.objs.size+1)::(us++ds)) _ _ E (hr.make C us [])
  (I2.env0.make C us []) (hb _ (Value.ref (s.heap.objs.size+1)::us) I2.kIn hl) r2 hq) λr s' hq'=>?_))
 cases r with
 |error e=>exact hx pins σ _ _ e s' I2 hq'
 |ok fl =>
  cases fl with
  |ret u =>obtain⟨v,H',I3,rv,ev,q3⟩:=I2.after hq';subst ev;exact⟨rv,⟨V.ref (s.heap.objs.size+1),H',I3,rfl,q3⟩⟩
  |next=>exact False.elim hq'
  |brk=>exact False.elim hq'
  |cont=>exact False.elim hq'
theorem qp(M:Mk X.K C f)(F:FnOk X.prog X.w X.K X.mg X.base CX k f fd ps sp)(hr:Room (k+1) X.A)(hg:Gl X x)(hm:X.mg x=some (.ref C))(hb:Binds X.K fd ps ds)(hd:Vals dvs ds)(hx:gg CX X E)
 (ha:PA X (e::es) t) (hdb:(x == ("__debug__":Str))=false:=by decide) (he:starEach (e::es) X.env=(false,eval e X.env)::starEach es X.env:=by rfl) (hpl:(backTo pos (starEach es X.env)).any (·.1)=false:=by rfl) :
 PE X (.Call (.Name x p) (e::es) [] pos) (uR C sp dvs E t):=by
 intro pins s σ H Q I h;refine wpAny_Call_Name_kw (rk I hg hm ?_ hdb);refine PySem.W.callWith_K (h₀:=X.base) I.ok.mod.kin M.kp (thn (ha pos pins s σ H _ I h) λus s1 ⟨vs,H1,I1,r,q⟩=>⟨I1.kIn,?_⟩) he hpl;exact vU M F hr hb hd hx I1 r q
end
noncomputable def PK(X:Cx)(kws:List Keyword)(t:TA):Prop :=
 ∀(pos:Pos) (pins:List (Addr×Obj)) (s:Shared) (σ:St) (H:Hp) (Q:List V->Hp->Prop),Inv X pins σ H s->t σ H Q->wpAny (model X.prog X.w) X.A (evalAll ((backToKw pos (keywordEach kws X.env)).map (·.2))) (AP X pins σ Q) X.xe s
section
variable {X:Cx}{CX:CXT}{k:Nat}{f C:Addr}{fd:FuncData}{ps ks:List Str}{sp:Sp}{E:XK}{x m:Str}{p pos apos kpos:Pos}{e o:Expr}{es:List Expr}{kws:List Keyword}{te ta:TE}{t tk:TA}{nm:Option Str}
variable {g:List Value->List Value->List Value}{gV:List V->List V->List V}
end
structure FnScope(N P:List Str)(sc:Scope):Prop where
 kind:sc.kind=.function
 co:sc.isCoroutine=false
 gen:sc.isGenerator=false
 nd:N.Nodup
 pre:N.take P.length=P
 par:∀x∈P,sc.names.lookup x=some .local\/sc.names.lookup x=some .cell
 nofree:∀y∈sc.names,y.2≠.free
theorem tJ{kindOf:Str->Option NameKind}{x:Str}:∀{binds:List (Str×Value)} {m:Str->Option Value},(∀v,(x,v)∉binds)->bindL kindOf binds m x=m x
 | [],_,_=>rfl
 | (n,v)::r,m,h=>by
  unfold bindL;rw[tJ λw hw=>h w (Fs _ hw)];split
  ·have:x≠n:=by rintro rfl;exact h v Fx
   simp[this]
  ·rfl
theorem tL{kindOf:Str->Option NameKind}{x:Str}:∀{binds:List (Str×Value)} {m:Str->Option Value},(∀v,(x,v)∉binds)->bindC kindOf binds m x=m x
 | [],_,_=>rfl
 | (n,v)::r,m,h=>by
  unfold bindC;rw[tL λw hw=>h w (Fs _ hw)];split
  ·rfl
  ·have:x≠n:=by rintro rfl;exact h v Fx
   simp[this]
theorem tK{kindOf:Str->Option NameKind}{x:Str}{v:Value}:∀{P:List Str} {vs:List Value} {i:Nat} {m:Str->Option Value},P.Nodup->P[i]?=some x->vs[i]?=some v->kindOf x=some .local ->
 bindL kindOf (P.zip vs) m x=some v
 | [],_,_,_,_,h,_,_=>by simp at h
 |_::_,[],_,_,_,_,h,_=>by simp at h
 |p::P,w::vs,0,m,nd,h1,h2,hk=>by
  simp at h1 h2;subst h1;subst h2
  show bindL kindOf ((p,w)::P.zip vs) m p=_;unfold bindL;rw[tJ λv hv=>(GL.mp nd).1 (List.of_mem_zip hv).1,if_pos hk];simp
 |p::P,w::vs,i+1,m,nd,h1,h2,hk=>by show bindL kindOf ((p,w)::P.zip vs) m x=_;unfold bindL;exact tK (i:=i) (GL.mp nd).2 (by simpa using h1) (by simpa using h2) hk
theorem tM{kindOf:Str->Option NameKind}{x:Str}{v:Value}:∀{P:List Str} {vs:List Value} {i:Nat} {m:Str->Option Value},P.Nodup->P[i]?=some x->vs[i]?=some v->kindOf x≠some .local ->
 bindC kindOf (P.zip vs) m x=some v
 | [],_,_,_,_,h,_,_=>by simp at h
 |_::_,[],_,_,_,_,h,_=>by simp at h
 |p::P,w::vs,0,m,nd,h1,h2,hk=>by
  simp at h1 h2;subst h1;subst h2
  show bindC kindOf ((p,w)::P.zip vs) m p=_;unfold bindC;rw[tL λv hv=>(GL.mp nd).1 (List.of_mem_zip hv).1,if_neg hk];simp
 |p::P,w::vs,i+1,m,nd,h1,h2,hk=>by show bindC kindOf ((p,w)::P.zip vs) m x=_;unfold bindC;exact tM (i:=i) (GL.mp nd).2 (by simpa using h1) (by simpa using h2) hk
noncomputable def du(N:List Str)(vs:List V):St:=vs.map some++List.replicate (N.length-vs.length) none
noncomputable def ff(CX:CXT)(P:Program)(w:World)(K:PySem.W.Frag)(mg:Str->Option Value)(base:Heap)(N:List Str)(qual:Str)(scope:Scope)(f:Addr)(cd:Value)(A:Around)(outer:List Env)(s:Shared)(H:Hp)(E:XK):Cx where
 prog:=P
 w:=w
 K:=K
 mg:=mg
 base:=base
 A:=A.deeper (envOfC qual scope s.heap.objs.size f cd)
 N:=N
 s₀:=s
 H₀:=H
 env:=envOfC qual scope s.heap.objs.size f cd
 outer:=outer
 stack:=envOfC qual scope s.heap.objs.size f cd::outer
 ex:=[]
 calm:=true
 fn:=λ_=>true
 pn:=[]
 xe:=λe s'=>wpAny (model P w) (A.deeper (envOfC qual scope s.heap.objs.size f cd)) (leaving (envOfC qual scope s.heap.objs.size f cd) e) (λ_ s''=>CX outer H s E e s'') (λe' s''=>CX outer H s E e' s'') s'
theorem tG{sc:Scope}{n:Nat}{x:Str}(h:sc.names.lookup x=some .cell):∃c,(cellsFrom n sc.names []).lookup x=some c:=by have q:=PySem.W.cellsFrom_some sc.names n [] (.inl h);exact Option.isSome_iff_exists.mp q
theorem Av{CX:CXT}{P:Program}{w:World}{K:PySem.W.Frag}{mg:Str->Option Value}{base:Heap}{N ps:List Str}{qual:Str}{scope:Scope}{f:Addr}{cd:Value}{A:Around}{outer:List Env}{s s1:Shared}{H:Hp}{E:XK}{us:List Value}{vs:List V}
 (S:FnScope N ps scope) (hd:A.handled=none) (e0:Env0 P w K mg base A outer s H) (hl:vs.length=ps.length) (r:Vals vs us)
 (x:InCallC s s.heap.objs.size (bindL (envOfC qual scope s.heap.objs.size f cd).kindOf (ps.zip us) λ_=>none) (cellsFrom (s.heap.objs.size+1) scope.names []) (bindC (envOfC qual scope s.heap.objs.size f cd).kindOf (ps.zip us) λ_=>none) s1) :
 Inv (ff CX P w K mg base N qual scope f cd A outer s H E) [] (du N vs) H s1:=by
 have hpl:ps.length<=N.length:=by have:=congrArg List.length S.pre;rw[FE]at this;omega
 obtain⟨h1,tk,rfl,hk⟩:=x.done;have noA:∀b:Addr,b∉(ff CX P w K mg base N qual scope f cd A outer s H E).ex:=λb z=>absurd (show b∈([]:List Addr)from z) (by simp)
 refine⟨⟨e0.mod,S.kind,rfl,rfl,Fl _,λy z c h1 h2=>?_,λy hy=>?_,λy c _ h=>?_,λ_=>hd,Around.frames_deeper e0.frames,.inr ⟨rfl,rfl⟩,λb z=>absurd z (noA b),e0.bs,e0.bsz,λb _ _=>noA b,λb z=>absurd z (noA b),e0.funs,e0.frf⟩,
  rfl,e0.bare,Un.kept hk,⟨_,x.toInCall.ns,λi y v h1 h2 h3=>?_⟩,λy c h=>⟨_,x.cell y c h⟩,e0.hok.fresh (Fl _),λy c h=>?_,λp hp=>absurd (show p∈([]:List (Addr×Obj))from hp) (by simp),e0.hok.kept hk,?_⟩
 ·exact name_of_addr x.apart (PySem.mem_of_lookup h1) (PySem.mem_of_lookup h2)
 ·have hy:scope.names.lookup y=some .cell\/scope.names.lookup y=some .free:=hy;rcases hy with hy |hy
  ·exact tG hy
  ·exact absurd rfl (S.nofree _ (PySem.mem_of_lookup hy))
 ·exact GI (x.above y c (PySem.mem_of_lookup h))
 ·have hi:i<vs.length:=by
   unfold du at h2
   by_cases hi:i<vs.length
   ·exact hi
   ·rw[List.getElem?_append_right (by simpa using hi)]at h2;rw[List.getElem?_replicate]at h2;split at h2<;>cases h2
  have ha:vs[i]?=some v:=by
   unfold du at h2
   rw[List.getElem?_append_left (by simpa using hi),List.getElem?_map]at h2;cases e:vs[i]? with
   |none=>rw[e]at h2;cases h2
   |some a=>rw[e]at h2;cases h2;rfl
  obtain⟨u,hu,rv⟩:=r.get ha
  have hp:ps[i]?=some y:=by rw[<- S.pre,List.getElem?_take_of_lt (by omega)];exact h1
  have ndP:ps.Nodup:=by rw[<- S.pre];exact S.nd.sublist (List.take_sublist _ _)
  refine⟨u,rv,?_⟩;rcases S.par y (List.mem_of_getElem? hp)with k |k
  ·exact .inl ⟨k,tK ndP hp hu k⟩
  ·obtain⟨c,e⟩:=tG (n:=s.heap.objs.size+1) k;refine .inr ⟨.inl k,c,e,?_⟩;have q:=x.cell y c e;rw[tM ndP hp hu (by show scope.names.lookup y≠_;rw[k];decide)]at q;exact q
 ·exact e0.hok.fresh (GI (x.above y c (PySem.mem_of_lookup h)))
 ·unfold du;show _=N.length;rw[Fp,Fk,Gr];omega
theorem sj{CX:CXT}{P:Program}{w:World}{K:PySem.W.Frag}{mg:Str->Option Value}{base:Heap}{k:Nat}{f:Addr}{name qual:Str}{params:Arguments}{body:List Stmt}{scope:Scope}{dV kV doc pm cdv ct oc:Value}{an od:Option Addr}
 {osl:Array (Option Value)} {N ps:List Str} {sp:Sp} (lk:K.lookup f=some ⟨oc,od,.func (PySem.W.fnOf name qual params body scope dV kV doc pm an cdv ct),osl⟩) (hcd:PySem.W.codeIn K cdv qual=true) (S:FnScope N ps scope)
 (len:∀vs H Q E,sp vs H Q E->vs.length=ps.length)
 (hbody:∀(A:Around) (outer:List Env) (s:Shared) (H:Hp) (vs:List V) (Q:VK) (E:XK),Room k (A.deeper (envOfC qual scope s.heap.objs.size f cdv))->sp vs H Q E ->
   ∃t,PSs (ff CX P w K mg base N qual scope f cdv A outer s H E) body t/\t { nx:=λ_ H'=>Q .non H',rt:=Q } (du N vs) H) :
 FnOk P w K mg base CX (k+1) f (PySem.W.fnOf name qual params body scope dV kV doc pm an cdv ct) ps sp:=by
 refine⟨len,λA outer s H args us vs Q E hr e0 hb r hsp=>?_⟩;have hl:=len _ _ _ _ hsp;have KX:K.In s.heap:=e0.mod.kin.keeps λb o e=>(e0.bs b o e).1
 have lim:s.heap.NoLimit:=e0.mod.nolimit.keeps λb o e=>(e0.bs b o e).1
 have hkind:∀y∈ps.zip us,scope.names.lookup y.1=some .local\/(scope.names.lookup y.1=some .cell/\((cellsFrom (s.heap.objs.size+1) scope.names []).lookup y.1).isSome=true):=λ⟨n,v⟩ hy=>by
  rcases S.par n (List.of_mem_zip hy).1 with q |q
  ·exact .inl q
  ·exact .inr ⟨q,PySem.W.cellsFrom_some _ _ _ (.inl q)⟩
 refine codeAny_call_function hr.depth (KX _ _ lk) rfl S.co S.gen rfl (PySem.W.codeRec_of KX hcd) (hb _ _ _ _ ?_);refine wpAny_newFunctionEnv_cells S.kind hkind λenv he s1 x=>?_
 subst he;refine⟨lim.keeps x.toInCall.keep,codeAny_func ?_⟩;obtain⟨t,ht,hq⟩:=hbody A outer s H vs Q E (hr.deeper _) hsp;have I:Inv (ff CX P w K mg base N qual scope f cdv A outer s H E) [] (du N vs) H s1:=Av S hr.hd e0 hl r x;refine wpAny_mono (ht [] s1 (du N vs) H _ I hq) (λfl s' hs=>?_) λe s' hs=>hs
 have fin:∀{σ':St} {H':Hp} {v:V} {u:Value},Inv (ff CX P w K mg base N qual scope f cdv A outer s H E) [] σ' H' s'->RelV v u->Q v H'->CE outer P w H s Q u s' :=
  λ{σ' H' v u} J rv q=>⟨v,H',J.os,J.bare,J.base,J.hok,rv,q⟩
 cases fl with
 |ret u =>obtain⟨v,σ',H',J,rv,q⟩:=hs;exact fin J rv q
 |next =>obtain⟨σ',H',J,q⟩:=hs;exact fin (v:=V.non) (u:=Value.none) J rfl q
 |brk =>obtain⟨_,_,_,q⟩:=hs;exact False.elim q
 |cont =>obtain⟨_,_,_,q⟩:=hs;exact False.elim q
section
variable {X:Cx}{x:Str}{p pos:Pos}{e:Expr}{es:List Expr}{t:TA}{id T:String}{r:List V->Hp->VK->Prop}
def tCB(r:List V->Hp->VK->Prop)(t:TA):TE:=λσ H Q=>t σ H λvs H1=>r vs H1 Q
theorem aP(hc:CallR X (.builtin id) r)(hg:Gl X x)(hm:X.mg x=none)(hv:bootBuiltins x=some (.builtin id))(ha:PA X (e::es) t)(hn:x≠"__name__":=by decide)(hdb:(x == ("__debug__":Str))=false:=by decide)
 (he:starEach (e::es) X.env=(false,eval e X.env)::starEach es X.env:=by rfl) (hpl:(backTo pos (starEach es X.env)).any (·.1)=false:=by rfl):PE X (.Call (.Name x p) (e::es) [] pos) (tCB r t):=by
 intro pins s σ H Q I h;refine wpAny_Call_Name_kw (dG I hg hm hv ?_ hn hdb);exact PyProof.Rows.callWith_builtin1 (thn (ha pos pins s σ H _ I h) λus s1 ⟨vs,H1,I1,r1,q1⟩=>hc pins s1 σ H1 vs us Q I1 r1 q1) he hpl
theorem dQ(hc:CallR X (.type T) r)(hg:Gl X x)(hm:X.mg x=none)(hv:bootBuiltins x=some (.type T))(ha:PA X (e::es) t)(hn:x≠"__name__":=by decide)(hdb:(x == ("__debug__":Str))=false:=by decide)
 (he:starEach (e::es) X.env=(false,eval e X.env)::starEach es X.env:=by rfl) (hpl:(backTo pos (starEach es X.env)).any (·.1)=false:=by rfl):PE X (.Call (.Name x p) (e::es) [] pos) (tCB r t):=by
 intro pins s σ H Q I h;refine wpAny_Call_Name_kw (dG I hg hm hv ?_ hn hdb);exact PyProof.Rows.callWith_type1 (thn (ha pos pins s σ H _ I h) λus s1 ⟨vs,H1,I1,r1,q1⟩=>hc pins s1 σ H1 vs us Q I1 r1 q1) he hpl
end
end L2
namespace HT
open PySem PyProof.Rows
section
open PySem.SeqAt
open PySem.AutoSeq1 (wpAny_loadPart')
open PySem.MeetsSeq PySem.MeetsSeq2 PySem.MeetsSeq3
end
section
variable {prog:Program}{w:World}{A:Around}{E:Value->Shared->Prop}{s:Shared}
noncomputable def sIx(n d:Nat):Option Int->Nat
 |none=>d
 |some v=>if v<0 then(v+(n:Int)).toNat else min v.toNat n
theorem sIx_none(n d:Nat):sIx n d none=d:=rfl
theorem sIx_nat(n d k:Nat):sIx n d (some (k:Int))=min k n:=by show(if(k:Int)<0 then((k:Int)+(n:Int)).toNat else min (k:Int).toNat n)=min k n;rw[if_neg (by omega),Int.toNat_natCast]
end
end HT
namespace L2
open PySem PySem.Spec PyProof.Rows
abbrev TO:=St->Hp->(Option Int->Hp->Prop)->Prop
noncomputable def PO(X:Cx)(e:Option Expr)(t:TO):Prop :=
 ∀(pins:List (Addr×Obj)) (s:Shared) (σ:St) (H:Hp) (Q:Option Int->Hp->Prop),Inv X pins σ H s->t σ H Q ->
  wpAny (model X.prog X.w) X.A (evalPart e X.env) (λu s'=>∃o H',Inv X pins σ H' s'/\IsPart u o/\Q o H') X.xe s
noncomputable def uO:TO:=λ_ H Q=>Q none H
noncomputable def uN(t:TE):TO:=λσ H Q=>t σ H λx H1=>∃i,x=.int i/\Q (some i) H1
theorem dW{ns:List Int}:∀{us:List Value},Vals (ns.map V.int) us->IntsAre us ns:=by
 induction ns with
 |nil=>intro us r;rw[GU]at r;cases r;exact .nil
 |cons n ns ih =>
  intro us r;rw[FZ]at r;cases r with
  |cons r1 r2 =>obtain⟨t,e⟩:=r1;subst e;exact .cons n t (ih r2)
section
variable {X:Cx}{e:Expr}{te:TE}{lo hi:Option Expr}{tl th:TO}{pos p2:Pos}
theorem fQ:PO X none uO:=by intro pins s σ H Q I h;rw[evalPart_none];exact wpAny_pure ⟨none,H,I,.none,h⟩
theorem fO(h:PE X e te):PO X (some e) (uN te):=by
 intro pins s σ H Q I hw;rw[evalPart_some];refine thn (h pins s σ H _ I hw) λu s1 ⟨x,H1,I1,r1,q1⟩=>?_
 obtain⟨i,rfl,q⟩:=q1;obtain⟨t,rfl⟩:=r1;exact⟨some i,H1,I1,.int i t,q⟩
noncomputable def SlR(X:Cx)(r:V->Option Int->Option Int->Hp->VK->Prop):Prop :=
 ∀(pins:List (Addr×Obj)) (s:Shared) (σ:St) (H:Hp) (x:V) (v vl vu:Value) (lo hi:Option Int) (sl:Addr) (Q:VK),Inv X pins σ H s->RelV x v->s.heap.IsSliceOf sl vl vu .none->IsPart vl lo->IsPart vu hi->r x lo hi H Q ->
  ∃T id,typeLookup (.type T) "__getitem__"=pure (some (.builtin id))/\s.TypeIs v T/\wpAny (model X.prog X.w) X.A (getItem v (.ref sl)) (EP X pins σ Q) X.xe s
theorem SlR.or{r r':V->Option Int->Option Int->Hp->VK->Prop}(h:SlR X r)(h':SlR X r'):SlR X (λx lo hi H Q=>r x lo hi H Q\/r' x lo hi H Q):=by
 intro pins s σ H x v vl vu lo hi sl Q I rx hs pl pu q;rcases q with q |q
 ·exact h pins s σ H x v vl vu lo hi sl Q I rx hs pl pu q
 ·exact h' pins s σ H x v vl vu lo hi sl Q I rx hs pl pu q
def tSl(r:V->Option Int->Option Int->Hp->VK->Prop)(te:TE)(tl th:TO):TE:=λσ H Q=>te σ H λx H1=>tl σ H1 λl H2=>th σ H2 λu H3=>r x l u H3 Q
theorem fS{r:V->Option Int->Option Int->Hp->VK->Prop}(hr:SlR X r)(he:PE X e te)(hl:PO X lo tl)(hu:PO X hi th):PE X (.Subscript e (.Slice lo hi none p2) pos) (tSl r te tl th):=by
 intro pins s σ H Q I h;refine Subscript_ (thn (he pins s σ H _ I h) λv s1 ⟨x,H1,I1,r1,q1⟩=>?_);refine wpAny_Slice (thn (hl pins s1 σ H1 _ I1 q1) λvl s2 ⟨l,H2,I2,pl,q2⟩=>thn (hu pins s2 σ H2 _ I2 q2) λvu s3 ⟨u,H3,I3,pu,q3⟩=>?_);rw[evalPart_none];refine wpAny_pure ?_;have I4:Inv X pins σ H3 { s3 with heap:=s3.heap.push { cls:=.type "slice",data:=.fields #[vl,vu,.none] } }:=I3.kept (t':=s3.toks) λb ob q=>Heap.get?_push_of_some _ q
 obtain⟨T,id,hT,ht,hg⟩:=hr pins { s3 with heap:=s3.heap.push { cls:=.type "slice",data:=.fields #[vl,vu,.none] } } σ H3 x v vl vu l u s3.heap.objs.size Q I4 r1 (Heap.IsSliceOf.new ..) pl pu q3;show wpAny (model X.prog X.w) X.A (subscriptTail e (.Slice lo hi none p2) v (.ref s3.heap.objs.size)) (EP X pins σ Q) X.xe { s3 with heap:=s3.heap.push { cls:=.type "slice",data:=.fields #[vl,vu,.none] } };exact tail_any (ops:=[.ref s3.heap.objs.size,v]) ht hT hg (by with_unfolding_all rfl)
noncomputable def cN(xs:List V)(lo hi:Option Int):List V:=(xs.drop (HT.sIx xs.length 0 lo)).take (HT.sIx xs.length xs.length hi-HT.sIx xs.length 0 lo)
theorem Bt(xs:List V)(lo hi:Option Int):(cN xs lo hi).length<=xs.length:=by unfold cN;rw[FE,GV];omega
end
noncomputable def ixN(n:Nat)(i:Int):Option Nat:=if 0<=i then(if i<n then some i.toNat else none)else if -(n:Int)<=i then some (i+n).toNat else none
noncomputable def atI{α:Type}(xs:List α)(i:Int):Option α:=(ixN xs.length i).bind λj=>xs[j]?
theorem rE{n:Nat}{i:Int}{j:Nat}(h:ixN n i=some j):seqIndex? i n=some j/\j<n /\ -(n:Int)<=i/\i<n:=by
 unfold ixN at h
 by_cases h0:0<=i
 ·rw[if_pos h0]at h;by_cases h1:i<n
  ·rw[if_pos h1]at h;have e:i.toNat=j:=Option.some.inj h;exact⟨by rw[seqIndex_of h0 h1,e],by omega,by omega,h1⟩
  ·rw[if_neg h1]at h;cases h
 ·rw[if_neg h0]at h;by_cases h1 : -(n:Int)<=i
  ·rw[if_pos h1]at h;have e:(i+n).toNat=j:=Option.some.inj h;exact⟨by rw[seqIndex_neg (by omega) h1,e],by omega,h1,by omega⟩
  ·rw[if_neg h1]at h;cases h
theorem tZ{α:Type}{xs:List α}{i:Int}{v:α}(h:atI xs i=some v):∃j,seqIndex? i xs.length=some j/\xs[j]?=some v/\j<xs.length /\ -(xs.length:Int)<=i/\i<xs.length:=by
 unfold atI at h
 cases e:ixN xs.length i with
 |none=>rw[e]at h;cases h
 |some j =>rw[e]at h;obtain⟨h1,h2,h3,h4⟩:=rE e;exact⟨j,h1,h,h2,h3,h4⟩
theorem fv{α:Type}{xs:List α}{j:Nat}{v:α}(h:xs[j]?=some v):atI xs (j:Int)=some v:=by
 have hj:j<xs.length:=(List.getElem?_eq_some_iff.mp h).1
 have e:ixN xs.length (j:Int)=some j:=by unfold ixN;rw[if_pos (by omega),if_pos (by omega)];simp
 unfold atI;rw[e];exact h
theorem tY{α:Type}(xs:List α)(v:α):atI (xs++[v]) (-1)=some v:=by
 have hl:(xs++[v]).length=xs.length+1:=by simp
 have e:ixN (xs++[v]).length (-1)=some xs.length:=by
  unfold ixN;rw[hl,if_neg (by decide),if_pos (by omega)]
  congr 1
  omega
 unfold atI;rw[e];show(xs++[v])[xs.length]?=some v;simp
def CD(b:Expr):Prop:=∀o i,subscripted b false o i=operate [o,i] (getItem o i)
noncomputable def IxR(X:Cx)(r:R2):Prop :=
 ∀(value slice:Expr) (pins:List (Addr×Obj)) (s:Shared) (σ:St) (H:Hp) (x y:V) (v u:Value) (Q:VK),Inv X pins σ H s->RelV x v->RelV y u->r x y H Q ->
  subscripted slice false v u=operate [v,u] (getItem v u)->wpAny (model X.prog X.w) X.A (subscriptTail value slice v u) (EP X pins σ Q) X.xe s
noncomputable def MtR(X:Cx)(id:String)(r:V->List V->Hp->VK->Prop):Prop :=
 ∀(pins:List (Addr×Obj)) (s:Shared) (σ:St) (H:Hp) (x:V) (xs:List V) (v:Value) (us:List Value) (Q:VK),Inv X pins σ H s->RelV x v->Vals xs us->r x xs H Q ->
  wpAny (model X.prog X.w) X.A (call (.builtin id) (v::us)) (EP X pins σ Q) X.xe s
section
variable {X:Cx}{a b:Expr}{ta tb:TE}{pos:Pos}
theorem IxR.or{r r':R2}(h:IxR X r)(h':IxR X r'):IxR X (λx y H Q=>r x y H Q\/r' x y H Q):=by
 intro value slice pins s σ H x y v u Q I rx ry q hs;rcases q with q |q
 ·exact h value slice pins s σ H x y v u Q I rx ry q hs
 ·exact h' value slice pins s σ H x y v u Q I rx ry q hs
theorem MtR.or{id:String}{r r':V->List V->Hp->VK->Prop}(h:MtR X id r)(h':MtR X id r'):MtR X id (λx xs H Q=>r x xs H Q\/r' x xs H Q):=by
 intro pins s σ H x xs v us Q I rx rs q;rcases q with q |q
 ·exact h pins s σ H x xs v us Q I rx rs q
 ·exact h' pins s σ H x xs v us Q I rx rs q
theorem al{r:R2}(hr:IxR X r)(ha:PE X a ta)(hb:PE X b tb)(hs:CD b):PE X (.Subscript a b pos) (tOp r ta tb):=by intro pins s σ H Q I h;exact Subscript_ (mE ha hb I h λv u s2 x y H2 I2 rx ry q=>hr a b pins s2 σ H2 x y v u Q I2 rx ry q (hs _ _))
def pT(K:PySem.W.Frag):R2:=λx y H Q=>∃p xs i v,x=.ref p/\y=.int i/\SqL K H p xs/\atI xs i=some v/\Q v H
def pS(K:PySem.W.Frag):R2:=λx y H Q=>∃p xs i v,x=.ref p/\y=.int i/\SqT K H p xs/\atI xs i=some v/\Q v H
theorem As:IxR X (pT X.K):=by
 intro value slice pins s σ H x y v u Q I rx ry h hs;obtain⟨p,xs,i,z,rfl,rfl,hq,he,q⟩:=h;cases rx;obtain⟨t,rfl⟩:=ry;obtain⟨its,r,pl,hz⟩:=I.list hq;obtain⟨j,h1,h2,h3,h4,h5⟩:=tZ he;obtain⟨w,ew,rw'⟩:=r.get h2;have hl:=r.length;have hn:=iM;have fin:EP X pins σ Q w s:=⟨z,H,I,rw',q⟩;by_cases h0:0<=i
 ·have hj:i.toNat=j:=by rw[seqIndex_of h0 h5]at h1;exact Option.some.inj h1
  exact item_listR pl.isList h0 (by omega) (by rw[hj];simpa using ew) fin hs
 ·have hj:(i+(its.toArray.size:Int)).toNat=j:=by rw[seqIndex_neg (by omega) h4]at h1;rw[Fw,<- hl];exact Option.some.inj h1
  exact subscriptTail_builtinR (x:=w) pl.isList.typeIs slot_list_getitem.lookup
   (wpAny_getItem_list_neg (Q:=λr s'=>r=w/\EP X pins σ Q r s') pl.isList (by omega) (by rw[Fw]<;>omega) (by omega) (by rw[hj];simpa using ew) ⟨rfl,fin⟩) hs
theorem Ar:IxR X (pS X.K):=by
 intro value slice pins s σ H x y v u Q I rx ry h hs;obtain⟨p,xs,i,z,rfl,rfl,hq,he,q⟩:=h;cases rx;obtain⟨t,rfl⟩:=ry;obtain⟨its,r,pl,hz⟩:=I.tuple hq;obtain⟨j,h1,h2,h3,h4,h5⟩:=tZ he;obtain⟨w,ew,rw'⟩:=r.get h2;have hl:=r.length;have hn:=iM;have fin:EP X pins σ Q w s:=⟨z,H,I,rw',q⟩
 exact subscriptTail_builtinR (x:=w) pl.typeIs slot_tuple_getitem.lookup
  (getItem_tuple (j:=j) (Q:=λr s'=>r=w/\EP X pins σ Q r s') pl (by omega) (by omega) (by rw[Fw,<- hl];exact h1) (by simpa using ew) ⟨rfl,fin⟩) hs
theorem yV(its:List Value)(n j:Nat)(u:Value):Obj.mapSeq (·.setIfInBounds j u) { cls:=.type "list",data:=.seq its.toArray n }={ cls:=.type "list",data:=.seq (its.set j u).toArray n }:=by simp[Obj.mapSeq]
theorem Inv.lst{pins:List (Addr×Obj)}{σ:St}{H:Hp}{s:Shared}{p:Addr}{xs:List V}(I:Inv X pins σ H s)(h:H p=some (.lst xs)) :
 ∃(its:List Value) (n:Nat),Vals xs its/\s.heap.get? p=some { cls:=.type "list",data:=.seq its.toArray n }/\xs.length<=sizeLine:=by
 obtain⟨z,its,n,r,e⟩:=I.hok p _ h;exact⟨its,n,r,e,z⟩
theorem Inv.lstUpd{pins:List (Addr×Obj)}{σ:St}{H:Hp}{s:Shared}{p:Addr}{xs ys:List V}{its its':List Value}{n n':Nat}{f:Obj->Obj}(I:Inv X pins σ H s)(h:H p=some (.lst xs))
 (ho:s.heap.get? p=some { cls:=.type "list",data:=.seq its.toArray n }) (hf:f { cls:=.type "list",data:=.seq its.toArray n }={ cls:=.type "list",data:=.seq its'.toArray n' }) (r:Vals ys its') (hz:ys.length<=sizeLine) (t:Nat) :
 Inv X pins σ (upd H p (.lst ys)) { s with heap:=s.heap.update p f,toks:=t }:=by
 have e:(s.heap.update p f).get? p=some { cls:=.type "list",data:=.seq its'.toArray n' }:=by rw[Heap.get?_update_self f ho (by rw[hf]<;>rfl),hf]
 refine I.write (x:=p) (e:=p) (by rw[h];trivial) (.inl rfl) (λb u hb q=>(Heap.get?_update_other _ _ (Ne.symm hb)).trans q) ⟨_,e⟩ ?_;exact⟨hz,its',n',r,e⟩
noncomputable def wt:V->V->V->Hp->(Hp->Prop)->Prop:=λo i v H Q=>∃p xs k j,o=.ref p/\i=.int k/\H p=some (.lst xs)/\ixN xs.length k=some j/\Q (upd H p (.lst (xs.set j v)))
theorem cq:ua X wt:=by
 intro pins s σ H o i v ov iv u Q I ro ri rv h;obtain⟨p,xs,k,j,rfl,rfl,hp,hj,q⟩:=h;cases ro;obtain⟨t,rfl⟩:=ri;obtain⟨its,n,r,ho,hz⟩:=I.lst hp;obtain⟨h1,h2,h3,h4⟩:=rE hj;have hl:=r.length;have hn:=iM
 have I':Inv X pins σ (upd H p (.lst (xs.set j v))) { s with heap:=s.heap.update p (Obj.mapSeq (·.setIfInBounds j u)) } :=
  I.lstUpd hp ho (yV its n j u) (r.set rv j) (by rw[Ga];exact hz) s.toks
 by_cases h0:0<=k
 ·have hk:k.toNat=j:=by rw[seqIndex_of h0 h4]at h1;exact Option.some.inj h1
  exact PySem.W.ki_setAt ho h0 (by omega) (by rw[Fw,<- hl];exact h4) (by rw[hk];exact⟨_,I',q⟩)
 ·have hk:(k+(its.toArray.size:Int)).toNat=j:=by rw[seqIndex_neg (by omega) h3]at h1;rw[Fw,<- hl];exact Option.some.inj h1
  exact PySem.W.ki_setBack ho (by omega) (by rw[Fw,<- hl];exact h3) (by omega) (by rw[hk];exact⟨_,I',q⟩)
theorem vc(lo hi:Option Int)(n:Nat):(sliceBounds lo hi none n).1=((HT.sIx n 0 lo:Nat):Int)/\(sliceBounds lo hi none n).2.1=((HT.sIx n n hi:Nat):Int)/\(sliceBounds lo hi none n).2.2=1:=by
 refine⟨?_,?_,rfl⟩
 ·cases lo with
  |none=>simp[sliceBounds,HT.sIx]
  |some i =>
   simp only[sliceBounds,HT.sIx,Option.getD_none,show(1:Int)>0 by decide,if_true];by_cases h:i<0
   ·simp only[h,if_true]<;>omega
   ·simp only[h,if_false]<;>omega
 ·cases hi with
  |none=>simp[sliceBounds,HT.sIx]
  |some i =>
   simp only[sliceBounds,HT.sIx,Option.getD_none,show(1:Int)>0 by decide,if_true];by_cases h:i<0
   ·simp only[h,if_true]<;>omega
   ·simp only[h,if_false]<;>omega
theorem ve(its:List Value)(lo hi:Option Int):slicePick its.toArray lo hi none=((its.drop (HT.sIx its.length 0 lo)).take (HT.sIx its.length its.length hi-HT.sIx its.length 0 lo)).toArray:=by obtain⟨h1,h2,h3⟩:=vc lo hi its.toArray.size;unfold slicePick;rw[h1,h2,h3];simp only[sliceRange_one,pick_run,Fw]<;>rfl
noncomputable def iy(K:PySem.W.Frag):V->Option Int->Option Int->Hp->VK->Prop:=λx lo hi H Q=>∃a xs,x=.ref a/\SqL K H a xs/\∀p,H p=none->Q (.ref p) (upd H p (.lst (cN xs lo hi)))
theorem vf:SlR X (iy X.K):=by intro pins s σ H x v vl vu lo hi sl Q I rx hs pl pu h;obtain⟨a,xs,rfl,hx,q⟩:=h;cases rx;obtain⟨its,r,ht,hz⟩:=I.list hx;have hlen:=r.length;refine⟨"list",_,slot_list_getitem.lookup,ht.isList.typeIs,?_⟩;refine wpAny_getItem_list_slice ht.isList hs pl pu .none (by simp) ?_ (by rw[Fw]<;>omega);rw[ve,<- hlen];refine⟨.ref s.heap.objs.size,_,I.laid (t':=s.toks) (o:=.lst (cN xs lo hi)) (λb ob q=>Heap.get?_push_of_some _ q) (Fl _) ?_,rfl,q _ (I.hok.fresh (Fl _))⟩;exact⟨FA (Bt xs lo hi) hz,_,0,(r.drop (HT.sIx xs.length 0 lo)).take (HT.sIx xs.length xs.length hi-HT.sIx xs.length 0 lo),Heap.get?_push_size _ rfl⟩
theorem BV:CallR X (.builtin "len") (λxs H Q=>∃p ys,xs=[.ref p]/\(SqL X.K H p ys\/SqT X.K H p ys)/\Q (.int ys.length) H):=by
 intro pins s σ H xs us Q I r h;obtain⟨p,ys,rfl,hq,q⟩:=h;obtain⟨u,rfl,rx⟩:=fy r;cases rx;have hn:=iM;rcases hq with hq |hq
 ·obtain⟨its,r',pl,hz⟩:=I.list hq;have hlen:=r'.length;exact Calls.call_len_list pl.isList (by simp only[Fw]<;>omega) ⟨.int ys.length,H,I.tok _,⟨s.toks+1,by rw[Fw,hlen]⟩,q⟩
 ·obtain⟨its,r',pl,hz⟩:=I.tuple hq;have hlen:=r'.length;exact len_tuple pl (by simp only[Fw]<;>omega) ⟨.int ys.length,H,I.tok _,⟨s.toks+1,by rw[Fw,hlen]⟩,q⟩
theorem CallR.or{f:Value}{r r':List V->Hp->VK->Prop}(h:CallR X f r)(h':CallR X f r'):CallR X f (λxs H Q=>r xs H Q\/r' xs H Q):=by
 intro pins s σ H xs us Q I rs q;rcases q with q |q
 ·exact h pins s σ H xs us Q I rs q
 ·exact h' pins s σ H xs us Q I rs q
theorem BT:CallR X (.type "list") (λxs H Q=>∃p ys,xs=[.ref p]/\(SqL X.K H p ys\/SqT X.K H p ys)/\∀l,H l=none->Q (.ref l) (upd H l (.lst ys))):=by
 intro pins s σ H xs us Q I r h;obtain⟨p,ys,rfl,hq,q⟩:=h;obtain⟨u,rfl,rx⟩:=fy r;cases rx
 have fin:∀(its:List Value),Vals ys its->ys.length<=sizeLine->∀(h':Heap) (c':Nat),(∀b o',s.heap.get? b=some o'->h'.get? b=some o') ->
  h'.get? s.heap.objs.size=some { cls:=.type "list",dict:=none,data:=.seq its.toArray c',slots:=#[] }->EP X pins σ Q (.ref s.heap.objs.size) { s with heap:=h' }:=λits r' hz h' c' kp e =>
  ⟨.ref s.heap.objs.size,_,I.laid (t':=s.toks) kp (Fl _) (show ObjOk X.prog X.w _ h' _ (.lst ys)from⟨hz,its,c',r',e⟩),rfl,q _ (I.hok.fresh (Fl _))⟩
 rcases hq with hq |hq
 ·obtain⟨its,r',pl,hz⟩:=I.list hq;have hlen:=r'.length;obtain⟨o,ho,hc,n,hd⟩:=pl.isList;exact call_list_seq p (.inl rfl) ho hc hd (λh' c' kp e=>fin its r' hz h' c' kp e) (by simp only[Fw]<;>omega)
 ·obtain⟨its,r',pl,hz⟩:=I.tuple hq;have hlen:=r'.length;obtain⟨o,ho,hc,n,hd⟩:=pl;exact call_list_seq p (.inr rfl) ho hc hd (λh' c' kp e=>fin its r' hz h' c' kp e) (by simp only[Fw]<;>omega)
def tyV(K:PySem.W.Frag)(T:String)(x:V)(H:Hp):Prop:=match x with
 |.str _=>T="str"
 |.int _=>T="int"
 |.ref p=>(T="list"/\∃xs,SqL K H p xs)\/(T="tuple"/\∃o,K.lookup p=some o/\o.cls=.type "tuple"/\o.dict=none) \/
  (T="dict"/\((∃kvs,H p=some (.dK kvs))\/∃kvs,H p=some (.dT kvs)))\/(T="set"/\∃S n,H p=some (.set S n))
 |_=>False
theorem ux{pins:List (Addr×Obj)}{σ:St}{H:Hp}{s:Shared}{T:String}{x:V}{v:Value}(I:Inv X pins σ H s)(r:RelV x v)(ty:tyV X.K T x H) :
 s.TypeIs v T/\∀a,v=.ref a->∃ob,s.heap.get? a=some ob/\ob.dict=none:=by
 cases x with
 |str z =>obtain⟨t,rfl⟩:=r;cases(show T="str" from ty);exact⟨typeIs_str s z t,λ_ e=>nomatch e⟩
 |int i =>obtain⟨t,rfl⟩:=r;cases(show T="int" from ty);exact⟨typeIs_int s i t,λ_ e=>nomatch e⟩
 |ref p =>
  cases r;rcases ty with⟨rfl,xs,hq⟩ |⟨rfl,o,hk,hc,hd⟩ |⟨rfl,hk⟩ |⟨rfl,S,n,hk⟩
  ·obtain⟨its,_,pl,_⟩:=I.list hq;refine⟨pl.isList.typeIs,λa e=>?_⟩;cases e;obtain⟨o,n,e,c,hd,_⟩:=pl;exact⟨o,e,hd⟩
  ·refine⟨⟨o,I.kIn p o hk,hc⟩,λa e=>?_⟩;cases e;exact⟨o,I.kIn _ o hk,hd⟩
  ·have z:∃o,s.heap.get? p=some o/\o.ExactDict:=by
    rcases hk with⟨kvs,hk⟩ |⟨kvs,hk⟩
    ·obtain⟨_,_,_,_,o,_,_,e,ex,_⟩:=I.hok p _ hk;exact⟨o,e,ex⟩
    ·obtain⟨_,_,_,_,o,_,_,e,ex,_⟩:=I.hok p _ hk;exact⟨o,e,ex⟩
   obtain⟨o,e,ex⟩:=z;refine⟨⟨o,e,ex.1⟩,λa e2=>?_⟩;cases e2;exact⟨o,e,ex.2.1⟩
  ·obtain⟨o,_,_,_,e,ex,_⟩:=I.hok p _ hk;refine⟨⟨o,e,ex.1⟩,λa e2=>?_⟩;cases e2;exact⟨o,e,ex.2.1⟩
 |_=>exact False.elim ty
def tBM(K:PySem.W.Frag)(T:String)(r:V->List V->Hp->VK->Prop)(to:TE)(t:TA):TE:=λσ H Q=>to σ H λx H1=>tyV K T x H1/\t σ H1 λxs H2=>r x xs H2 Q
variable {o e:Expr}{es:List Expr}{to:TE}{t:TA}{name:Str}{apos cpos:Pos}{T id:String}{r:V->List V->Hp->VK->Prop}
theorem dB(pa:PlainAttrs T)(slot:Slot T name id)(hty:typeOf (.builtin id)=pure (.type "method_descriptor"))(hm:MtR X id r)(ho:PE X o to)(ha:PA X (e::es) t)
 (hbase:attributeBase o name X.env (eval o X.env)=eval o X.env:=by rfl)
 (hfew:((backTo cpos (starEach (e::es) X.env)).all (λx=>!x.1)&&(backToKw cpos (keywordEach [] X.env)).all (λx=>x.1.isSome)
   && decide ((e::es).length+([]:List Keyword).length+(if([]:List Keyword).isEmpty then 0 else 1)<30))=true:=by rfl)
 (hline:(apos.endLine == cpos.line)=true:=by rfl) (hs:starEach (e::es) X.env=(false,eval e X.env)::starEach es X.env:=by rfl) (hplain:(backTo cpos (starEach es X.env)).any (·.1)=false:=by rfl) :
 PE X (.Call (.Attribute o name apos) (e::es) [] cpos) (tBM X.K T r to t):=by
 intro pins s σ H Q I h;refine wpAny_Call_method_late hbase hfew hline rfl (thn (ho pins s σ H _ I h) λv s1 ⟨x,H1,I1,r1,ty,q1⟩=>?_);obtain⟨h1,h2⟩:=ux I1 r1 ty;refine⟨T,id,pa,slot,hty,h1,h2,?_⟩;have hA:=ha cpos pins s1 σ H1 _ I1 q1;rw[hs]at hA ⊢;refine Calls.callWith_builtin (by show(false || (backTo cpos (starEach es X.env)).any (·.1))=false;rw[hplain]<;>rfl) (Calls.evalArgs_plain ?_);exact thn hA λus s2 ⟨vs,H2,I2,r2,q2⟩=>hm pins s2 σ H2 x vs v us Q I2 r1 r2 q2
end
noncomputable def MtM(X:Cx)(id:String)(r:V->List V->Hp->VK->Prop):Prop :=
 ∀(pins:List (Addr×Obj)) (s:Shared) (σ:St) (H:Hp) (x:V) (xs:List V) (v:Value) (us:List Value) (Q:VK),Inv X pins σ H s->RelV x v->Vals xs us->r x xs H Q ->
  wpAny (model X.prog X.w) X.A (call (.builtin id) (v::us)) (EP X pins σ Q) X.xe s
theorem Vals.one:∀{x:V} {us:List Value},Vals [x] us->∃u,us=[u]/\RelV x u
 |_,_,.cons r .nil=>⟨_,rfl,r⟩
theorem Vals.two:∀{x y:V} {us:List Value},Vals [x,y] us->∃u v,us=[u,v]/\RelV x u/\RelV y v
 |_,_,_,.cons r (.cons q .nil)=>⟨_,_,rfl,r,q⟩
theorem Vals.zero:∀{us:List Value},Vals [] us->us=[]
 |_,.nil=>rfl
theorem Vals.eraseIdx:∀{xs:List V} {us:List Value} (i:Nat),Vals xs us->Vals (xs.eraseIdx i) (us.eraseIdx i)
 |_,_,_,.nil=>.nil
 |_,_,0,.cons _ t=>t
 |_,_,i+1,.cons r t=>.cons r (Vals.eraseIdx i t)
theorem Vals.reverse{xs:List V}{us:List Value}(h:Vals xs us):Vals xs.reverse us.reverse:=by
 induction h with
 |nil=>exact .nil
 |cons r t ih=>rw[List.reverse_cons,List.reverse_cons];exact Vals.append ih (.cons r .nil)
theorem Vals.rep{xs:List V}{us:List Value}(h:Vals xs us):∀k:Nat,Vals (List.replicate k xs).flatten (List.replicate k us).flatten
 |0=>.nil
 |k+1=>by rw[GD,GD,Ha,Ha];exact Vals.append h (Vals.rep h k)
theorem rh{α:Type}:∀(l:List α) (i:Nat),(l.eraseIdx i).length<=l.length
 | [],_=>Fl _
 |_::_,0=>Nat.le_succ _
 |_::r,i+1=>Nat.succ_le_succ (rh r i)
theorem sf(its:List Value):∀(k:Nat) (acc:List Value),
 List.foldl (λx1 x2=>x1++x2) acc.toArray (List.replicate k its.toArray)=(acc++(List.replicate k its).flatten).toArray
 |0,acc=>by simp
 |k+1,acc=>by
  have e:acc.toArray++its.toArray=(acc++its).toArray:=by simp
  have e2:(acc++its)++(List.replicate k its).flatten=acc++(List.replicate (k+1) its).flatten:=by rw[GD,Ha,List.append_assoc]
  rw[<- e2,<- sf its k (acc++its),<- e,GD,List.foldl_cons]
section
variable {X:Cx}{pins:List (Addr×Obj)}{σ:St}{H:Hp}{s:Shared}{l b:Addr}{xs ys zs:List V}
theorem Inv.lset{its its':List Value}{n:Nat}{f:Array Value->Array Value}{t':Nat}(I:Inv X pins σ H s)(hH:H l=some (.lst xs))
 (e:s.heap.get? l=some { cls:=.type "list",data:=.seq its.toArray n }) (hf:f its.toArray=its'.toArray) (hv:Vals ys its') (hz:ys.length<=sizeLine) :
 Inv X pins σ (upd H l (.lst ys)) { s with heap:=s.heap.update l (Obj.mapSeq f),toks:=t' }:=by
 have q:=PySem.IsL.update e f;rw[hf]at q;refine I.write (x:=l) (e:=l) (by rw[hH];exact trivial) (.inl rfl) (λb' u hb hu=>(Heap.get?_update_other s.heap (Obj.mapSeq f) (Ne.symm hb)).trans hu) ⟨_,q⟩ ?_;exact⟨hz,its',_,hv,q⟩
theorem Inv.lnew{its:List Value}{t':Nat}(I:Inv X pins σ H s)(hv:Vals ys its)(hz:ys.length<=sizeLine) :
 Inv X pins σ (upd H s.heap.objs.size (.lst ys)) { s with heap:=s.heap.push { cls:=.type "list",data:=.seq its.toArray },toks:=t' } :=
 I.laid (λ_ _ q=>Heap.get?_push_of_some _ q) (Fl _) ⟨hz,its,0,hv,Heap.get?_push_size _ rfl⟩
theorem Inv.fresh(I:Inv X pins σ H s):H s.heap.objs.size=none:=I.hok.fresh (Fl _)
theorem Inv.lstM(I:Inv X pins σ H s)(hH:H l=some (.lst xs)):xs.length<=sizeLine/\∃(its:List Value) (n:Nat),Vals xs its/\xs.length=its.length/\s.heap.get? l=some { cls:=.type "list",data:=.seq its.toArray n }:=by obtain⟨z,its,n,r,e⟩:=I.hok l _ hH;exact⟨z,its,n,r,r.length,e⟩
theorem yC{n:Nat}(h:n<=sizeLine):Builtin.List.listTooLong n=false:=by unfold Builtin.List.listTooLong;exact decide_eq_false (by omega)
end
section
variable {X:Cx}
noncomputable def wA:V->List V->Hp->VK->Prop:=λx vs H Q=>∃l xs y,x=.ref l/\vs=[y]/\H l=some (.lst xs)/\xs.length<sizeLine/\Q .non (upd H l (.lst (xs++[y])))
theorem eV:MtM X "list.append" wA:=by intro pins s σ H x vs v us Q I rx rv h;obtain⟨l,xs,y,rfl,rfl,hH,hz,q⟩:=h;cases rx;obtain⟨u,rfl,ru⟩:=rv.one;obtain⟨z,its,n,r,hl,e⟩:=I.lstM hH;refine call_meets F.slot_list_append ⟨_,e,rfl⟩ F.entry_list_append (F.args_list_append_2 _ _) (PySem.list_append l its.toArray n u (by rw[Fw];omega)) ⟨e,?_⟩;refine⟨.non,_,I.lset (its':=its++[u]) hH e (by simp) (r.append (.cons ru .nil)) ?_,rfl,q⟩;rw[Fp,List.length_singleton];omega
noncomputable def wv:V->List V->Hp->VK->Prop:=λx vs H Q=>∃l xs i k y,x=.ref l/\vs=[.int i]/\H l=some (.lst xs) /\ -(2^63)<=i/\i<2^63/\seqIndex? i xs.length=some k/\xs[k]?=some y/\Q y (upd H l (.lst (xs.eraseIdx k)))
theorem yM:MtM X "list.pop" wv:=by
 intro pins s σ H x vs v us Q I rx rv h;obtain⟨l,xs,i,k,y,rfl,rfl,hH,h1,h2,hk,hy,q⟩:=h;cases rx;obtain⟨u,rfl,ru⟩:=rv.one;obtain⟨t,rfl⟩:=ru;obtain⟨z,its,n,r,hl,e⟩:=I.lstM hH;obtain⟨w,hw,rw'⟩:=r.get hy
 refine call_meets F.slot_list_pop ⟨_,e,rfl⟩ F.entry_list_pop (F.args_list_pop_2 _ _)
  (MeetsSeq.list_pop_at l its.toArray n i t k w (fitsIndex_both h1 h2) (by rw[Fw,<- hl];exact hk) (by rw[<- Array.getElem?_toList];exact hw) (by rw[Fw];omega)) ⟨e,?_⟩
 refine⟨y,_,I.lset (its':=its.eraseIdx k) hH e ?_ (r.eraseIdx k) ?_,rw',q⟩
 ·show its.toArray.eraseIdxIfInBounds k=(its.eraseIdx k).toArray;rw[List.eraseIdxIfInBounds_toArray]
 ·have:=rh xs k;omega
def wz:R2:=λx y H Q=>∃l b xs zs,x=.ref l/\y=.ref b/\H l=some (.lst xs)/\H b=some (.lst zs)/\xs.length+zs.length<=sizeLine/\∀p,H p=none->Q (.ref p) (upd H p (.lst (xs++zs)))
theorem xr:OpR X (binaryOp .Add) wz:=by
 intro pins s σ H x y v u Q I rx ry h;obtain⟨l,b,xs,zs,rfl,rfl,hH,hB,hz,q⟩:=h;cases rx;cases ry;obtain⟨z,its,n,r,hl,e⟩:=I.lstM hH;obtain⟨z2,its2,n2,r2,hl2,e2⟩:=I.lstM hB;refine PySem.P.add_list e e2 ?_ (by rw[Fw,Fw];omega);have ea:its.toArray++its2.toArray=(its++its2).toArray:=by simp
 rw[ea];exact⟨.ref _,_,I.lnew (t':=s.toks) (r.append r2) (by rw[Fp];omega),rfl,q _ I.fresh⟩
def wu:R2:=λx y H Q=>∃l k xs,x=.ref l/\y=.int k/\H l=some (.lst xs) /\ -(2^63)<=k/\k<2^63/\xs.length*k.toNat<=sizeLine /\
 ∀p,H p=none->Q (.ref p) (upd H p (.lst (List.replicate k.toNat xs).flatten))
theorem zE{α:Type}(xs:List α)(k:Nat):(List.replicate k xs).flatten.length=k*xs.length:=by
 induction k with
 |zero=>simp
 |succ k ih=>rw[GD,Ha,Fp,ih,Nat.succ_mul,Nat.add_comm]
theorem xb:OpR X (binaryOp .Mult) wu:=by
 intro pins s σ H x y v u Q I rx ry h;obtain⟨l,k,xs,rfl,rfl,hH,h1,h2,hz,q⟩:=h;cases rx;obtain⟨t,rfl⟩:=ry;obtain⟨z,its,n,r,hl,e⟩:=I.lstM hH;have hlen:its.toArray.size*k.toNat<=sizeLine:=by rw[Fw,<- hl];exact hz
 have hcap:¬its.toArray.size*k.toNat>(2^63-1)/8:=by
  have:(sizeLine:Nat)<=(2^63-1)/8:=by decide
  omega
 have hfit:¬(!Builtin.List.listFitsIndex k)=true:=by rw[fitsIndex_both h1 h2];exact GA
 have hlong:¬Builtin.List.listTooLong (its.toArray.size*k.toNat)=true:=by rw[yC hlen];exact GA
 have hnew:List.foldl (λx1 x2=>x1++x2) #[] (List.replicate (if its.toArray.isEmpty=true then 0 else k.toNat) its.toArray)=(List.replicate k.toNat its).flatten.toArray:=by
  have f0:∀m:Nat,List.foldl (λx1 x2=>x1++x2) #[] (List.replicate m its.toArray)=(List.replicate m its).flatten.toArray:=λm=>by have:=sf its m [];rw[List.nil_append]at this;exact this
  rw[f0];cases its with
  |nil=>simp
  |cons a r'=>rw[if_neg (by simp)]
 refine wpAny_binaryOp_repeat_ref (T:="list") (U:="int") (by decide) ⟨_,e,rfl⟩ (λs'=>typeIs_int s' k t) noFill_list_mul F.fills_int_mul F.slot_int_rmul repeat_list F.slot_int_index.lookup
  (call_meets F.slot_int_rmul (typeIs_int s k t) F.entry_int_rmul (F.args_int_rmul_2 _ _) (int___rmul___int_list k t l its.toArray n)
    ⟨e,rfl,⟨_,e,rfl⟩,call_meets F.slot_list_mul ⟨_,e,rfl⟩ F.entry_list_mul (F.args_list_mul_2 _ _) (AutoListH.list___mul___list_int_3 l its.toArray n k t hfit hcap hlong) ⟨e,?_⟩⟩)
 rw[hnew];exact⟨.ref _,_,I.lnew (t':=s.toks) (r.rep k.toNat) (by rw[zE,Nat.mul_comm];exact hz),rfl,q _ I.fresh⟩
end
section
variable {prog:Program}{w:World}{A:Around}{E:Value->Shared->Prop}{s:Shared}
end
section
variable {X:Cx}
end
end L2
namespace Att
open PySem PySem.W PySem.Calls PyProof.Rows
theorem Aw{P:Params}{h:Heap}:∀(ns:List Int) (vs:List Value),WellAll P h vs (ns.map WData.int)->IntsAre vs ns:=by
 intro ns
 induction ns with
 |nil =>intro vs w;rw[GU]at w;cases w;exact .nil
 |cons n ns ih =>
  intro vs w;rw[FZ]at w;cases w with
  |cons a b =>cases a;exact .cons _ _ (ih _ b)
theorem vF{l:OpenLaw}{n:Nat}(hn:l.most=some n){P:Params}{h:Heap}{args:List WData}{vals:List Value}
 (hpre:l.row.toRowW.claim.pre args=true) (hwl:WellAll P h vals args) :
 ∃a vs ns,vals=[Value.ref a]/\args=[WData.list (ns.map WData.int)]/\h.get? a=some { cls:=.type "list",data:=.seq vs.toArray }/\IntsAre vs ns/\ns.length<=n:=by
 have hsh:WShape.hasAll [] args [.list .int]=true:=(pre_splitW hpre).1;have hc:l.pre.holds [] { args:=args }=true:=(pre_splitW hpre).2;obtain⟨d,r,rfl,h1,h2⟩:=hasAllW_cons hsh;obtain rfl:=hasAllW_nil h2;obtain⟨xs,rfl,h3⟩:=hasW_list h1;obtain⟨ns,rfl⟩:=items_int h3
 have hlen:ns.length<=n:=by
  unfold OpenLaw.pre at hc
  have h4:(WTm.not (.lt (.lit (.int (n:Int))) (.len (.arg 0)))).holds [] { args:=[.list (ns.map .int)] }=true:=by have h4:=(holds_andW hc).1;rw[hn]at h4;exact h4
  have h5:=condW_of h4 (w_not (w_lt w_lit (w_len_list (w_arg rfl))));rw[Fk]at h5;refine Gd λq=>?_
  have q':(n:Int)<((ns.length:Nat):Int):=by omega
  first
   | (rw[decide_eq_true q']at h5;exact absurd h5 (by decide))
   | (simp at h5;omega)
 cases hwl with
 |cons w1 w2 =>
  cases w2;cases w1 with
  |list ho hall=>exact⟨_,_,ns,rfl,rfl,ho,Aw ns _ hall,hlen⟩
theorem wJ(l:OpenLaw)(args:List WData):l.row.toRowW.claim.post args (.bool true) args=true :=
 postW_of (r:=l.row.toRowW) (X:=(true == true))
  (show WShape.has [] (.bool true) .bool=true by first |rfl |decide |simp[WShape.has,WShape.arms,WShape.armsAll])
  (show(WTm.eq .res (.lit (.bool true))).value [] { args:=args,res:=some (.bool true),after:=args }=some (.bool (true == true))from w_eq_bool (w_res rfl) w_lit) rfl
theorem attach_call{l:OpenLaw}{n:Nat}{q:Program}{loose:List Str}{XP:(Str->Option Value)->Heap->Prop}{YP:World->Heap->Prop}{d:DefRec}
 (hn:l.most=some n) (hdf:d.params.defaults=[])
 (call:∀(w:World) (s₀ s₁:Shared) (mg mb:Str->Option Value) (fa:Addr) (o:Obj) (pm cd doc:Value) (a:Addr) (vs:List Value) (ns:List Int),
   Ground q loose [] XP w s₀ mg mb s₁.heap->YP w s₁.heap ->
   s₁.heap.get? fa=some o->o.data=.func (docDef d.name d.params d.body d.scope pm cd doc)->s₁.heap.CodeRec cd d.name->mg d.name=some (.ref fa) ->
   s₁.heap.get? a=some { cls:=.type "list",data:=.seq vs.toArray }->IntsAre vs ns->ns.length<=n->s₁.gens=#[] ->
   codeAny (model l.prog w) callerA (.call (.ref fa) ⟨[.ref a],[]⟩) (λr s'=>r=.ok (.ret (.bool true))/\OldK s₁.heap s'.heap/\s'.os=s₁.os/\AllBare s'.gens) s₁) :
 WalkO q loose XP YP l.row.toRowW d [] (λf vs=>PySem.call f vs):=by
 intro w s₀ s₁ mg mb G Y fa o pm cd doc dV kV ho hd hcd hD hmg hg args vals as hpre hlay hrd hwl hlo;obtain rfl:dV=.none:=Dflts.none hD hdf;obtain rfl:kV=.none:=Dflts.noKw hD;obtain⟨a,vs,ns,rfl,rfl,hobj,hints,hlen⟩:=vF hn hpre hwl;refine enter_call (codeAny_mono (call w s₀ s₁ mg mb fa o pm cd doc a vs ns G Y ho (fd_plain hd) hcd hmg hobj hints hlen hg) λr s' hq=>?_);obtain⟨rfl,h2,h3,h4⟩:=hq;exact⟨.inl ⟨.bool true,.bool true,[],rfl,λ_=>rfl,.bool true,wJ l _,λ_=>⟨List.Pairwise.nil,λ_ hm=>(nomatch hm)⟩⟩,h2,h3,h4⟩
section
variable {prog:Program}{w:World}{A:Around}{E:Value->Shared->Prop}{s:Shared}{K:Frag}
end
end Att
namespace L2
open PySem PySem.Spec PyProof.Rows
theorem nF:∀{vs:List Value} {ns:List Int},IntsAre vs ns->Vals (ns.map V.int) vs
 |_,_,.nil=>.nil
 |_,_,.cons n t h=>.cons ⟨t,rfl⟩ (nF h)
def mS(H:Hp):Prop:=∀b,H b=none\/∃o xs,H b=some (.frz o (.lst xs))
noncomputable def rJ(s:Stmt)(j:Nat):Stmt:=match s with
 |.ClassDef _ _ _ body _ _ _ _ _ _ _=>body.getD j (.Pass ⟨0,0,0,0⟩)
 |_=>.Pass ⟨0,0,0,0⟩
noncomputable def cH(s:Stmt):Arguments:=match s with
 |.FunctionDef _ a _ _ _ _ _ _ _ _=>a
 |_=>{ posonlyargs:=[],args:=[],vararg:=none,kwonlyargs:=[],kw_defaults:=[],kwarg:=none,defaults:=[] }
noncomputable def cn(s:Stmt):List Stmt:=match s with
 |.FunctionDef _ _ b _ _ _ _ _ _ _=>b
 |_=>[]
noncomputable def ax(s:Stmt):Scope:=match s with
 |.FunctionDef _ _ _ _ _ _ sc _ _ _=>sc
 |_=>{ kind:=.function,names:=[],isGenerator:=false,isCoroutine:=false }
abbrev CX0:CXT:=λ_ _ _ _ _ _=>False
abbrev E0:XK:=λ_ _ _=>False
theorem au{X:Cx}:gg CX0 X E0:=λ_ _ _ _ _ _ _ h=>h.elim
structure Fun(K:PySem.W.Frag)(x qual:Str)(st:Stmt)(f:Addr)(fd:FuncData):Prop where
 ex:∃(oc:Value) (od:Option Addr) (kV doc pm:Value) (an:Option Addr) (cdv ct:Value) (osl:Array (Option Value)),
  fd=PySem.W.fnOf x qual (cH st) (cn st) (ax st) .none kV doc pm an cdv ct/\K.lookup f=some ⟨oc,od,.func fd,osl⟩/\PySem.W.codeIn K cdv qual=true
 kp:PySem.W.keepIn K (.ref f)=true
section
variable {P:Program}{w:World}{K:PySem.W.Frag}{mg:Str->Option Value}{base:Heap}
theorem Fun.ok{x qual:Str}{st:Stmt}{f:Addr}{fd:FuncData}{N ps:List Str}{k:Nat}{sp:Sp}(F:Fun K x qual st f fd)(S:FnScope N ps (ax st))(len:∀vs H Q E,sp vs H Q E->vs.length=ps.length)
 (hbody:∀(cdv:Value) (A:Around) (outer:List Env) (s:Shared) (H:Hp) (vs:List V) (Q:VK) (E:XK),Room k (A.deeper (envOfC qual (ax st) s.heap.objs.size f cdv))->sp vs H Q E ->
   ∃t,PSs (ff CX0 P w K mg base N qual (ax st) f cdv A outer s H E).nox (cn st) t/\t { nx:=λ_ H'=>Q .non H',rt:=Q } (du N vs) H):FnOk P w K mg base CX0 (k+1) f fd ps sp:=by
 obtain⟨oc,od,kV,doc,pm,an,cdv,ct,osl,rfl,lk,hcd⟩:=F.ex;refine sj lk hcd S len λA outer s H vs Q E hr hsp=>?_
 obtain⟨t,h,q⟩:=hbody cdv A outer s H vs Q E hr hsp;exact⟨t,h.nox,q⟩
theorem Fun.binds{x qual:Str}{st:Stmt}{f:Addr}{fd:FuncData}{ps:List Str}(F:Fun K x qual st f fd)
 (h:∀(kV doc pm:Value) (an:Option Addr) (cdv ct:Value) (us:List Value),us.length=ps.length->bindArgs (PySem.W.fnOf x qual (cH st) (cn st) (ax st) .none kV doc pm an cdv ct) ⟨us,[]⟩=pure (ps.zip us)):Binds K fd ps []:=by
 obtain⟨oc,od,kV,doc,pm,an,cdv,ct,osl,rfl,lk,hcd⟩:=F.ex;exact .all (h kV doc pm an cdv ct)
theorem r8{x qual:Str}{st:Stmt}{f:Addr}{oc:Value}{od an:Option Addr}{osl:Array (Option Value)}{kV doc pm cdv ct:Value}(l:K.lookup f=some ⟨oc,od,.func (PySem.W.fnOf x qual (cH st) (cn st) (ax st) .none kV doc pm an cdv ct),osl⟩)
 (c:PySem.W.codeIn K cdv qual=true) (k:PySem.W.keepIn K (.ref f)=true):Fun K x qual st f (PySem.W.fnOf x qual (cH st) (cn st) (ax st) .none kV doc pm an cdv ct):=⟨⟨oc,od,kV,doc,pm,an,cdv,ct,osl,rfl,l,c⟩,k⟩
end
section
variable {X:Cx}
theorem pv(i:Nat){x:Str}{pos:Pos}(hN:X.N[i]?=some x:=by rfl)(hv:Vis X.env.scope x:=by first |exact Or.inl rfl |exact Or.inr (Or.inl rfl) |exact Or.inr (Or.inr rfl))(hd:(x == ("__debug__":Str))=false:=by decide)
 (hcd:(x == ("__classdict__":Str))=false:=by decide):PE X (.Name x pos) (gX i):=wZ hN hv hd hcd
end
def Same(H H':Hp):Prop:=∀b o,H b=some o->H' b=some o
theorem Same.refl(H:Hp):Same H H:=λ_ _ h=>h
theorem Same.trans{H H1 H2:Hp}(a:Same H H1)(b:Same H1 H2):Same H H2:=λc o h=>b c o (a c o h)
theorem Same.free{H H':Hp}(e:Same H H'){l:Addr}(h:H' l=Option.none):H l=Option.none:=by
 cases q:H l with
 |none=>rfl
 |some o =>rw[e l o q]at h;cases h
theorem Same.seq{K:PySem.W.Frag}{H H':Hp}{a:Addr}{xs:List V}(e:Same H H')(h:SqL K H a xs):SqL K H' a xs:=by
 rcases h with(h |⟨o,h⟩) |h
 ·exact .inl (.inl (e _ _ h))
 ·exact .inl (.inr ⟨o,e _ _ h⟩)
 ·exact .inr h
end L2
set_option maxHeartbeats 4000000
namespace L2
open PySem PySem.Spec PyProof.Rows
noncomputable def dh(X:Cx)(N:List Str)(scope:Scope)(cl:List (Str×Addr))(C:Addr)(s₀:Shared)(H₀:Hp)(ex:List Addr):Cx where
 prog:=X.prog
 w:=X.w
 K:=X.K
 mg:=X.mg
 base:=X.base
 A:=X.A
 N:=N
 s₀:=s₀
 H₀:=H₀
 env:=compEnvC scope cl C X.env
 outer:=X.stack
 stack:=X.stack
 ex:=ex
 fn:=λ_=>false
 calm:=X.calm
 pn:=[]
 xe:=λ_ _=>False
structure CompOk(X:Cx)(fr:List Str)(js:List Nat)(scope:Scope)(cl:List (Str×Addr)):Prop where
 clos:closureFor scope X.env=pure cl
 cell:∀y∈scope.names,y.2≠.cell
 kind:scope.kind=.function
 names:∀y∈scope.names,y.2=.local->scope.names.lookup y.1=some .local
 clin:∀p∈cl,X.env.cells.lookup p.1=some p.2
 has:scope.names.all (λp=>p.2 != .free || (cl.lookup p.1).isSome)=true
 fre:Paired (λ(x:Str) (j:Nat)=>X.N[j]?=some x/\(X.env.scope.names.lookup x=some .cell\/X.env.scope.names.lookup x=some .free)/\scope.names.lookup x=some .free) fr js
theorem kx{env:Env}{x:Str}{k':NameKind}:∀{names:List (Str×NameKind)},
 (names.map λ(n,k)=>if(k == NameKind.free&&env.scope.kind == .function&&env.kindOf n == some .cell)then(n,NameKind.cell)else(n,k)).lookup x=some k' ->
 ∃k,names.lookup x=some k/\(k'=k\/(k=.free/\k'=.cell))
 | [],h=>by simp at h
 | (n,k)::r,h=>by
  have ih:=@kx env x k' r;change List.lookup x ((if(k == NameKind.free&&env.scope.kind == .function&&env.kindOf n == some .cell)=true then(n,NameKind.cell)else(n,k))::_)=_ at h
  by_cases hc:(k == NameKind.free&&env.scope.kind == .function&&env.kindOf n == some .cell)=true
  ·rw[if_pos hc]at h;cases hx:x == n with
   |true =>simp only[GE,hx]at h ⊢;cases h;refine⟨k,rfl,.inr ⟨?_,rfl⟩⟩;simp only[Bool.and_eq_true,beq_iff_eq]at hc;exact hc.1.1
   |false =>simp only[GE,hx]at h ⊢;exact ih h
  ·rw[if_neg hc]at h;cases hx:x == n with
   |true =>simp only[GE,hx]at h ⊢;cases h;exact⟨_,rfl,.inl rfl⟩
   |false =>simp only[GE,hx]at h ⊢;exact ih h
theorem pF{env:Env}{x:Str}:∀{names:List (Str×NameKind)},names.lookup x=some .free ->
 (names.map λ(n,k)=>if(k == NameKind.free&&env.scope.kind == .function&&env.kindOf n == some .cell)then(n,NameKind.cell)else(n,k)).lookup x=some .cell \/
 (names.map λ(n,k)=>if(k == NameKind.free&&env.scope.kind == .function&&env.kindOf n == some .cell)then(n,NameKind.cell)else(n,k)).lookup x=some .free
 | [],h=>by simp at h
 | (n,k)::r,h=>by
  have ih:=@pF env x r;show List.lookup x ((if(k == NameKind.free&&env.scope.kind == .function&&env.kindOf n == some .cell)=true then(n,NameKind.cell)else(n,k))::_)=_\/List.lookup x ((if(k == NameKind.free&&env.scope.kind == .function&&env.kindOf n == some .cell)=true then(n,NameKind.cell)else(n,k))::_)=_;by_cases hc:(k == NameKind.free&&env.scope.kind == .function&&env.kindOf n == some .cell)=true
  ·rw[if_pos hc];cases hx:x == n with
   |true=>simp only[GE,hx];exact .inl trivial
   |false=>simp only[GE,hx]at h ⊢;exact ih h
  ·rw[if_neg hc];cases hx:x == n with
   |true =>simp only[GE,hx]at h ⊢;cases h;exact .inr rfl
   |false=>simp only[GE,hx]at h ⊢;exact ih h
noncomputable def dX(n:Nat)(js:List Nat)(σ:St):St:=List.replicate n none++js.map λj=>(σ[j]?).join
def jl(n:Nat)(js:List Nat)(g:TG)(te:TE)(σ:St)(Q:VK)(J:It)(H1:Hp):Prop:=∃W:Nat->Nat->List V->St->Hp->Prop,(∃m,W 0 m [] (dX n js σ) H1) /\
 ∀i m ys σ' H',W i m ys σ' H' ->
  (J.stop i H'/\∀p,H' p=none->Q (.ref p) (upd H' p (.lst ys))) \/
  (J.go i H'/\ys.length<sizeLine/\∃N:V->St->Hp->Prop,(∀y σ'' H'',N y σ'' H''->∃m',m'<m/\W (i+1) m' (ys++[y]) σ'' H'')/\∀x H2,J.yld i H' x H2->g x σ' H2 λσ3 H3=>te σ3 H3 λy H4=>N y σ3 H4)
def nW(n:Nat)(js:List Nat)(wi:TI)(g:TG)(te:TE):TE:=λσ H Q=>wi σ H λJ H1=>jl n js g te σ Q J H1
noncomputable def Dh(X:Cx)(pins:List (Addr×Obj))(σ:St)(Q:VK)(D C:Addr)(s':Shared):Prop :=
 ∃H2,Inv X pins σ H2 s'/\Q (.ref D) H2/\H2 C=none/\C≠X.env.locals/\X.s₀.heap.objs.size<=C/\(∀x c,X.env.cells.lookup x=some c->c≠C)/\(∀p∈X.pn++pins,p.1≠C)/\∃m,s'.heap.Ns C m
section
variable {X:Cx}{own fr:List Str}{js:List Nat}{scope:Scope}{cl:List (Str×Addr)}{elt target iter:Expr}{pos:Pos}{wi:TI}{g:TG}{te:TE}
theorem d8(O:CompOk X fr js scope cl){x:Str}{c:Addr}(e:cl.lookup x=some c):X.env.cells.lookup x=some c:=O.clin (x,c) (PySem.mem_of_lookup e)
theorem sQ{pins:List (Addr×Obj)}{σ:St}{H:Hp}{s:Shared}{fp:List Addr}{C:Addr}(O:CompOk X fr js scope cl)(I:Inv X pins σ H s)(hC:s.heap.objs.size<=C)(hf:∀b∈fp,dr X pins H b)(ho:∀b∈fp,b<s.heap.objs.size) :
 (dh X (own++fr) scope cl C s H fp).Ok:=by
 refine⟨I.ok.mod,O.kind,I.ok.glob,I.ok.blt,hC,λx y c h1 h2=>I.ok.inj x y c (d8 O h1) (d8 O h2),λx hx=>?_,λx c h=>(by cases h),I.ok.hd,I.ok.frames,.inl rfl,λb hb=>?_,I.bs,?_,λb o e hb=>?_,λb hb hb'=>?_,I.stack,I.stkFree⟩
 ·have key:scope.names.lookup x=some .free:=by
   have hx':(scope.names.map λ(n,k)=>if(k == NameKind.free&&X.env.scope.kind == .function&&X.env.kindOf n == some .cell)then(n,NameKind.cell)else(n,k)).lookup x=some .cell \/
    (scope.names.map λ(n,k)=>if(k == NameKind.free&&X.env.scope.kind == .function&&X.env.kindOf n == some .cell)then(n,NameKind.cell)else(n,k)).lookup x=some .free:=hx
   rcases hx' with h |h
   ·obtain⟨k,e,z⟩:=kx h;rcases z with z |⟨z,_⟩
    ·subst z;exact absurd rfl (O.cell _ (PySem.mem_of_lookup e))
    ·subst z;exact e
   ·obtain⟨k,e,z⟩:=kx h;rcases z with z |⟨_,z⟩
    ·subst z;exact e
    ·cases z
  have hm:=GM.mp O.has _ (PySem.mem_of_lookup key);have hs:(cl.lookup x).isSome=true:=by simpa using hm
  exact Option.isSome_iff_exists.mp hs
 ·obtain⟨f0,f1,f2,f3,f4,f5⟩:=hf b hb;exact⟨FG (FF (ho b hb) hC),λx c e=>f4 x c (d8 O e)⟩
 ·exact FA I.ok.bsz I.sz
 ·obtain⟨f0,f1,f2,f3,f4,f5⟩:=hf b hb;rcases f3 with z |z
  ·exact I.ok.noex b o e z
  ·exact absurd (FF (Heap.lt_size e) (FA I.ok.bsz z)) (Gm _)
 ·obtain⟨f0,f1,f2,f3,f4,f5⟩:=hf b hb;rcases Ft.mp (I.stkSub b hb')with z |z
  ·exact f1 z
  ·exact f2 z
theorem Paired.idx{α β:Type}{F:α->β->Prop}:∀{l₁:List α} {l₂:List β},Paired F l₁ l₂->∀(i:Nat) (a:α) (b:β),l₁[i]?=some a->l₂[i]?=some b->F a b
 |_,_,.nil,_,_,_,h,_=>by simp at h
 |_,_,.cons r _,0,a,b,h1,h2=>by simp at h1 h2;subst h1;subst h2;exact r
 |_,_,.cons _ t,i+1,a,b,h1,h2=>Paired.idx t i a b (by simpa using h1) (by simpa using h2)
theorem Bq{pins:List (Addr×Obj)}{σ:St}{H:Hp}{s s':Shared}{fp:List Addr}{C:Addr}{m:Str->Option Value}(O:CompOk X fr js scope cl)(hl:fr.length=js.length)(I:Inv X pins σ H s)(hC:s.heap.objs.size<=C)(hf:∀b∈fp,dr X pins H b)
 (ho:∀b∈fp,b<s.heap.objs.size) (os:s'.os=s.os) (hg:s'.gens=s.gens) (old:∀b o,s.heap.get? b=some o->s'.heap.get? b=some o) (hn:s'.heap.Ns C m) :
 Inv (dh X (own++fr) scope cl C s H fp) [] (dX own.length js σ) H s':=by
 refine⟨sQ O I hC hf ho,os,by rw[hg];exact I.bare,Un.kept old,⟨m,hn,λi x v e1 e2 e3=>?_⟩,λx c e=>?_,I.hok.fresh hC,λx c e=>I.freeC x c (d8 O e),λp hp=>absurd (show p∈([]:List (Addr×Obj))from hp) (by simp),I.hok.kept old,?_⟩
 ·unfold dX at e2
  have e1':(own++fr)[i]?=some x:=e1;by_cases hi:i<own.length
  ·rw[List.getElem?_append_left (by simpa using hi),List.getElem?_replicate]at e2;split at e2<;>cases e2
  ·have hi':own.length<=i:=Gd hi;rw[List.getElem?_append_right (by simpa using hi'),Gr,List.getElem?_map]at e2;rw[List.getElem?_append_right hi']at e1';cases ej:js[i-own.length]? with
   |none=>rw[ej]at e2;cases e2
   |some j =>
    rw[ej]at e2;have e2':(σ[j]?).join=some v:=Option.some.inj e2
    have eσ:σ[j]?=some (some v):=by
     cases q:σ[j]? with
     |none=>rw[q]at e2';cases e2'
     |some o=>rw[q]at e2';simp at e2';rw[e2']
    obtain⟨hN,hk,hs⟩:=Paired.idx O.fre _ x j e1' ej;obtain⟨mo,hmo,hlo⟩:=I.loc;have vis:Vis X.env.scope x:=hk.elim (λz=>.inr (.inl z)) λz=>.inr (.inr z)
    obtain⟨u,r,l⟩:=hlo j x v hN eσ vis;refine⟨u,r,.inr ⟨pF hs,?_⟩⟩;have hm:=GM.mp O.has _ (PySem.mem_of_lookup hs);have hs':(cl.lookup x).isSome=true:=by simpa using hm
    obtain⟨c,ec⟩:=Option.isSome_iff_exists.mp hs';refine⟨c,ec,?_⟩;rcases l with⟨k,_⟩ |⟨_,c',e',z⟩
    ·have k':X.env.scope.names.lookup x=some .local:=k;rcases hk with q |q<;>(rw[q]at k';cases k')
    ·have:=d8 O ec;rw[e']at this;cases this;obtain⟨oc,hoc,hd⟩:=z;exact⟨oc,old _ _ hoc,hd⟩
 ·obtain⟨v,oc,hoc,hd⟩:=I.cell x c (d8 O e);exact⟨v,oc,old _ _ hoc,hd⟩
 ·unfold dX;show _=(own++fr).length;rw[Fp,Fp,Gr,Fk,hl]
theorem Un.adopt{fs ex:List Addr}{H H1:Hp}{h h1:Heap}{a:Addr}{o:HO}(u:Un fs ex H H1 h h1)(ha:h.objs.size<=a)(hn:H a=none):Un fs ex H (upd H1 a o) h h1 where
 keep:=u.keep
 slot:=u.slot
 free:=λb ob q n hx=>by rw[upd_ne (FG (FF (Heap.lt_size q) ha))];exact u.free b ob q n hx
 there:=u.there
 tups:=λb xs q=>by rw[upd_ne (aK q hn)];exact u.tups b xs q
 frzs:=λb ob xs q=>by rw[upd_ne (aK q hn)];exact u.frzs b ob xs q
 tbls:=λb ps q=>by rw[upd_ne (aK q hn)];exact u.tbls b ps q
theorem HOk.adopt{P:Program}{w:World}{H:Hp}{h:Heap}{a:Addr}{o:HO}(x:HOk P w H h)(hn:H a=none)(new:ObjOk P w (upd H a o) h a o):HOk P w (upd H a o) h:=λb u e=>by
 by_cases hb:b=a
 ·subst hb;rw[am]at e;cases e;exact new
 ·rw[upd_ne hb]at e;exact(x b u e).stay (λc v _ q=>q) (λc q=>by rw[upd_ne (aK q hn)];exact q) λc xs q=>by rw[upd_ne (aK q hn)];exact q
theorem sX{pins:List (Addr×Obj)}{σ:St}{H:Hp}{s:Shared}{fp:List Addr}{it:Addr}{tn:Nat->Heap->Prop}{J:It}{E:Value->Shared->Prop}{Q:VK}{RR:Value->Addr->Result->Shared->Prop}(O:CompOk X fr js scope cl)(hl:fr.length=js.length)(hcm:X.calm=true)
 (I:Inv X pins σ H s) (T:Turn X.prog X.w X.K target J fp it tn) (st:tn 0 s.heap) (hf:∀b∈fp,dr X pins H b)
 (hg:∀C s₀ H₀ ex,PG (dh X (own++fr) scope cl C s₀ H₀ ex) target g) (he:∀C s₀ H₀ ex,PE (dh X (own++fr) scope cl C s₀ H₀ ex) elt te)
 (W:Nat->Nat->List V->St->Hp->Prop) {m0:Nat} (w0:W 0 m0 [] (dX own.length js σ) H)
 (turn:∀i m ys σ' H',W i m ys σ' H' ->
   (J.stop i H'/\∀p,H' p=none->Q (.ref p) (upd H' p (.lst ys))) \/
   (J.go i H'/\ys.length<sizeLine/\∃N:V->St->Hp->Prop,(∀y σ'' H'',N y σ'' H''->∃m',m'<m/\W (i+1) m' (ys++[y]) σ'' H'')/\∀x H2,J.yld i H' x H2->g x σ' H2 λσ3 H3=>te σ3 H3 λy H4=>N y σ3 H4))
 (hRR:∀D C s',Dh X pins σ Q D C s'->RR (.ref D) C (.ok .next) s') :
 wpAny (model X.prog X.w) X.A (newList []) (λacc s₃=>wpAny (model X.prog X.w) X.A (newFunctionEnv scope X.env.globals cl [] X.env.qual none .none (some X.env)) (λcenv s₄ =>
  codeAny (model X.prog X.w) X.A (.compStart (.ListComp elt [⟨target,iter,[],0⟩] scope pos) 0 (.ref it) acc { cenv with scope:=relabel scope X.env }) (RR acc cenv.locals) s₄) E s₃) E s:=by
 refine wpAny_newObj_type (wpAny_newFunctionEnv O.cell (by intro y hy;simp at hy) (λh₁ hns₁ hsb₁=>?_) O.kind);dsimp only at hns₁ hsb₁ ⊢
 generalize hH2:s.heap.push { cls:=.type "list",dict:=none,data:=.seq ([]:List Value).toArray }=H2 at hns₁ hsb₁ ⊢
 have hCs:H2.objs.size=s.heap.objs.size+1:=by rw[<- hH2,Heap.size_push]
 have hDC:s.heap.objs.size≠H2.objs.size:=by rw[hCs];exact FG (GC _)
 have hCge:s.heap.objs.size<=H2.objs.size:=by rw[hCs];exact Nat.le_succ _
 have below:∀b,b<s.heap.objs.size->b≠H2.objs.size/\b≠s.heap.objs.size:=λb hb=>⟨by rw[hCs];exact FG (Nat.lt_succ_of_lt hb),FG hb⟩
 have old:∀b o,s.heap.get? b=some o->h₁.get? b=some o:=λb o e=>hsb₁.extBut b o (below b (Heap.lt_size e)).1 (Heap.get?_push_of_some _ (hH2 ▸ Heap.get?_push_of_some _ e))
 have hacc:h₁.get? s.heap.objs.size=some { cls:=.type "list",data:=.seq ([]:List Value).toArray 0 }:=hsb₁.extBut _ _ hDC (Heap.get?_push_of_some _ (hH2 ▸ Heap.get?_push_size _ rfl));have ho:∀b∈fp,b<s.heap.objs.size:=λb hb=>by obtain⟨o,e,_⟩:=T.obj 0 _ st b hb;exact Heap.lt_size e
 generalize hDe:s.heap.objs.size=D at *
 generalize hCe:H2.objs.size=C at *
 let X':Cx:=dh X (own++fr) scope cl C s H fp
 have ok':X'.Ok:=sQ O I (by rw[hDe];exact hCge) hf (by rw[hDe];exact ho)
 have hDfs:D∉X'.fs:=by
  intro z;rcases Ft.mp (I.stkSub D z)with q |q
  ·exact absurd I.lt (by rw[<- q,hDe];exact Gm _)
  ·exact I.nofs (GK hDe) q
 have hDfp:∀b∈fp,D≠b:=λb hb z=>absurd (ho b hb) (by rw[z];exact Gm _)
 have hDcell:∀x c,cl.lookup x=some c->c≠D:=λx c e z=>by obtain⟨v,q⟩:=I.cell x c (d8 O e);exact absurd q.lt (by rw[z,hDe];exact Gm _)
 have fpok:∀{H':Hp} {pins':List (Addr×Obj)},(∀p∈pins',p.1=D)->(∀b∈fp,H' b=none)->∀b∈fp,dr X' pins' H' b:=λ{H' pins'} hp hn b hb=>by
  obtain⟨f0,f1,f2,f3,f4,f5⟩:=hf b hb;refine⟨hn b hb,(below b (ho b hb)).1,λz=>?_,.inl hb,λx c e=>f4 x c (d8 O e),λp hp'=>?_⟩
  ·rcases Ft.mp (I.stkSub b z)with q |q
   ·exact f1 q
   ·exact f2 q
  ·have hp'':p∈pins':=by simpa[X',dh]using hp'
   rw[hp p hp''];exact hDfp b hb
 have loop:∀s₃:Shared,s₃={ s with heap:=h₁,toks:=s.toks+([]:List (Str×Value)).length } ->
  codeAny (model X.prog X.w) X.A (.compLoop (.ListComp elt [⟨target,iter,[],0⟩] scope pos) 0 (.ref it) (.ref D) (compEnvC scope cl C X.env)) (RR (.ref D) C) s₃:=by
  rintro s₃ rfl
  refine PySem.W.kcp_loop (λk s'=>∃i σ' H' ys its nn,Inv X' [] σ' H' s'/\tn i s'.heap/\(∀b∈fp,H' b=none)/\H' D=none/\s'.heap.get? D=some { cls:=.type "list",data:=.seq (its:List Value).toArray nn }/\Vals ys its/\ys.length<=sizeLine/\W i k ys σ' H') ?_ m0
   ⟨0,_,H,[],[],0,Bq O hl I (by rw[hDe];exact hCge) hf (by rw[hDe];exact ho) rfl rfl (by intro b o e;exact old b o e) hns₁,T.keep _ _ _ st λb _ o e=>old b o e,λb hb=>(hf b hb).1,I.hok.fresh (GK hDe),hacc,.nil,Fn _,w0⟩
  rintro k s' ⟨i,σ',H',ys,its,nn,I',st',hfn,hDn,hDo,rv,hz,w⟩;have hlen:=rv.length;have hpD:∀p∈[(D,({ cls:=.type "list",data:=.seq its.toArray nn }:Obj))],p.1=D:=λp hp=>by rw[Fu.mp hp]
  have Ip:Inv X' [(D,({ cls:=.type "list",data:=.seq its.toArray nn }:Obj))] σ' H' s':=I'.pins_of λp hp=>by rw[Fu.mp hp];exact⟨hDo,hDn,hDC,hDfs,λv z=>by cases z⟩
  rcases turn i k ys σ' H' w with⟨stop,fin⟩ |⟨go,hlt,N,hN,step⟩
  ·refine wpAny_mono (T.done X' rfl rfl rfl hcm i _ s' σ' H' (λ_ _=>False) Ip (fpok hpD hfn) st' stop) (λr s4 ⟨hr,I4⟩=>?_) λ_ _ z=>False.elim z
   subst hr;refine hRR D C s4 ?_;have hD4:s4.heap.get? D=some { cls:=.type "list",data:=.seq its.toArray nn }:=(I4.pin _ (FO _ (Fu.mpr rfl))).1;have un:Un (frs X.stack) fp H (upd H' D (.lst ys)) s.heap s4.heap:=Un.adopt I4.base (GK hDe) (I.hok.fresh (GK hDe));have hok:HOk X.prog X.w (upd H' D (.lst ys)) s4.heap:=HOk.adopt I4.hok hDn ⟨hz,its,nn,rv,hD4⟩;refine⟨upd H' D (.lst ys),I.call' I4.os un hok I4.bare λb hb=>?_,fin D hDn,?_,?_,?_,λx c e z=>?_,λp hp z=>?_,?_⟩
   ·obtain⟨f0,f1,f2,f3,f4,f5⟩:=hf b hb;exact⟨f3,f1,f4,f5⟩
   ·rw[upd_ne (Ne.symm hDC)];exact I4.free
   ·exact Nat.ne_of_gt (FF I.lt (by rw[hDe];exact hCge))
   ·exact FA I.sz (by rw[hDe];exact hCge)
   ·obtain⟨v,q⟩:=I.cell x c e;exact absurd (FF q.lt (by rw[hDe,z];exact hCge)) (Gm _)
   ·exact absurd (FF (Heap.lt_size (I.pin p hp).1) (by rw[hDe,z];exact hCge)) (Gm _)
   ·obtain⟨m',hn',_⟩:=I4.loc;exact⟨m',hn'⟩
  ·refine wpAny_mono (T.item X' rfl rfl rfl hcm i _ s' σ' H' (λ_ _=>False) Ip (fpok hpD hfn) st' go) (λr s4 ⟨u,hr,h4⟩=>?_) λ_ _ z=>False.elim z
   subst hr;refine wpAny_mono h4 (λ_ s5 ⟨x,H5,I5,r5,y5,st5,fr5⟩=>?_) λ_ _ z=>False.elim z
   have I5':=I5.pinned (fpok hpD fr5) (T.obj _ _ st5);refine wpAny_mono (hg C s H fp _ s5 σ' H5 x u _ I5' r5 (step x H5 y5)) (λ_ s6 ⟨σ6,H6,I6,q6⟩=>?_) λ_ _ z=>False.elim z
   refine wpAny_mono (he C s H fp _ s6 σ6 H6 _ I6 q6) (λv s7 ⟨y,H7,I7,r7,n7⟩=>?_) λ_ _ z=>False.elim z
   obtain⟨m',hm',w7⟩:=hN y σ6 H7 n7;have hD7:=I7.pin (D,{ cls:=.type "list",data:=.seq its.toArray nn }) (FO _ (GJ _ (Fu.mpr rfl)));refine append_at hD7.1 (λh8 sb hD8=>?_) (by rw[Fw,<- hlen];exact hz);have I7':Inv X' [] σ6 H7 s7:=I7.pins_of λp hp=>absurd hp (by simp)
   have I8:Inv X' [] σ6 H7 { s7 with heap:=h8 }:=I7'.turned (t':=s7.toks) (it:=D) (λb o hb e=>(sb.2 b hb).trans e) hD7.2.1 hDC (.inr (GK hDe)) hDcell (λp hp=>absurd (show p∈([]:List (Addr×Obj))from hp) (by simp));refine⟨m',hm',i+1,σ6,H7,ys++[y],its++[v],nn+1,I8,T.keep _ _ _ st5 λb hb o e=>?_,λb hb=>?_,hD7.2.1,?_,rv.append (.cons r7 .nil),?_,w7⟩
   ·exact(sb.2 b (λz=>hDfp b hb z.symm)).trans (I7.pin (b,o) (FO _ (FO _ (iH hb e)))).1
   ·obtain⟨o,e,d⟩:=T.obj _ _ st5 b hb;exact(I7.pin (b,o) (FO _ (FO _ (iH hb e)))).2.1
   ·rw[hD8,List.push_toArray]
   ·rw[Fp,List.length_singleton];exact hlt
 exact codeAny_compStart_list (loop _ rfl) (T.self _ 0 _ _ _ (T.keep _ _ _ st λb _ o e=>old b o e) (loop _ rfl))
theorem c7(O:CompOk X fr js scope cl)(hcm:X.calm=true)(hi:PI X target iter wi)(hg:∀C s₀ H₀ ex,PG (dh X (own++fr) scope cl C s₀ H₀ ex) target g)(he:∀C s₀ H₀ ex,PE (dh X (own++fr) scope cl C s₀ H₀ ex) elt te)
 (hs:∀x,foldedSetIterable iter X.env x=pure x:=by intro _;rfl):PE X (.ListComp elt [⟨target,iter,[],0⟩] scope pos) (nW own.length js wi g te):=by
 intro pins s σ H Q I h;rw[eval_ListComp];refine wpAny_comprehension_free (use:=none) rfl hs O.clos O.kind O.names (thn (hi pins s σ H _ I h) λx s1 h1=>thn h1 λitv s2 h2=>?_);obtain⟨it,fp,tn,J,H2,rfl,I2,T,st,hf,W,⟨m0,w0⟩,turn⟩:=h2;refine sX (RR:=λacc C=>compPost (model X.prog X.w) X.A X.xe none (EP X pins σ Q) acc C) O (Paired.length O.fre) hcm I2 T st hf hg he W w0 turn ?_;rintro D C s' ⟨H3,I3,q,c1,c2,c3,c4,c5,m,hn⟩;exact⟨m,hn,λh' sb=>⟨.ref D,H3,I3.turned (t':=s'.toks) (it:=C) (λb o hb e=>(sb.2 b hb).trans e) c1 c2 (.inr c3) c4 c5,rfl,q⟩⟩
theorem kB{i:Nat}{y:Str}{py spos:Pos}(hN:X.N.Nodup)(hy:X.N[i]?=some y)(hly:Loc X.env.scope y)(O:CompOk X fr js scope cl)(hcm:X.calm=true)(hi:PI X target iter wi)(hg:∀C s₀ H₀ ex,PG (dh X (own++fr) scope cl C s₀ H₀ ex) target g)
 (he:∀C s₀ H₀ ex,PE (dh X (own++fr) scope cl C s₀ H₀ ex) elt te) (hsw:swapsWith (.ListComp elt [⟨target,iter,[],0⟩] scope pos) (some (.Name y py)) spos.line X.env=pure true)
 (hf:X.fn y=true\/X.env.scope.names.lookup y=some .local:=by first |exact .inl rfl |exact .inr rfl |assumption) (hs:∀x,foldedSetIterable iter X.env x=pure x:=by intro _;rfl) :
 PS X (.Assign [.Name y py] (.ListComp elt [⟨target,iter,[],0⟩] scope pos) spos) (fA (nW own.length js wi g te) (dY i)):=by
 intro pins s σ H D I h;rw[exec_Assign_Name_used _ _ _ _ hsw];refine wpAny_bind (wpAny_standAt (wpAny_bind ?_));show wpAny _ X.A (do let _ <- comprehension (.ListComp elt [⟨target,iter,[],0⟩] scope pos) scope X.env _ (newList []) false (eval iter X.env) (some (assign (.Name y py) X.env))) _ _ s
 refine wpAny_bind (wpAny_mono (wpAny_comprehension_free (use:=some (assign (.Name y py) X.env)) (Q:=λ_ s'=>SP X pins D .next s') rfl hs O.clos O.kind O.names
  (thn (hi pins s σ H _ I h) λx s1 h1=>thn h1 λitv s2 h2=>?_)) (λ_ s' hq=>wpAny_pure (wpAny_pure hq)) λ_ _ e=>e)
 obtain⟨it,fp,tn,J,H2,rfl,I2,T,st,hfp,W,⟨m0,w0⟩,turn⟩:=h2;refine sX (Q:=λx H1=>dY i x σ H1 D.nx) (RR:=λacc C=>compPost (model X.prog X.w) X.A X.xe (some (assign (.Name y py) X.env)) (λ_ s'=>SP X pins D .next s') acc C) O (Paired.length O.fre) hcm I2 T st hfp hg he W w0 turn ?_;rintro DD C s' ⟨H3,I3,q,c1,c2,c3,c4,c5,m,hn⟩;show wpAny _ _ (assign (.Name y py) X.env (.ref DD)) _ _ s';refine wpAny_assign_Name (n6 I3 hN hy hly (v:=.ref DD) rfl (λs4 I4 ⟨a,sb,ha⟩=>?_) hf)
 have hCa:C≠a:=by
  rcases ha with rfl |ha
  ·exact c2
  ·exactλz=>c4 y a ha z.symm
 refine⟨m,hn.sameBut sb hCa,λh' sb'=>⟨_,H3,I4.turned (t':=s4.toks) (it:=C) (λb o hb e=>(sb'.2 b hb).trans e) c1 c2 (.inr c3) c4 c5,q⟩⟩
end
theorem fh{n:Nat}{js:List Nat}{K:PySem.W.Frag}{a:Addr}{xs:List V}{g:TG}{te:TE}{σ0:St}{H:Hp}{Q:VK}(Pv:Nat->List V->St->Hp->Prop)(hz:xs.length<=sizeLine)(h0:Pv 0 [] (dX n js σ0) H)(hl:∀i ys σ H,i<=xs.length->Pv i ys σ H->SqL K H a xs/\ys.length<=i)
 (hs:∀i x ys σ H,xs[i]?=some x->Pv i ys σ H->g x σ H λσ2 H2=>te σ2 H2 λy H3=>Pv (i+1) (ys++[y]) σ2 H3) (hd:∀ys σ H p,Pv xs.length ys σ H->H p=none->Q (.ref p) (upd H p (.lst ys))) :
 jl n js g te σ0 Q (Itl K a) H:=by
 refine⟨λi m ys σ H=>m=xs.length-i/\i<=xs.length/\Pv i ys σ H,⟨xs.length,by simp,Fn _,h0⟩,?_⟩;rintro i m ys σ H ⟨rfl,hi,p⟩;obtain⟨q,hy⟩:=hl i ys σ H hi p;by_cases hlt:i<xs.length
 ·refine .inr ⟨⟨xs,xs[i],q,by simp[hlt]⟩,by omega,λy σ'' H''=>Pv (i+1) (ys++[y]) σ'' H'',λy σ' H' p'=>⟨xs.length-(i+1),by omega,rfl,hlt,p'⟩,λx H' y=>?_⟩;obtain⟨e,y⟩:=y;subst e;exact hs i x ys σ _ (y xs q) p
 ·have e:i=xs.length:=by omega
  subst e;exact .inl ⟨⟨xs,q,Fl _⟩,λr hr=>hd ys σ H r p hr⟩
theorem jb{k:Nat}{js:List Nat}{lo:Int}{n:Nat}{g:TG}{te:TE}{σ0:St}{H:Hp}{Q:VK}(Pv:Nat->List V->St->Hp->Prop)(hz:n<=sizeLine)(h0:Pv 0 [] (dX k js σ0) H)(hl:∀i ys σ H,i<=n->Pv i ys σ H->ys.length<=i)
 (hs:∀i ys σ H,i<n->Pv i ys σ H->g (.int (lo+i)) σ H λσ2 H2=>te σ2 H2 λy H3=>Pv (i+1) (ys++[y]) σ2 H3) (hd:∀ys σ H p,Pv n ys σ H->H p=none->Q (.ref p) (upd H p (.lst ys))) :
 jl k js g te σ0 Q (Itr lo n) H:=by
 refine⟨λi m ys σ H=>m=n-i/\i<=n/\Pv i ys σ H,⟨n,by simp,Fn _,h0⟩,?_⟩;rintro i m ys σ H ⟨rfl,hi,p⟩;have hy:=hl i ys σ H hi p;by_cases hlt:i<n
 ·refine .inr ⟨hlt,by omega,λy σ'' H''=>Pv (i+1) (ys++[y]) σ'' H'',λy σ' H' p'=>⟨n-(i+1),by omega,rfl,hlt,p'⟩,λx H' y=>?_⟩;obtain⟨e,y⟩:=y;subst e y;exact hs i ys σ _ hlt p
 ·have e:i=n:=by omega
  subst e;exact .inl ⟨Fl _,λr hr=>hd ys σ H r p hr⟩
def Bits(k:Nat)(i:Int):Prop:=i.natAbs<2^k
theorem Bits.mono{j k:Nat}{i:Int}(h:Bits j i)(hk:j<=k:=by decide):Bits k i:=FF h (Hu (by decide) hk)
theorem Bits.mul{j k:Nat}{a b:Int}(ha:Bits j a)(hb:Bits k b):Bits (j+k) (a*b):=by
 unfold Bits at *
 rw[FP,Nat.pow_add];exact Nat.mul_lt_mul_of_lt_of_lt ha hb
theorem Bits.add{k:Nat}{a b:Int}(ha:Bits k a)(hb:Bits k b):Bits (k+1) (a+b):=by
 unfold Bits at *
 have:=Int.natAbs_add_le a b;rw[Nat.pow_succ];omega
theorem Bits.neg{k:Nat}{a:Int}(ha:Bits k a):Bits k (-a):=by unfold Bits at *;rwa [Int.natAbs_neg]
theorem Bits.sub{k:Nat}{a b:Int}(ha:Bits k a)(hb:Bits k b):Bits (k+1) (a-b):=by rw[Int.sub_eq_add_neg];exact ha.add hb.neg
theorem Bits.of_le{k:Nat}{a b:Int}(hb:Bits k b)(h:a.natAbs<=b.natAbs):Bits k a:=Hv h hb
theorem Bits.zero{k:Nat}:Bits k 0:=Nat.pow_pos (by decide)
theorem Bits.log{k:Nat}{i:Int}(h:Bits k i)(hk:0<k):i.natAbs.log2<k:=by
 by_cases h0:i.natAbs=0
 ·rw[h0];simpa using hk
 ·exact(Nat.log2_lt h0).mpr h
theorem Bits.int{k:Nat}{i:Int}(h:Bits k i)(hk:k<=1000000):Builtin.Int.intBits i<=2^20:=by
 have e:(2:Nat)^20=1048576:=by decide
 unfold Builtin.Int.intBits;split
 ·exact Fn _
 ·rename_i hn
  have h0:i.natAbs≠0:=by intro z;have:i=0:=Int.natAbs_eq_zero.mp z;exact hn (by simp[this])
  have:=(Nat.log2_lt h0).mpr h;omega
section
variable {X:Cx}{a b:Expr}{ta tb:TE}{pos:Pos}
def DV(i j:Int):Prop:=Bits 1000000 i/\Bits 1000000 j
theorem aJ:OpR X (binaryOp .Mult) (rI DV λi j=>.int (i*j)):=opI λ_ _ _ _ _ _ _ hc q=>mul_int q (.of_bits (hc.1.int (Fl _)) (hc.2.int (Fl _)))
theorem bJ:OpR X (binaryOp .Mod) (rI (λ_ j=>0<j) λi j=>.int (i%j)):=xj
def DW(_ j:Int):Prop:=0<j/\Bits 9000 j
theorem eU:OpR X (binaryOp .FloorDiv) (rI DW λi j=>.int (i/j)):=opI λi j _ _ _ _ _ hc q=>by refine floordiv_int (GW hc.1) ?_ (.inl (PyProof.noPylong_of_log2 (hc.2.log (by decide))));rw[Int.fdiv_eq_ediv_of_nonneg _ (Fq hc.1)];exact q
def DX(_ j:Int):Prop:=j≠0/\Bits 9000 j
theorem qv:OpR X (binaryOp .FloorDiv) (rI DX λi j=>.int (i.fdiv j)):=opI λ_ _ _ _ _ _ _ hc q=>floordiv_int hc.1 q (.inl (PyProof.noPylong_of_log2 (hc.2.log (by decide))))
theorem bz:OpR X (compareOp .Eq) (rI0 λi j=>.bl (decide (i=j))):=fW λ_ _ _ _ _ _ _ q=>eq_int (by rw[Bool.beq_eq_decide_eq];exact q)
theorem iC:OpR X (compareOp .NotEq) (rI0 λi j=>.bl (!decide (i=j))):=fW λ_ _ _ _ _ _ _ q=>ne_int (by rw[bne,Bool.beq_eq_decide_eq];exact q)
def pU(K:PySem.W.Frag):R2:=λx y H Q=>∃(a b:Addr) (ns ms:List Int),x=.ref a/\y=.ref b/\SqL K H a (ns.map V.int)/\SqL K H b (ms.map V.int)/\Q (.bl (decide (ns=ms))) H
def pR(K:PySem.W.Frag):R2:=λx y H Q=>∃(a b:Addr) (ns ms:List Int),x=.ref a/\y=.ref b/\SqL K H a (ns.map V.int)/\SqL K H b (ms.map V.int)/\Q (.bl (!decide (ns=ms))) H
theorem xn(hu:X.A.units+64<cLine):OpR X (compareOp .Eq) (pU X.K):=by intro pins s σ H x y v u Q I rx ry h;obtain⟨a,b,ns,ms,rfl,rfl,ha,hb,q⟩:=h;cases rx;cases ry;obtain⟨i1,r1,p1,_⟩:=I.list ha;obtain⟨i2,r2,p2,_⟩:=I.list hb;exact PySem.W.eq_intsK p1.isList (dW r1) p2.isList (dW r2) hu ⟨.bl _,H,I,rfl,q⟩
theorem xi(hu:X.A.units+64<cLine):OpR X (compareOp .NotEq) (pR X.K):=by intro pins s σ H x y v u Q I rx ry h;obtain⟨a,b,ns,ms,rfl,rfl,ha,hb,q⟩:=h;cases rx;cases ry;obtain⟨i1,r1,p1,_⟩:=I.list ha;obtain⟨i2,r2,p2,_⟩:=I.list hb;exact PySem.W.ne_intsK p1.isList (dW r1) p2.isList (dW r2) hu ⟨.bl _,H,I,rfl,q⟩
noncomputable def lG(xs:List V)(k:Nat)(y:V):List V:=xs.take k++y::xs.drop k
noncomputable def wy:V->List V->Hp->VK->Prop:=λx vs H Q=>∃l xs k y,x=.ref l/\vs=[.int k,y]/\H l=some (.lst xs)/\0<=k/\k<=xs.length/\xs.length<sizeLine/\Q .non (upd H l (.lst (lG xs k.toNat y)))
theorem yN:MtM X "list.insert" wy:=by
 intro pins s σ H x vs v us Q I rx rv h;obtain⟨l,xs,k,y,rfl,rfl,hH,hk0,hk1,hz,q⟩:=h;cases rx;obtain⟨u1,u2,rfl,ru1,ru2⟩:=rv.two;obtain⟨t,rfl⟩:=ru1;obtain⟨z,its,n,r,hl,e⟩:=I.lstM hH;have hfit:Builtin.List.listFitsIndex k=true:=fitsIndex_both (by omega) (by have:=sizeLine_eq;omega);refine call_meets F.slot_list_insert ⟨_,e,rfl⟩ F.entry_list_insert (F.args_list_insert_3 _ _ _) (AutoSeq1.list_insert_list_int_val_1 l its.toArray n k t u2 (by simp[hfit]) (by rw[Fw];omega)) ⟨e,?_⟩;refine⟨.non,_,I.lset (its':=its.take k.toNat++u2::its.drop k.toNat) hH e ?_ ((r.take _).append (.cons ru2 (r.drop _))) ?_,rfl,q⟩
 ·show(its.toArray.extract 0 (if k<0 then(k+(its.toArray.size:Int)).toNat else min k.toNat its.toArray.size)).push u2++its.toArray.extract (if k<0 then(k+(its.toArray.size:Int)).toNat else min k.toNat its.toArray.size)=(its.take k.toNat++u2::its.drop k.toNat).toArray;rw[if_neg (by omega),Fw,Nat.min_eq_left (by omega)];apply Array.toList_inj.mp;simp;exact List.take_of_length_le (by rw[GV];exact Fl _)
 ·rw[Fp,FI,FE,GV];omega
noncomputable def gx(K:PySem.W.Frag):List V->Hp->VK->Prop:=λxs H Q=>∃(x:V) (t c:Value) (n:V) (k:Bool),xs=[x,n]/\RelV n c/\(∀u,RelV n u->u=c)/\TyOf K H x t/\PySem.W.kitOne K t c=some k/\Q (.bl k) H
theorem BW:CallR X (.builtin "isinstance") (gx X.K):=by intro pins s σ H xs us Q I r h;obtain⟨x,t,c,n,k,rfl,rn,hn,ty,e,q⟩:=h;obtain⟨u1,u2,rfl,r1,r2⟩:=r.two;obtain rfl:=hn u2 r2;exact Au I r1 ty e λtk=>⟨.bl k,H,I.tok tk,rfl,q⟩
theorem rF{K:PySem.W.Frag}{H:Hp}{Q:VK}{x:V}{n:String}{t:Value}{k:Bool}(ty:TyOf K H x t)(e:PySem.W.kitOne K t (.type n)=some k)(q:Q (.bl k) H):gx K [x,.ty n] H Q :=
 ⟨x,t,.type n,.ty n,k,rfl,rfl,λ_ h=>h,ty,e,q⟩
end
section
variable {D:Ends}{σ:St}{H:Hp}{Q:VK}{t u:TS}{te ta tb:TE}{c:TT}{i:Nat}{v:V}{r:R2}
theorem ky(h:t { D with nx:=u D } σ H):br t u D σ H:=h
theorem pK(P:St->Hp->Prop)(h:P σ H)(h1:∀σ' H',P σ' H'->u D σ' H'):u D σ H:=h1 σ H h
theorem aE(h:te σ H λx H1=>u D (σ.set i (some x)) H1):br (fA te (dY i)) u D σ H:=h
theorem ir(h:te σ H λ_ H1=>u D σ H1):br (jr te) u D σ H:=h
theorem pH{t1 t2:TS}(h:c σ H λb H1=>if b=true then t1 { D with nx:=u D } σ H1 else t2 { D with nx:=u D } σ H1):br (eu c t1 t2) u D σ H:=h
theorem ck{t1:TS}(h:c σ H λb H1=>if b=true then t1 { D with nx:=u D } σ H1 else u D σ H1):br (eu c t1 gY) u D σ H:=h
theorem pJ{K:PySem.W.Frag}{n:V}(h:ta σ H λx H1=>gx K [x,n] H1 Q):tCB (gx K) (jt ta (jt (tC n) nU)) σ H Q:=h
theorem cJ{t1 t2:TS}(P:St->Hp->Prop)(h1:∀σ' H',P σ' H'->u D σ' H')(h2:(∀σ' H',P σ' H'->u D σ' H')->c σ H λb H1=>if b=true then t1 { D with nx:=u D } σ H1 else t2 { D with nx:=u D } σ H1):br (eu c t1 t2) u D σ H:=h2 h1
theorem cQ(h:te σ H λx H1=>D.nx (σ.set i (some x)) H1):fA te (dY i) D σ H:=h
theorem bv(h:te σ H D.rt):nR te D σ H:=h
theorem gw(h:te σ H λ_ H1=>D.nx σ H1):jr te D σ H:=h
theorem fL(h:c σ H λb H1=>if b=true then t D σ H1 else u D σ H1):eu c t u D σ H:=h
theorem wj{K:Bool->Hp->Prop}{tt:TT}(h:tt σ H λk H1=>K (!k) H1):nS tt σ H K:=h
theorem cK{K:Bool->Hp->Prop}{t1 t2:TT}(h:t1 σ H λk H1=>if k=true then t2 σ H1 K else K false H1):gZ t1 t2 σ H K:=h
theorem fK{K:Bool->Hp->Prop}{t1 t2:TT}(h:t1 σ H λk H1=>if k=true then K true H1 else t2 σ H1 K):tOr t1 t2 σ H K:=h
theorem iu(h:ta σ H λx H1=>∃k,x=.bl k/\if k=true then tb σ H1 Q else Q (.bl false) H1):nX ta tb σ H Q:=h
theorem cI{A B:Prop}(h:A):if true=true then A else B:=by rw[if_pos rfl];exact h
theorem cP{A B:Prop}(h:B):if false=true then A else B:=by rw[if_neg GA];exact h
theorem aG{p A B:Prop}[Decidable p](h1:p->A)(h2:¬p->B):if decide p=true then A else B:=by
 by_cases hp:p
 ·rw[if_pos (decide_eq_true hp)];exact h1 hp
 ·rw[if_neg (by rw[decide_eq_false hp];exact GA)];exact h2 hp
theorem dP{p A B:Prop}[Decidable p](h1:¬p->A)(h2:p->B):if(!decide p)=true then A else B:=by
 by_cases hp:p
 ·rw[if_neg (by rw[decide_eq_true hp];exact GA)];exact h2 hp
 ·rw[if_pos (by rw[decide_eq_false hp];rfl)];exact h1 hp
end
structure Cal(P:Program)(w:World)(K:PySem.W.Frag)(mg:Str->Option Value)(base:Heap)(k:Nat)(x:Str)(ps:List Str)(sp:Sp)(f:Addr)(fd:FuncData):Prop where
 ok:FnOk P w K mg base CX0 k f fd ps sp
 mg:mg x=some (.ref f)
 kp:PySem.W.keepIn K (.ref f)=true
 bd:Binds K fd ps []
theorem Same.upd_new{H:Hp}{p:Addr}{o:HO}(h:H p=none):Same H (upd H p o):=λb u e=>by rw[upd_ne (aK e h)];exact e
theorem Same.then_new{H H1:Hp}{p:Addr}{o:HO}(s:Same H H1)(h:H1 p=none):Same H (upd H1 p o):=s.trans (Same.upd_new h)
theorem Same.ne{H H1:Hp}{a p:Addr}{o:HO}(s:Same H H1)(e:H a=some o)(h:H1 p=none):a≠p:=aK (s a o e) h
section
variable {X:Cx}{K:PySem.W.Frag}
theorem bj(h:X.K=K):IxR X (pT K):=by subst h;exact As
theorem aw(h:X.K=K):IxR X (pS K):=by subst h;exact Ar
theorem fD(h:X.K=K):SlR X (iy K):=by subst h;exact vf
noncomputable def wx(K:PySem.W.Frag):List V->Hp->VK->Prop:=λxs H Q=>∃p ys,xs=[.ref p]/\(SqL K H p ys\/SqT K H p ys)/\Q (.int ys.length) H
theorem aY(h:X.K=K):CallR X (.builtin "len") (wx K):=by subst h;exact BV
noncomputable def ww(K:PySem.W.Frag):List V->Hp->VK->Prop:=λxs H Q=>∃p ys,xs=[.ref p]/\(SqL K H p ys\/SqT K H p ys)/\∀l,H l=none->Q (.ref l) (upd H l (.lst ys))
theorem fo(h:X.K=K):CallR X (.type "list") (ww K):=by subst h;exact BT
theorem kG(h:X.K=K)(hu:X.A.units+64<cLine):OpR X (compareOp .Eq) (pU K):=by subst h;exact xn hu
theorem qt(h:X.K=K)(hu:X.A.units+64<cLine):OpR X (compareOp .NotEq) (pR K):=by subst h;exact xi hu
theorem tH(h:X.K=K):CallR X (.builtin "isinstance") (gx K):=by subst h;exact BW
theorem cm{tg l:Expr}{tl:TE}(h:X.K=K)(hl:PE X l tl):PI X tg l (rK K tl):=by subst h;exact wY hl
theorem fT{e:Expr}{ta:TE}{f:Str}{pos:Pos}(h:X.K=K)(he:PE X e ta)(hb:attributeBase e f X.env (eval e X.env)=eval e X.env):PE X (.Attribute e f pos) (nV K ta f):=by subst h;exact w9 he hb
end
noncomputable def Ite(K:PySem.W.Frag)(a:Addr):It :=
 ⟨λi H=>∃xs x,SqL K H a xs/\xs[i]?=some x,λi H x H'=>∃v p,x=.ref p/\H p=none/\H'=upd H p (.tup [.int i,v])/\∀xs,SqL K H a xs->xs[i]?=some v,λi H=>∃xs,SqL K H a xs/\xs.length<=i⟩
theorem uD{P:Program}{w:World}{K:PySem.W.Frag}{es:List Expr}{x1:Nat}{tp:Pos}(a e it:Addr)(hne:e≠it):Turn P w K (.Tuple es x1 tp) (Ite K a) [e,it] e (λi h=>(∃old,IsEnum h e it (i:Int) old)/\h.IsListIter it a i) where
 mem:=by simp
 obj:=λi h st b hb=>by
  obtain⟨⟨old,he⟩,hi⟩:=st;rcases Ft.mp hb with rfl |hb
  ·exact⟨_,he,λv z=>by cases z⟩
  ·have q:b=it:=by simpa using hb
   subst q;obtain⟨o,e,c,d⟩:=hi;exact⟨o,e,λv z=>by rw[d]at z;cases z⟩
 keep:=λi h h' st k=>by obtain⟨⟨old,he⟩,hi⟩:=st;exact⟨⟨old,k e (by simp) _ he⟩,hi.at λo q=>k it (by simp) o q⟩
 item:=by
  intro X hP hw hK hc i pins s σ H E I hf st hg;subst hP hw hK;obtain⟨⟨old,he⟩,hi⟩:=st;obtain⟨xs,x,hq,hx⟩:=hg;obtain⟨its,rv,p,hz⟩:=I.list hq;obtain⟨u,hu,ru⟩:=rv.get hx;refine wpAny_pyNext_enum_item he hi p.isList (x:=u) (by simpa using hu) hne λh' out hit' htup hsz kk=>?_
  have hfp:H s.heap.objs.size=none:=I.hok.fresh (Fl _);have nfp:∀b o,H b=some o->b≠e/\b≠it:=λb o q=>⟨λz=>(by rw[z,(hf e (by simp)).1]at q;cases q),λz=>(by rw[z,(hf it (by simp)).1]at q;cases q)⟩
  have I1:Inv X pins σ (upd H s.heap.objs.size (.tup [.int i,x])) { s with heap:=h',toks:=s.toks+1 }:=by
   refine I.step (g':=s.gens) (d':=s.drawn) (ch:=[e,it]) (λb hb=>?_) (λb o _ _ hc q _=>kk b o (λz=>hc (by simp[z])) (λz=>hc (by simp[z])) q)
    (λb o _ _ hc q _=>⟨o.slots,kk b o (λz=>hc (by simp[z])) (λz=>hc (by simp[z])) q⟩) (λb o _ q n=>by rw[upd_ne (FG (Heap.lt_size q))];exact n)
    (λb o hc q=>⟨o,kk b o (λz=>hc (by simp[z])) (λz=>hc (by simp[z])) q⟩) (λb ys q=>by rw[upd_ne (aK q hfp)];exact q) (λb o ys q=>by rw[upd_ne (aK q hfp)];exact q)
    (λb ps q=>⟨#[],by rw[upd_ne (aK q hfp),q];simp⟩) (λm hm=>?_) (λb o q=>?_) I.bare
   ·obtain⟨f0,f1,f2,f3,f4,f5⟩:=hf b hb;exact⟨f3,f1,f4,f5⟩
   ·obtain⟨o,es',ep',ho,r⟩:=hm;exact⟨o,es',ep',kk _ o (Ne.symm (hf e (by simp)).2.1) (Ne.symm (hf it (by simp)).2.1) ho,r⟩
   ·by_cases hb:b=s.heap.objs.size
    ·subst hb;rw[am]at q;cases q;exact⟨by show 2<=sizeLine;decide,[.int i s.toks,u],.cons ⟨_,rfl⟩ (.cons ru .nil),⟨_,htup,rfl,_,rfl⟩⟩
    ·rw[upd_ne hb]at q;refine(I.hok b o q).stay (λc v hc z=>?_) (λc z=>by rw[upd_ne (aK z hfp)];exact z) λc ys z=>by rw[upd_ne (aK z hfp)];exact z
     rcases hc with rfl |hc
     ·exact kk c v (nfp c o q).1 (nfp c o q).2 z
     ·exact kk c v (nfp c _ hc).1 (nfp c _ hc).2 z
  refine⟨_,rfl,wpAny_letOwnedTupleGo_enum out λh'' he'' sb=>?_⟩;obtain⟨f0,f1,f2,f3,f4,f5⟩:=hf e (by simp)
  have hen:upd H s.heap.objs.size (.tup [.int i,x]) e=none:=by rw[upd_ne (FG (Heap.lt_size he))];exact f0
  have I2:=I1.turned (h':=h'') (t':=s.toks+1) (it:=e) (λb o hb q=>(sb.2 b hb).trans q) hen f1 f3 f4 f5;refine⟨.ref s.heap.objs.size,_,I2,rfl,⟨x,_,rfl,hfp,rfl,λys hy=>by rw[I.list_inj hy hq];exact hx⟩,⟨⟨u,?_⟩,hit'.at λo q=>(sb.2 it (Ne.symm hne)).trans q⟩,λb hb=>?_⟩
  ·have:((i+1:Nat):Int)=(i:Int)+1:=by omega
   rw[this];exact he''
  ·have hlt:b<s.heap.objs.size:=by
    rcases Ft.mp hb with rfl |hb
    ·exact Heap.lt_size he
    ·have q:b=it:=by simpa using hb
     subst q;obtain⟨o,e1,_⟩:=hi;exact Heap.lt_size e1
   rw[upd_ne (FG hlt)];exact(hf b hb).1
 done:=by intro X hP hw hK hc i pins s σ H E I hf st hg;subst hP hw hK;obtain⟨⟨old,he⟩,hi⟩:=st;obtain⟨xs,hq,hx⟩:=hg;obtain⟨its,rv,p,hz⟩:=I.list hq;obtain⟨f0,f1,f2,f3,f4,f5⟩:=hf it (by simp);have hl:=rv.length;exact wpAny_pyNext_enum_end (I.ok.hd hc) he hi p.isList (by simp;omega) λh' eb=>⟨rfl,I.turned (t':=s.toks) (λb o hb e=>eb b o hb e) f0 f1 f3 f4 f5⟩
 self:=λ_ _ _ _ _ st h=>by obtain⟨⟨old,he⟩,hi⟩:=st;exact wpAny_pyIter_enum he h
section
variable {X:Cx}
def AD(K:PySem.W.Frag)(ta:TA):TI:=λσ H R=>ta σ H λvs H1=>∃a,vs=[.ref a]/\(∃xs,SqL K H1 a xs)/\R (Ite K a) H1
theorem eR{es:List Expr}{x1:Nat}{tp:Pos}{a:Expr}{ta:TA}{p pos:Pos}(hg:Gl X "enumerate")(hm:X.mg "enumerate"=none)(ha:PA X [a] ta)(hs:starEach [a] X.env=[(false,eval a X.env)]:=by rfl):PI X (.Tuple es x1 tp) (.Call (.Name "enumerate" p) [a] [] pos) (AD X.K ta):=by
 intro pins s σ H R I h;refine Call_ (dG I hg hm boot_enumerate (PyProof.Rows.callWith_type1 (thn (ha pos pins s σ H _ I h) λus s1 ⟨vs,H1,I1,r1,q1⟩=>?_) hs rfl));obtain⟨a',e,⟨xs,hq⟩,q⟩:=q1;subst e;obtain⟨u,rfl,ru⟩:=r1.one;cases ru;obtain⟨its,rv,pl,hz⟩:=I1.list hq;refine call_enumerate_list pl.isList λh' he hit hsz hk=>?_
 have I2:Inv X pins σ H1 { s1 with heap:=h' }:=I1.kept (t':=s1.toks) hk;refine wpAny_pyIter_enum he ?_;refine⟨s1.heap.objs.size+1,[s1.heap.objs.size+1,s1.heap.objs.size],_,_,H1,rfl,I2,uD a' _ _ (Nat.succ_ne_self _),⟨⟨_,he⟩,hit⟩,λb hb=>?_,q⟩
 have hb':s1.heap.objs.size<=b:=by
  rcases Ft.mp hb with rfl |hb
  ·exact Nat.le_succ _
  ·have q:b=s1.heap.objs.size:=by simpa using hb
   subst q;exact Fl _
 exact I1.fpOk hb' (I1.hok.fresh hb')
end
theorem gJ{K:PySem.W.Frag}{a:Addr}{xs:List V}{g:TG}{tb:TS}{D:Ends}{σ:St}{H:Hp}(Pv:Nat->St->Hp->Prop)(h0:Pv 0 σ H)(hl:∀i σ H,i<=xs.length->Pv i σ H->SqL K H a xs)
 (hs:∀i x σ H p,xs[i]?=some x->Pv i σ H->H p=none->g (.ref p) σ (upd H p (.tup [.int i,x])) λσ2 H2=>tb { D with nx:=Pv (i+1),ct:=Pv (i+1),bk:=D.nx } σ2 H2) (hd:∀σ H,Pv xs.length σ H->D.nx σ H) :
 ∃W:Nat->Nat->St->Hp->Prop,(∃m,W 0 m σ H)/\∀i m σ H,W i m σ H ->
  ((Ite K a).stop i H/\D.nx σ H)\/((Ite K a).go i H/\∃N:St->Hp->Prop,(∀σ' H',N σ' H'->∃m',m'<m/\W (i+1) m' σ' H')/\∀x H',(Ite K a).yld i H x H'->g x σ H' λσ2 H2=>tb { D with nx:=N,ct:=N,bk:=D.nx } σ2 H2):=by
 refine⟨λi m σ H=>m=xs.length-i/\i<=xs.length/\Pv i σ H,⟨xs.length,by simp,Fn _,h0⟩,?_⟩;rintro i m σ H ⟨rfl,hi,p⟩;have q:=hl i σ H hi p;by_cases hlt:i<xs.length
 ·refine .inr ⟨⟨xs,xs[i],q,by simp[hlt]⟩,Pv (i+1),λσ' H' p'=>⟨xs.length-(i+1),by omega,rfl,hlt,p'⟩,λx H' y=>?_⟩;obtain⟨v,r,rfl,hr,rfl,y⟩:=y;exact hs i v σ _ r (y xs q) p hr
 ·have e:i=xs.length:=by omega
  subst e;exact .inl ⟨⟨xs,q,Fl _⟩,hd σ H p⟩
theorem sW{n:Nat}{js:List Nat}{K:PySem.W.Frag}{a:Addr}{xs:List V}{g:TG}{te:TE}{σ0:St}{H:Hp}{Q:VK}(Pv:Nat->List V->St->Hp->Prop)(hz:xs.length<=sizeLine)(h0:Pv 0 [] (dX n js σ0) H)(hl:∀i ys σ H,i<=xs.length->Pv i ys σ H->SqL K H a xs/\ys.length<=i)
 (hs:∀i x ys σ H p,xs[i]?=some x->Pv i ys σ H->H p=none->g (.ref p) σ (upd H p (.tup [.int i,x])) λσ2 H2=>te σ2 H2 λy H3=>Pv (i+1) (ys++[y]) σ2 H3) (hd:∀ys σ H p,Pv xs.length ys σ H->H p=none->Q (.ref p) (upd H p (.lst ys))) :
 jl n js g te σ0 Q (Ite K a) H:=by
 refine⟨λi m ys σ H=>m=xs.length-i/\i<=xs.length/\Pv i ys σ H,⟨xs.length,by simp,Fn _,h0⟩,?_⟩;rintro i m ys σ H ⟨rfl,hi,p⟩;obtain⟨q,hy⟩:=hl i ys σ H hi p;by_cases hlt:i<xs.length
 ·refine .inr ⟨⟨xs,xs[i],q,by simp[hlt]⟩,by omega,λy σ'' H''=>Pv (i+1) (ys++[y]) σ'' H'',λy σ' H' p'=>⟨xs.length-(i+1),by omega,rfl,hlt,p'⟩,λx H' y=>?_⟩;obtain⟨v,r,rfl,hr,rfl,y⟩:=y;exact hs i v ys σ _ r (y xs q) p hr
 ·have e:i=xs.length:=by omega
  subst e;exact .inl ⟨⟨xs,q,Fl _⟩,λr hr=>hd ys σ H r p hr⟩
noncomputable def Itv(K:PySem.W.Frag)(a:Addr)(xs:List V):It :=
 ⟨λi H=>SqL K H a xs/\i<xs.length,λi H x H'=>H'=H/\xs[xs.length-1-i]?=some x,λi H=>xs.length<=i⟩
theorem uz{P:Program}{w:World}{K:PySem.W.Frag}{tg:Expr}(a it:Addr)(xs:List V):Turn P w K tg (Itv K a xs) [it] it (λi h=>i<=xs.length/\h.IsRevIter it a ((xs.length:Int)-1-i)) where
 mem:=by simp
 obj:=λi h st b hb=>by
  have e:b=it:=by simpa using hb
  subst e;obtain⟨_,o,e,c,d⟩:=st;exact⟨o,e,λv z=>by rw[d]at z;cases z⟩
 keep:=λi h h' st k=>⟨st.1,st.2.at λo e=>k it (by simp) o e⟩
 item:=by
  intro X hP hw hK hc i pins s σ H E I hf st hg;subst hP hw hK;obtain⟨hq,hlt⟩:=hg;obtain⟨its,rv,p,hz⟩:=I.list hq;have hl:=rv.length;obtain⟨x,hx⟩:∃x,xs[xs.length-1-i]?=some x:=⟨_,List.getElem?_eq_getElem (by omega)⟩;obtain⟨u,hu,ru⟩:=rv.get hx;obtain⟨f0,f1,f2,f3,f4,f5⟩:=hf it (by simp);have e1:(xs.length:Int)-1-i=((xs.length-1-i:Nat):Int):=by omega
  have hit:=st.2;rw[e1]at hit;refine wpAny_pyNext_rev_item hit p.isList (x:=u) (by simpa using hu) λh' st' sb=>?_
  have I1:Inv X pins σ H { s with heap:=h' }:=I.turned (t':=s.toks) (λb o hb e=>(sb.2 b hb).trans e) f0 f1 f3 f4 f5;obtain⟨o,e,c,d⟩:=id st';refine⟨u,rfl,iU (s:={ s with heap:=h' }) e c d (by decide) ⟨x,H,I1,ru,⟨rfl,hx⟩,⟨hlt,?_⟩,λb hb=>(hf b hb).1⟩⟩;have e2:(xs.length:Int)-1-((i+1:Nat):Int)=((xs.length-1-i:Nat):Int)-1:=by omega
  rw[e2];exact st'
 done:=by
  intro X hP hw hK hc i pins s σ H E I hf st hg;subst hP hw hK;obtain⟨f0,f1,f2,f3,f4,f5⟩:=hf it (by simp);have hle:xs.length<=i:=hg;have e1:(xs.length:Int)-1-i = -1:=by have:=st.1;omega
  have hit:=st.2;rw[e1]at hit;exact wpAny_pyNext_rev_end (I.ok.hd hc) hit λh' eb=>⟨rfl,I.turned (t':=s.toks) (λb o hb e=>eb b o hb e) f0 f1 f3 f4 f5⟩
 self:=λ_ _ _ _ _ st h=>wpAny_pyIter_revIter st.2 h
section
variable {X:Cx}{tg:Expr}
def AC(K:PySem.W.Frag)(ta:TA):TI:=λσ H R=>ta σ H λvs H1=>∃a xs,vs=[.ref a]/\SqL K H1 a xs/\R (Itv K a xs) H1
theorem wW{a:Expr}{ta:TA}{p pos:Pos}(hg:Gl X "reversed")(hm:X.mg "reversed"=none)(ha:PA X [a] ta)(hs:starEach [a] X.env=[(false,eval a X.env)]:=by rfl):PI X tg (.Call (.Name "reversed" p) [a] [] pos) (AC X.K ta):=by
 intro pins s σ H R I h;refine Call_ (dG I hg hm boot_reversed (PyProof.Rows.callWith_type1 (thn (ha pos pins s σ H _ I h) λus s1 ⟨vs,H1,I1,r1,q1⟩=>?_) hs rfl));obtain⟨a',xs,e,hq,q⟩:=q1;subst e;obtain⟨u,rfl,ru⟩:=r1.one;cases ru;obtain⟨its,rv,pl,hz⟩:=I1.list hq;have hl:=rv.length;refine call_reversed_list pl.isList ?_
 have hit:(s1.heap.push (revObj a' ((its.toArray.size:Int)-1))).IsRevIter s1.heap.objs.size a' ((xs.length:Int)-1-((0:Nat):Int)):=by
  have e1:(xs.length:Int)-1-((0:Nat):Int)=(its.toArray.size:Int)-1:=by rw[Fw];omega
  rw[e1];exact⟨_,Heap.get?_push_size _ rfl,rfl,rfl⟩
 have I2:Inv X pins σ H1 { s1 with heap:=s1.heap.push (revObj a' ((its.toArray.size:Int)-1)) }:=I1.kept (t':=s1.toks) λb o e=>Heap.get?_push_of_some _ e
 refine wpAny_pyIter_revIter (s:={ s1 with heap:=s1.heap.push (revObj a' ((its.toArray.size:Int)-1)) }) hit ?_;refine⟨s1.heap.objs.size,[s1.heap.objs.size],_,_,H1,rfl,I2,uz a' _ xs,⟨Fn _,hit⟩,λb hb=>?_,q⟩;have e:b=s1.heap.objs.size:=by simpa using hb
 subst e;exact I1.fpOk (Fl _) (I1.hok.fresh (Fl _))
end
theorem AV{K:PySem.W.Frag}{a:Addr}{xs:List V}{g:TG}{tb:TS}{D:Ends}{σ:St}{H:Hp}(Pv:Nat->St->Hp->Prop)(h0:Pv 0 σ H)(hl:∀i σ H,i<=xs.length->Pv i σ H->SqL K H a xs)
 (hs:∀i x σ H,i<xs.length->xs[xs.length-1-i]?=some x->Pv i σ H->g x σ H λσ2 H2=>tb { D with nx:=Pv (i+1),ct:=Pv (i+1),bk:=D.nx } σ2 H2) (hd:∀σ H,Pv xs.length σ H->D.nx σ H) :
 ∃W:Nat->Nat->St->Hp->Prop,(∃m,W 0 m σ H)/\∀i m σ H,W i m σ H ->
  ((Itv K a xs).stop i H/\D.nx σ H)\/((Itv K a xs).go i H/\∃N:St->Hp->Prop,(∀σ' H',N σ' H'->∃m',m'<m/\W (i+1) m' σ' H')/\∀x H',(Itv K a xs).yld i H x H'->g x σ H' λσ2 H2=>tb { D with nx:=N,ct:=N,bk:=D.nx } σ2 H2):=by
 refine⟨λi m σ H=>m=xs.length-i/\i<=xs.length/\Pv i σ H,⟨xs.length,by simp,Fn _,h0⟩,?_⟩;rintro i m σ H ⟨rfl,hi,p⟩;by_cases hlt:i<xs.length
 ·refine .inr ⟨⟨hl i σ H hi p,hlt⟩,Pv (i+1),λσ' H' p'=>⟨xs.length-(i+1),by omega,rfl,hlt,p'⟩,λx H' y=>?_⟩;obtain⟨e,y⟩:=y;subst e;exact hs i x σ _ hlt y p
 ·have e:i=xs.length:=by omega
  subst e;exact .inl ⟨Fl _,hd σ H p⟩
structure FunD(K:PySem.W.Frag)(x qual:Str)(st:Stmt)(dV:Value)(f:Addr)(fd:FuncData):Prop where
 ex:∃(oc:Value) (od:Option Addr) (kV doc pm:Value) (an:Option Addr) (cdv ct:Value) (osl:Array (Option Value)),
  fd=PySem.W.fnOf x qual (cH st) (cn st) (ax st) dV kV doc pm an cdv ct/\K.lookup f=some ⟨oc,od,.func fd,osl⟩/\PySem.W.codeIn K cdv qual=true
 kp:PySem.W.keepIn K (.ref f)=true
section
variable {P:Program}{w:World}{K:PySem.W.Frag}{mg:Str->Option Value}{base:Heap}
theorem FunD.ok{x qual:Str}{st:Stmt}{dV:Value}{f:Addr}{fd:FuncData}{N ps:List Str}{k:Nat}{sp:Sp}(F:FunD K x qual st dV f fd)(S:FnScope N ps (ax st))(len:∀vs H Q E,sp vs H Q E->vs.length=ps.length)
 (hbody:∀(cdv:Value) (A:Around) (outer:List Env) (s:Shared) (H:Hp) (vs:List V) (Q:VK) (E:XK),Room k (A.deeper (envOfC qual (ax st) s.heap.objs.size f cdv))->sp vs H Q E ->
   ∃t,PSs (ff CX0 P w K mg base N qual (ax st) f cdv A outer s H E).nox (cn st) t/\t { nx:=λ_ H'=>Q .non H',rt:=Q } (du N vs) H):FnOk P w K mg base CX0 (k+1) f fd ps sp:=by
 obtain⟨oc,od,kV,doc,pm,an,cdv,ct,osl,rfl,lk,hcd⟩:=F.ex;refine sj lk hcd S len λA outer s H vs Q E hr hsp=>?_
 obtain⟨t,h,q⟩:=hbody cdv A outer s H vs Q E hr hsp;exact⟨t,h.nox,q⟩
theorem FunD.binds{x qual:Str}{st:Stmt}{dV:Value}{f:Addr}{fd:FuncData}{ps:List Str}(F:FunD K x qual st dV f fd)
 (h:∀(kV doc pm:Value) (an:Option Addr) (cdv ct:Value) (us:List Value),us.length=ps.length->bindArgs (PySem.W.fnOf x qual (cH st) (cn st) (ax st) dV kV doc pm an cdv ct) ⟨us,[]⟩=pure (ps.zip us)):Binds K fd ps []:=by
 obtain⟨oc,od,kV,doc,pm,an,cdv,ct,osl,rfl,lk,hcd⟩:=F.ex;exact .all (h kV doc pm an cdv ct)
theorem FunD.bindsD{x qual:Str}{st:Stmt}{T:Addr}{f:Addr}{fd:FuncData}{ps:List Str}{ds tup:List Value}{o:Obj}{n:Nat}(m:Nat)(F:FunD K x qual st (.ref T) f fd)(lo:K.lookup T=some o)(hs:o.data=.seq tup.toArray n)(hm:m+ds.length=ps.length)
 (h:∀(kV doc pm:Value) (an:Option Addr) (cdv ct:Value) (us:List Value),us.length=m->∃k:Option (Array Value)->Sem (List (Str×Value)),
   bindArgs (PySem.W.fnOf x qual (cH st) (cn st) (ax st) (.ref T) kV doc pm an cdv ct) ⟨us,[]⟩=seqItems? (.ref T) >>= k/\k (some tup.toArray)=pure (ps.zip (us++ds))):Binds K fd ps ds:=by
 obtain⟨oc,od,kV,doc,pm,an,cdv,ct,osl,rfl,lk,hcd⟩:=F.ex;intro s us KX hl;rw[Fp]at hl;obtain⟨k,h1,h2⟩:=h kV doc pm an cdv ct us (by omega);exact PySem.W.binds_K (k:=k) KX rfl lo hs h1 h2
theorem AU{x qual:Str}{st:Stmt}{f:Addr}{oc:Value}{od an:Option Addr}{osl:Array (Option Value)}{dV kV doc pm cdv ct:Value}(l:K.lookup f=some ⟨oc,od,.func (PySem.W.fnOf x qual (cH st) (cn st) (ax st) dV kV doc pm an cdv ct),osl⟩)
 (c:PySem.W.codeIn K cdv qual=true) (k:PySem.W.keepIn K (.ref f)=true):FunD K x qual st dV f (PySem.W.fnOf x qual (cH st) (cn st) (ax st) dV kV doc pm an cdv ct):=⟨⟨oc,od,kV,doc,pm,an,cdv,ct,osl,rfl,l,c⟩,k⟩
end
structure MCal(P:Program)(w:World)(K:PySem.W.Frag)(mg:Str->Option Value)(base:Heap)(k:Nat)(C:Addr)(m:Str)(ps:List Str)(sp:Sp)(f:Addr)(fd:FuncData):Prop where
 ok:FnOk P w K mg base CX0 k f fd ps sp
 mt:Meth K C m f
 bd:Binds K fd ps []
structure KCal(P:Program)(w:World)(K:PySem.W.Frag)(mg:Str->Option Value)(base:Heap)(k:Nat)(C:Addr)(x:Str)(ps:List Str)(sp:Sp)(f:Addr)(fd:FuncData)(ds:List Value)(dvs:List V):Prop where
 ok:FnOk P w K mg base CX0 k f fd ps sp
 mkr:Mk K C f
 mg:mg x=some (.ref C)
 bd:Binds K fd ps []
 bdD:Binds K fd ps ds
 vd:Vals dvs ds
section
variable {prog:Program}{w:World}{A:Around}{E:Value->Shared->Prop}{s:Shared}
end
section
variable {X:Cx}{K:PySem.W.Frag}
theorem qm{pos:Pos}{es:List Expr}{k:Nat}{t:TGs}{n:Nat}(hK:X.K=K)(hc:X.calm=true)(h:PGs X es t)(hn:(assignEach es X.env).length=n)(hst:(assignEach es X.env).findIdx? (·.1)=none):PG X (.Tuple es k pos) (rZ K n t):=by subst hK;exact fR hc h hn hst
end
section
variable {P:Program}{w:World}{K:PySem.W.Frag}{mg:Str->Option Value}{base:Heap}{N:List Str}{qual:Str}{scope:Scope}{f:Addr}{cd:Value}{A:Around}{outer:List Env}{s:Shared}{H:Hp}{E:XK}{pins:List (Addr×Obj)}{σ:St}{H1:Hp}{s1:Shared}
end
noncomputable def gQ(lo:Int)(n:Nat):It:=⟨λi _=>i<n,λi H x H'=>H'=H/\x=.int (lo+i * -1),λi _=>n<=i⟩
theorem uA{P:Program}{w:World}{K:PySem.W.Frag}{tg:Expr}(it:Addr)(lo:Int)(n:Nat):Turn P w K tg (gQ lo n) [it] it (λi h=>IsRangeIter h it (lo+(i:Nat) * -1) ((n:Int)-(i:Nat)) (-1)) where
 mem:=by simp
 obj:=λi h st b hb=>by
  have e:b=it:=by simpa using hb
  subst e
  exact⟨_,st,λv z=>by
   have z':Data.fields _=Data.cell v:=z
   cases z'⟩
 keep:=λi h h' st k=>k it (by simp) _ st
 item:=by
  intro X hP hw hK hc i pins s σ H E I hf st hg;subst hP hw hK;obtain⟨f0,f1,f2,f3,f4,f5⟩:=hf it (by simp);have W:=Walks.range (prog:=X.prog) (w:=X.w) (I.ok.hd hc) it lo (-1) n;refine W.item i s _ _ hg st λv h' tk hv st' kk=>?_
  obtain⟨t,rfl⟩:=hv;have I1:Inv X pins σ H { s with heap:=h',toks:=tk }:=I.turned (λb o hb e=>kk b o (by simpa using hb) e) f0 f1 f3 f4 f5;exact⟨_,rfl,iU (s:={ s with heap:=h',toks:=tk }) (n:="range_iterator") st' rfl rfl (by decide) ⟨.int (lo+i * -1),H,I1,⟨t,rfl⟩,⟨rfl,rfl⟩,st',λb hb=>(hf b hb).1⟩⟩
 done:=by intro X hP hw hK hc i pins s σ H E I hf st hg;subst hP hw hK;obtain⟨f0,f1,f2,f3,f4,f5⟩:=hf it (by simp);exact wpAny_pyNext_range_end (I.ok.hd hc) st (by have:n<=i:=hg;omega) λh' eb=>⟨rfl,I.turned (t':=s.toks) (λb o hb e=>eb b o hb e) f0 f1 f3 f4 f5⟩
 self:=λ_ _ _ _ _ st h=>wpAny_pyIter_rangeiter st h
section
variable {X:Cx}{tg:Expr}
end
theorem AW{lo:Int}{n:Nat}{g:TG}{tb:TS}{D:Ends}{σ:St}{H:Hp}(Pv:Nat->St->Hp->Prop)(h0:Pv 0 σ H)
 (hs:∀i σ H,i<n->Pv i σ H->g (.int (lo+i * -1)) σ H λσ2 H2=>tb { D with nx:=Pv (i+1),ct:=Pv (i+1),bk:=D.nx } σ2 H2) (hd:∀σ H,Pv n σ H->D.nx σ H) :
 ∃W:Nat->Nat->St->Hp->Prop,(∃m,W 0 m σ H)/\∀i m σ H,W i m σ H ->
  ((gQ lo n).stop i H/\D.nx σ H)\/((gQ lo n).go i H/\∃N:St->Hp->Prop,(∀σ' H',N σ' H'->∃m',m'<m/\W (i+1) m' σ' H')/\∀x H',(gQ lo n).yld i H x H'->g x σ H' λσ2 H2=>tb { D with nx:=N,ct:=N,bk:=D.nx } σ2 H2):=by
 refine⟨λi m σ H=>m=n-i/\i<=n/\Pv i σ H,⟨n,by simp,Fn _,h0⟩,?_⟩;rintro i m σ H ⟨rfl,hi,p⟩;by_cases hlt:i<n
 ·refine .inr ⟨hlt,Pv (i+1),λσ' H' p'=>⟨n-(i+1),by omega,rfl,hlt,p'⟩,λx H' y=>?_⟩;obtain⟨e,y⟩:=y;subst e y;exact hs i σ _ hlt p
 ·have e:i=n:=by omega
  subst e;exact .inl ⟨Fl _,hd σ H p⟩
def Rws(K:PySem.W.Frag)(H:Hp)(ps:List Addr)(xss:List (List Int)):Prop:=ps.length=xss.length/\∀(i:Nat) (p:Addr) (xs:List Int),ps[i]?=some p->xss[i]?=some xs->SqL K H p (xs.map V.int)
theorem pG:∀{ps:List Addr} {us:List Value},Vals (ps.map V.ref) us->us=ps.map Value.ref
 | [],_,h=>by cases h;rfl
 |p::ps,_,h=>by
  cases h with
  |cons r rr =>cases r;rw[pG rr];rfl
section
variable {X:Cx}{K:PySem.W.Frag}
end
theorem zH{P:Program}{w:World}{K:PySem.W.Frag}{mg mb:Str->Option Value}{CX:CXT}{k:Nat}{fa a:Addr}{fd:FuncData}{x:Str}{sp:Sp}{s₁:Shared}{vs:List Value}{ns:List Int}
 (KX:K.In s₁.heap) (hns:s₁.heap.Ns mainGlobals mg) (hb:s₁.heap.Ns builtinsNs mb) (hbb:∀x:Str,x≠"__name__"->mb x=bootBuiltins x) (hlim:s₁.heap.NoLimit) (hse:s₁.heap.NoSeer) (hg:s₁.gens=#[])
 (ha:s₁.heap.get? a=some { cls:=.type "list",data:=.seq vs.toArray }) (hi:IntsAre vs ns) (hl:ns.length<=sizeLine) (hr:Room k callerA)
 (F:∀base:Heap,K.In base->base.Ns mainGlobals mg->base.NoSeer->FnOk P w K mg base CX k fa fd [x] sp) (hbind:∀(s:Shared) (u:Value),BindsTo s fd ⟨[u],[]⟩ [(x,u)])
 (hsp:∀H:Hp,mS H->SqL K H a (ns.map V.int)->sp [.ref a] H (λv _=>v=.bl true) λ_ _ _=>False)
 (hCX:∀H e s',CX [] H s₁ (λ_ _ _=>False) e s'->False) :
 codeAny (model P w) callerA (.call (.ref fa) ⟨[.ref a],[]⟩) (λr s'=>r=.ok (.ret (.bool true))/\OldK s₁.heap s'.heap/\s'.os=s₁.os/\AllBare s'.gens) s₁:=by
 have rv:=nF hi;have lenV:=hi.length
 have core:∀H:Hp,mS H->SqL K H a (ns.map V.int)->HOk P w H s₁.heap->(∀b,H b≠none->b=a)->(H a≠none->K.lookup a=none) ->
  codeAny (model P w) callerA (.call (.ref fa) ⟨[.ref a],[]⟩) (λr s'=>r=.ok (.ret (.bool true))/\OldK s₁.heap s'.heap/\s'.os=s₁.os/\AllBare s'.gens) s₁:=by
  intro H hO hS hok hA hK;have base_of:∀{b:Addr} {o:Obj},s₁.heap.get? b=some o->H b=none->(dd s₁.heap H).get? b=some o:=λe n=>AF e n
  have noA:∀{b:Addr} {o:Obj} {es:Array DictEntry} {ep:Nat},s₁.heap.get? b=some o->o.data=.dict es ep->H b=none:=λ{b o es ep} e d=>by
   cases q:H b with
   |none=>rfl
   |some u =>have e':b=a:=hA b (by rw[q];simp);subst e';rw[ha]at e;cases e;have d':Data.seq vs.toArray _=Data.dict es ep:=d;cases d'
  have nsK:∀{b:Addr} {m:Str->Option Value},s₁.heap.Ns b m->(dd s₁.heap H).Ns b m:=λ{b m} ⟨o,es,ep,e,d,r⟩=>⟨o,es,ep,base_of e (noA e d),d,r⟩
  have hKb:K.In (dd s₁.heap H):=λb o e=>base_of (KX b o e) (by
   cases q:H b with
   |none=>rfl
   |some u =>
    have e':b=a:=hA b (by rw[q];simp);subst e'
    rw[hK (by rw[q];simp)]at e;cases e)
  have hM:Mod K mg (dd s₁.heap H):=⟨hKb,nsK hns,⟨mb,nsK hb,hbb⟩,let⟨mc,h1,h2⟩:=hlim;⟨mc,nsK h1,h2⟩⟩
  have hSb:(dd s₁.heap H).NoSeer:=by
   obtain⟨⟨mc,c1,c2,c3⟩,⟨mm,m1,m2⟩,⟨mb',b1,b2⟩,⟨mg',bm,ob,g1,g2,g3,g4,g5⟩⟩:=hse;refine⟨⟨mc,nsK c1,c2,c3⟩,⟨mm,nsK m1,m2⟩,⟨mb',nsK b1,b2⟩,⟨mg',bm,ob,nsK g1,g2,base_of g3 ?_,g4,g5⟩⟩;cases q:H bm with
   |none=>rfl
   |some u =>have e':bm=a:=hA bm (by rw[q];simp);rw[e',ha]at g3;cases g3;exact absurd (Value.type.inj g4) (by decide)
  have e0:Env0 P w K mg (dd s₁.heap H) callerA [] s₁ H:=⟨rfl,hM,λb o e=>yu e,GK (AE _ _),trivial,λb hb=>absurd (show b∈([]:List Addr)from hb) (by simp),hok,.of_eq hg⟩;refine codeAny_mono ((F _ hKb (nsK hns) hSb).run callerA [] s₁ H ⟨[.ref a],[]⟩ [.ref a] [.ref a] _ _ hr e0 (hbind s₁ (.ref a)) (.cons rfl .nil) (hsp H hO hS)) λr s' h=>?_
  cases r with
  |error e=>exact(hCX H e s' h).elim
  |ok fl =>
   cases fl with
   |next=>exact False.elim h
   |brk=>exact False.elim h
   |cont=>exact False.elim h
   |ret u =>
    obtain⟨v,H',os,bare,un,hok',r',q⟩:=h;have q':v=.bl true:=q;subst q';obtain rfl:u=Value.bool true:=r';refine⟨rfl,OldK.of_keep λb o e=>?_,os,bare⟩;cases q:H b with
    |none=>exact un.keep b o e q (by intro z;exact absurd (show b∈([]:List Addr)from z) (by simp)) (by simp)
    |some u =>
     rcases hO b with z |⟨ob,xs,z⟩
     ·rw[q]at z;cases z
     ·have z2:=un.frzs b ob _ z;obtain⟨e1,_⟩:=hok b _ z;obtain⟨e2,_⟩:=hok' b _ z2;rw[e]at e1;cases e1;exact e2
 cases hk:K.lookup a with
 |some o =>have e:=KX a o hk;rw[ha]at e;cases e;refine core (λ_=>none) (λ_=>.inl rfl) (.inr ⟨_,vs.toArray,_,hk,rfl,rfl,rfl,by rw[Fw,lenV];exact hl,by simpa using rv⟩) (λb u z=>by have z':(none:Option HO)=some u:=z;cases z') (λb z=>absurd rfl z) λz=>absurd rfl z
 |none =>
  refine core (λb=>if b=a then some (.frz { cls:=.type "list",data:=.seq vs.toArray } (.lst (ns.map V.int)))else none) (λb=>?_) (.inl (.inr ⟨{ cls:=.type "list",data:=.seq vs.toArray },if_pos rfl⟩)) (λb u z=>?_) (λb z=>?_) λ_=>hk
  ·by_cases hb:b=a
   ·exact .inr ⟨_,_,if_pos hb⟩
   ·exact .inl (if_neg hb)
  ·by_cases hb:b=a
   ·have z':=(if_pos hb).symm.trans z;cases z';subst hb;exact⟨ha,by rw[Fk];exact hl,vs,_,rv,ha⟩
   ·have z':=(if_neg hb).symm.trans z;cases z'
  ·by_cases hb:b=a
   ·exact hb
   ·exact absurd (if_neg hb) z
theorem walk_ofS{l:PySem.W.OpenLaw}{n k:Nat}{q:Program}{loose:List Str}{XP:(Str->Option Value)->Heap->Prop}{YP:World->Heap->Prop}{d:DefRec}{K:Params->PySem.W.Frag}{CX:World->CXT}{sp:World->Sp}{x:Str}
 (hi:PyProof.Rows.importsNone q=true) (hn:l.most=some n) (hn2:n<=sizeLine) (hdf:d.params.defaults=[]) (hr:Room k callerA)
 (hY:∀(w:World) (h:Heap),YP w h->(K w.params).In h)
 (F:∀(w:World) (mg:Str->Option Value) (fa:Addr) (h:Heap),(K w.params).In h->h.Ns mainGlobals mg->mg d.name=some (.ref fa) ->
   ∃fd:FuncData,(∀(s:Shared) (u:Value),BindsTo s fd ⟨[u],[]⟩ [(x,u)]) /\
    ∀base:Heap,(K w.params).In base->base.Ns mainGlobals mg->base.NoSeer->FnOk l.prog w (K w.params) mg base (CX w) k fa fd [x] (sp w))
 (hsp:∀(w:World) (H:Hp) (a:Addr) (ns:List Int),ns.length<=n->mS H->SqL (K w.params) H a (ns.map V.int)->sp w [.ref a] H (λv _=>v=.bl true) λ_ _ _=>False)
 (hCX:∀(w:World) (H:Hp) (s:Shared) (e:Value) (s':Shared),CX w [] H s (λ_ _ _=>False) e s'->False) :
 PySem.W.WalkO q loose XP YP l.row.toRowW d [] (λf vs=>PySem.call f vs):=by
 refine Att.attach_call hn hdf λw s₀ s₁ mg mb fa o pm cd doc a vs ns G Y ho hd hcd hmg hobj hints hlen hg=>?_
 have KX:=hY w _ Y;obtain⟨fd,hb,hF⟩:=F w mg fa _ KX G.T.g hmg;exact zH KX G.T.g G.T.b G.T.builtins G.T.nolimit (G.T.seer hi) hg hobj hints (FA hlen hn2) hr hF hb (λH hO hS=>hsp w H a ns hlen hO hS) λH e s'=>hCX w H s₁ e s'
section
variable {X:Cx}{e:Env}{l:List Env}
theorem pE{pins:List (Addr×Obj)}{σ:St}{H:Hp}{s:Shared}(hs:X.base.NoSeer)(ht:X.prog.given.tree=none)(hd:X.A.depth+100<recursionLimit)(hst:X.stack=e::l)(h1:e.scope.isGenerator=false)(h2:e.scope.isCoroutine=false)(h3:e.builtins=builtinsNs)(h4:e.globals=mainGlobals)(I:Inv X pins σ H s):PylongRoom (model X.prog X.w) X.A s :=
 PylongRoom.of (I.ok.mod.nolimit.keeps I.bk) hd (SeerAt.of (hs.keeps I.bk) ht (by rw[I.ok.frames,hst]) h1 h2 h3 h4)
theorem kF(hs:X.base.NoSeer)(ht:X.prog.given.tree=none)(hd:X.A.depth+100<recursionLimit)(hst:X.stack=e::l)(h1:e.scope.isGenerator=false)(h2:e.scope.isCoroutine=false)(h3:e.builtins=builtinsNs)(h4:e.globals=mainGlobals):OpR X (binaryOp .FloorDiv) (rI (λ_ j=>0<j) λi j=>.int (i/j)):=by intro pins s σ H x y v u Q I rx ry h;obtain⟨i,j,rfl,rfl,hj,q⟩:=h;obtain⟨t,rfl⟩:=rx;obtain⟨t',rfl⟩:=ry;have hj':(0:Int)<j:=hj;refine floordiv_int (GW hj') ?_ (.inr (pE hs ht hd hst h1 h2 h3 h4 I));rw[Int.fdiv_eq_ediv_of_nonneg _ (Fq hj')];exact⟨.int (i/j),H,I.tok _,⟨_,rfl⟩,q⟩
theorem xk(hs:X.base.NoSeer)(ht:X.prog.given.tree=none)(hd:X.A.depth+100<recursionLimit)(hst:X.stack=e::l)(h1:e.scope.isGenerator=false)(h2:e.scope.isCoroutine=false)(h3:e.builtins=builtinsNs)(h4:e.globals=mainGlobals):OpR X (binaryOp .FloorDiv) (rI (λ_ j=>j≠0) λi j=>.int (i.fdiv j)):=by intro pins s σ H x y v u Q I rx ry h;obtain⟨i,j,rfl,rfl,hj,q⟩:=h;obtain⟨t,rfl⟩:=rx;obtain⟨t',rfl⟩:=ry;refine floordiv_int hj ?_ (.inr (pE hs ht hd hst h1 h2 h3 h4 I));exact⟨.int (i.fdiv j),H,I.tok _,⟨_,rfl⟩,q⟩
end
def Top(val:Nat->Int)(n:Nat)(M:Int):Prop:=(∃i,i<n/\val i=M)/\∀i,i<n->val i<=M
theorem Top.more{val:Nat->Int}{n:Nat}{M:Int}(h:Top val n M)(hn:val n>M):Top val (n+1) (val n) :=
 ⟨⟨n,by omega,rfl⟩,λi hi=>by
   by_cases e:i=n
   ·subst e;exact Gs _
   ·have:=h.2 i (by omega);omega⟩
theorem Top.less{val:Nat->Int}{n:Nat}{M:Int}(h:Top val n M)(hn:¬val n>M):Top val (n+1) M :=
 ⟨let⟨i,hi,e⟩:=h.1;⟨i,by omega,e⟩,λi hi=>by
  by_cases e:i=n
  ·subst e;omega
  ·exact h.2 i (by omega)⟩
section
variable {prog:Program}{w:World}{A:Around}{R:Result->Shared->Prop}{I S:Addr}{fp wr:List Addr}{n:Nat}{P:Nat->Value->Prop}{St:Nat->Heap->Prop}{val:Nat->Int}{d:Value}
end
section
variable {prog:Program}{w:World}{A:Around}{E:Value->Shared->Prop}{s:Shared}{l:Addr}{xs:Array (Int×Tok)}{d:Value}
end
section
variable {X:Cx}{K:PySem.W.Frag}{e ed:Expr}{ta td:TE}{p pos kp:Pos}
end
theorem tI:∀{bs:List Bool} {us:List Value},Vals (bs.map V.bl) us->us=bs.map Value.bool
 | [],_,h=>by cases h;rfl
 |b::bs,_,h=>by
  cases h with
  |cons r rr =>cases r;rw[tI rr];rfl
section
variable {X:Cx}
end
def pP(K:PySem.W.Frag):R2:=λx y H Q=>∃(a p:Addr) (ps:List Addr) (xss:List (List Int)) (xs:List Int),x=.ref p/\y=.ref a/\H p=some (.lst (xs.map V.int))/\SqL K H a (ps.map V.ref)/\ps.length=xss.length/\(∀(i:Nat) (p:Addr) (xs:List Int),ps[i]?=some p->xss[i]?=some xs->H p=some (.lst (xs.map V.int)))/\Q (.bl (!decide (xs∈xss))) H
theorem rG{xs ys:List Int}(h:xs.map V.int=ys.map V.int):xs=ys:=by
 refine List.ext_getElem? λi=>?_
 have:=congrArg (λl:List V=>l[i]?) h;simp only[List.getElem?_map]at this;cases e1:xs[i]?<;>cases e2:ys[i]?<;>rw[e1,e2]at this<;>simp at this
 rw[this]
open Classical in
noncomputable def fe (H:Hp) (xs:List Int) (w:Value):Bool:=match w with
 |.ref q=>decide (H q=some (.lst (xs.map V.int)))
 |_=>false
theorem eRow_iff{H:Hp}{xs:List Int}{q:Addr}:fe H xs (.ref q)=true↔H q=some (.lst (xs.map V.int)):=by unfold fe;exact @decide_eq_true_iff _ (_)
section
variable {X:Cx}{K:PySem.W.Frag}
theorem xf(hu:X.A.units+66<cLine):OpR X (compareOp .NotIn) (pP X.K):=by
 intro pins s σ H x y v u Q I rx ry h;obtain⟨a,p,ps,xss,xs,rfl,rfl,hp,ha,hl,hr,q⟩:=h;cases rx;cases ry;obtain⟨i0,r0,p0,_⟩:=I.list (SqL.of (K:=X.K) hp);obtain⟨i1,r1,p1,_⟩:=I.list ha;obtain rfl:=pG r1;refine SeqAt.notIn_listAt (fe H xs) p1.isList (λw hw=>?_) ⟨.bl _,H,I,rfl,?_⟩
 ·obtain⟨q,hq,rfl⟩:=Fo.mp (by simpa using hw);obtain⟨i,hi,rfl⟩:=Gu hq;have hx:xss[i]?=some (xss[i]'(by omega)):=List.getElem?_eq_getElem (by omega);have h1:=hr i ps[i] _ (List.getElem?_eq_getElem hi) hx;obtain⟨i2,r2,p2,_⟩:=I.list (SqL.of (K:=X.K) h1);have e:=PySem.W.keq_ints (A:=X.A) p2.isList (dW r2) p0.isList (dW r0) (by show X.A.units+1+64<cLine;omega)
  have ee:fe H xs (.ref ps[i])=decide (xss[i]'(by omega)=xs):=by
   rw[Hj,eRow_iff,h1,decide_eq_true_eq];constructor
   ·intro z;injection z with z;injection z with z;exact rG z
   ·intro z;rw[z]
  rw[ee];exact e
 ·have e:(ps.map Value.ref).toArray.any (fe H xs)=decide (xs∈xss):=by
   rw[show(ps.map Value.ref).toArray.any (fe H xs)=(ps.map Value.ref).any (fe H xs) by simp,Hj,List.any_eq_true,decide_eq_true_eq];constructor
   ·rintro⟨w,hw,z⟩;obtain⟨q,hq,rfl⟩:=Fo.mp hw;obtain⟨i,hi,rfl⟩:=Gu hq;have hx:xss[i]?=some (xss[i]'(by omega)):=List.getElem?_eq_getElem (by omega);have h1:=hr i ps[i] _ (List.getElem?_eq_getElem hi) hx;have z':H ps[i]=_:=eRow_iff.mp z;rw[h1]at z'
    injection z' with z';injection z' with z'
    rw[<- rG z'];exact Gb _
   ·intro hm;obtain⟨i,hi,rfl⟩:=Gu hm;refine⟨.ref (ps[i]'(by omega)),Fo.mpr ⟨_,Gb _,rfl⟩,?_⟩;exact eRow_iff.mpr (hr i _ _ (List.getElem?_eq_getElem (by omega)) (List.getElem?_eq_getElem hi))
  rw[e];exact q
theorem xc(h:X.K=K)(hu:X.A.units+66<cLine):OpR X (compareOp .NotIn) (pP K):=by subst h;exact xf hu
end
noncomputable def bg:Nat:=67000000
section
variable {X:Cx}{K:PySem.W.Frag}
end
section
variable {X:Cx}{tg:Expr}{K:PySem.W.Frag}
theorem Cy(bs:List Bool):(List.range bs.length).all (λi=>bs.getD i false)=bs.all id:=by
 rw[Hj,GM,GM];constructor
 ·intro h b hb;obtain⟨i,hi,rfl⟩:=Gu hb;have:=h i (G9.mpr hi);simpa[List.getD,List.getElem?_eq_getElem hi]using this
 ·intro h i hi;have hi':=G9.mp hi;have:=h bs[i] (Gb hi');simpa[List.getD,List.getElem?_eq_getElem hi']using this
end
theorem BY{X:Cx}{K:PySem.W.Frag}(hK:X.K=K)(hc:X.calm=true):CallR X (.builtin "all") (λxs H Q=>∃(p:Addr) (bs:List Bool),xs=[.ref p]/\SqL K H p (bs.map V.bl)/\Q (.bl (bs.all id)) H):=by
 subst hK;intro pins s σ H xs us Q I r h;obtain⟨p,bs,rfl,hq,q⟩:=h;obtain⟨u,rfl,rx⟩:=fy r;cases rx;obtain⟨its,r',pl,hz⟩:=I.list hq;have e:=tI r';subst e;have hl:=pl.isList;have hlt:p<s.heap.objs.size:=by obtain⟨_,e,_⟩:=hl;exact Heap.lt_size e
 refine call_all_walk (wpAny_pyIter_list hl ?_);refine⟨_,_,_,_,_,_,λi=>bs.getD i false,rfl,Walks.list (A:=X.A.in1) (I.ok.hd hc) _ p (FG hlt) _,⟨⟨_,Heap.get?_push_size _ rfl,rfl,rfl⟩,hl.push _⟩,λi v s' Q' E' hP hQ=>?_,λh' tk hk=>?_⟩
 ·have e:v=.bool (bs.getD i false):=by have hP':((bs.map Value.bool).toArray)[i]?=some v:=hP;simp only[List.getElem?_toArray,List.getElem?_map,Option.map_eq_some_iff]at hP';obtain⟨b,hb,rfl⟩:=hP';simp[List.getD,hb]
  subst e;exact wpAny_truthy_bool hQ
 ·refine⟨.bl (bs.all id),H,I.kept (old_kept hk),?_,q⟩;show Value.bool _=Value.bool _;rw[<- Cy bs];simp
section
variable {X:Cx}
end
end L2
namespace RM
open PySem
end RM
namespace L2
open PySem PySem.Spec PyProof.Rows
section
variable {X:Cx}{K:PySem.W.Frag}
end
section
variable {X:Cx}{pins:List (Addr×Obj)}{σ:St}{H:Hp}{s:Shared}{h':Heap}
end
section
variable {X:Cx}
end
section
variable {X:Cx}{K:PySem.W.Frag}
def pQ(K:PySem.W.Frag):R2:=λx y H Q=>∃(a b:Addr) (ns ms:List Int),x=.ref a/\y=.ref b/\SqT K H a (ns.map V.int)/\SqT K H b (ms.map V.int)/\Q (.bl (!decide (ns=ms))) H
theorem iR{us:List Value}{ns:List Int}(h:IntsAre us ns):us.length=ns.length:=by induction h<;>simp[*]
theorem rH{us:List Value}{ns:List Int}(h:IntsAre us ns):∀(j:Nat) (hj:j<us.length),∃(n:Int) (t:Tok),us[j]=.int n t/\ns[j]?=some n:=by
 induction h with
 |nil=>intro j hj;cases hj
 |cons n t _ ih =>
  intro j hj;cases j with
  |zero=>exact⟨n,t,rfl,rfl⟩
  |succ j=>obtain⟨n',t',e1,e2⟩:=ih j (Nat.lt_of_succ_lt_succ hj);exact⟨n',t',e1,e2⟩
theorem Cz{ns ms:List Int}{n:Nat}(hn:min ns.length ms.length=n):((List.range n).all (λj=>decide (ns[j]?=ms[j]?))&&ns.length == ms.length)=decide (ns=ms):=by
 rw[Hj];simp only[Bool.and_eq_true,GM,G9,decide_eq_true_eq,beq_iff_eq];constructor
 ·rintro⟨h1,h2⟩;refine List.ext_getElem? λj=>?_
  by_cases hj:j<n
  ·exact h1 j hj
  ·rw[List.getElem?_eq_none (by omega),List.getElem?_eq_none (by omega)]
 ·rintro rfl;exact⟨λ_ _=>rfl,rfl⟩
theorem xh(hu:X.A.units+66<cLine):OpR X (compareOp .NotEq) (pQ X.K):=by
 intro pins s σ H x y v u Q I rx ry h;obtain⟨a,b,ns,ms,rfl,rfl,ha,hb,q⟩:=h;cases rx;cases ry;obtain⟨i1,r1,p1,_⟩:=I.tuple ha;obtain⟨i2,r2,p2,_⟩:=I.tuple hb;have z1:=dW r1;have z2:=dW r2;refine SeqAt.RcNeAt.tuples (e:=λj=>decide (ns[j]?=ms[j]?)) p1 p2 (by omega) (λj h1 h2=>?_) _ _ _ _ ⟨.bl _,H,I,?_,q⟩
 ·obtain⟨n,t,e1,g1⟩:=rH z1 j h1;obtain⟨m,t',e2,g2⟩:=rH z2 j h2;have w1:i1.toArray[j]=i1[j]'h1:=rfl;have w2:i2.toArray[j]=i2[j]'h2:=rfl;rw[w1,w2,e1,e2,g1,g2];have:=(MeetsSeq.EqGives.int n m t t').at X.A.in1 s;have e:decide (some n=some m)=(n == m):=by rw[Hj];simp
  rw[e];exact this
 ·show Value.bool _=Value.bool _
  congr 2
  rw[<- Cz (n:=min i1.toArray.size i2.toArray.size) (by rw[Fw,Fw,iR z1,iR z2])];rw[Fw,Fw,iR z1,iR z2]
theorem xg(h:X.K=K)(hu:X.A.units+66<cLine):OpR X (compareOp .NotEq) (pQ K):=by subst h;exact xh hu
end
section
variable {X:Cx}{K:PySem.W.Frag}
def pV(K:PySem.W.Frag):R2:=λx y H Q=>∃(a b:Addr) (bs:List Bool),x=.ref a/\y=.ref b/\SqL K H a (bs.map V.bl)/\SqL K H b (bs.map V.bl)/\Q (.bl true) H
theorem Bk(b:Bool):MeetsSeq.EqGives (.bool b) (.bool b) true:=λprog w A E s Q h=>by unfold eqBool;show wpAny _ _ (if(Value.bool b == Value.bool b)=true then _ else _) Q E s;rw[if_pos (beq_self_eq_true _)];exact wpAny_bind (wpAny_rule (wpAny_pure h))
theorem mD:∀{bs:List Bool} {us:List Value},Vals (bs.map V.bl) us->us=bs.map Value.bool
 | [],_,.nil=>rfl
 |b::bs,_,.cons h t=>by cases h;rw[mD t];rfl
theorem xq(hu:X.A.units+66<cLine):OpR X (compareOp .Eq) (pV X.K):=by
 intro pins s σ H x y v u Q I rx ry h;obtain⟨a,b,bs,rfl,rfl,ha,hb,q⟩:=h;cases rx;cases ry;obtain⟨i1,r1,p1,_⟩:=I.list ha;obtain⟨i2,r2,p2,_⟩:=I.list hb;obtain rfl:=mD r1;obtain rfl:=mD r2;refine SeqAt.eq_listAt (e:=λ_=>true) p1.isList p2.isList rfl (by omega) (λj h1 h2=>?_) ⟨.bl _,H,I,?_,q⟩
 ·have e:(bs.map Value.bool).toArray[j]=Value.bool (bs[j]'(by simpa using h1)):=by simp
  rw[e];exact(Bk _).at X.A.in1 s
 ·show Value.bool _=Value.bool _
  congr 1
  rw[GM]
  exactλ_ _=>rfl
theorem xo(h:X.K=K)(hu:X.A.units+66<cLine):OpR X (compareOp .Eq) (pV K):=by subst h;exact xq hu
end
section
variable {X:Cx}{own fr:List Str}{js:List Nat}{scope:Scope}{cl:List (Str×Addr)}{elt target iter:Expr}{pos:Pos}{wi:TI}{g:TG}{te:TE}{cond:Expr}{tt:TT}
end
theorem vZ(r:Addr)(a b c:Int)(t u v:Tok)(hs:¬(!(Builtin.Range.rangeFitsLong a&&Builtin.Range.rangeFitsLong b&&Builtin.Range.rangeFitsLong c&&Builtin.Range.rangeFitsLong (-c)&&Builtin.Range.rangeFitsLong (a-c)&&Builtin.Range.rangeFitsLong (Builtin.Range.rangeSize a b c)))=true) :
 Meets (Builtin.«range.__reversed__» ⟨[.ref r],[]⟩) (λ_ R s=>s.heap.get? r=some { cls:=.type "range",dict:=none,data:=.fields #[.int a t,.int b u,.int c v],slots:=#[] } /\
  R (.ok (.ret (Value.ref s.heap.objs.size))) { s with heap:=s.heap.push { cls:=Value.type (if(Builtin.Range.rangeFitsLong a&&Builtin.Range.rangeFitsLong b&&Builtin.Range.rangeFitsLong c&&Builtin.Range.rangeFitsLong (-c)&&Builtin.Range.rangeFitsLong (a-c)&&Builtin.Range.rangeFitsLong (Builtin.Range.rangeSize a b c))=true then "range_iterator" else "longrange_iterator"),data:=Data.fields #[rawInt (a+(Builtin.Range.rangeSize a b c-1)*c),rawInt (Builtin.Range.rangeSize a b c),rawInt (-c)] },toks:=s.toks }) :=
 .of_wp λprog w A R s h=>by obtain⟨hp,g,d,tk,os⟩:=s;obtain⟨hl,h⟩:=h;wp_walk;exact⟨_,rfl,h⟩
section
variable {prog:Program}{w:World}{A:Around}{E:Value->Shared->Prop}{s:Shared}
noncomputable def rIt(x n:Int):Obj:={ cls:=.type "range_iterator",data:=.fields #[rawInt x,rawInt n,rawInt (-1)] }
theorem wd{l:Addr}{n:Int}{t u v:Tok}{Q:Value->Shared->Prop}(hl:IsRange s.heap l 0 n 1 t u v)(h0:0<=n)(hn:n<2^61)(h:Q (.ref s.heap.objs.size) { s with heap:=s.heap.push (rIt (n-1) n) }):wpAny (model prog w) A (call (.builtin "range.__reversed__") [.ref l]) Q E s:=by
 have hT:s.TypeIs (.ref l) "range":=⟨_,hl,rfl⟩;have hz:Builtin.Range.rangeSize 0 n 1=n:=by rw[rangeSize_one];split<;>omega
 have hsm:(Builtin.Range.rangeFitsLong 0&&Builtin.Range.rangeFitsLong n&&Builtin.Range.rangeFitsLong 1&&Builtin.Range.rangeFitsLong (-1)&&Builtin.Range.rangeFitsLong (0-1)&&Builtin.Range.rangeFitsLong (Builtin.Range.rangeSize 0 n 1))=true:=by rw[hz];simp only[Builtin.Range.rangeFitsLong,Bool.and_eq_true,decide_eq_true_eq];omega
 refine call_meets PySem.F.slot_range_reversed hT PySem.F.entry_range_reversed (PySem.F.args_range_reversed_1 _) (vZ l 0 n 1 t u v (by rw[hsm];decide)) ⟨hl,?_⟩;rw[if_pos hsm,hz];have e:(0:Int)+(n-1)*1=n-1:=by omega
 rw[e];exact h
theorem wc{l:Addr}{n:Int}{t u v:Tok}{Q₁:Value->Shared->Prop}(hl:IsRange s.heap l 0 n 1 t u v)(h0:0<=n)(hn:n<2^61)(h:Q₁ (.ref s.heap.objs.size) { s with heap:=s.heap.push (rIt (n-1) n) }) :
 codeAny (model prog w) A (.call (.builtin "reversed.__new__") ⟨[.type "reversed",.ref l],[]⟩) (wants Q₁ E) s:=by
 have hT:s.TypeIs (.ref l) "range":=⟨_,hl,rfl⟩;refine codeAny_of_tree ?_;change wpAny _ A.in1 (do checkBuiltinCall "reversed.__new__" ⟨[.type "reversed",.ref l],[]⟩;again (.builtin "reversed.__new__" ⟨[.type "reversed",.ref l],[]⟩)) _ _ s;refine wpAny_bind (wpAny_of_eq (PySem.F.newCall_reversed_1 _) (wpAny_pure ⟨plainId_quiet PySem.F.plain_reversed_new _,codeAny_builtin PySem.F.entry_reversed_new ?_⟩));rw[Around.under_plainId PySem.F.plain_reversed_new _];unfold Builtin.«reversed.__new__»;refine wpAny_bind (wpAny_of_eq (newClass_reversed _) ?_)
 try dsimp only
 refine wpAny_bind (wpAny_of_eq (a:=()) (by first |rfl |kernel_rfl) ?_);refine wpAny_bind (wpAny_of_eq (a:=()) (by first |rfl |kernel_rfl) ?_)
 try dsimp only
 refine wpAny_bind (wpAny_specialOf hT PySem.F.slot_range_reversed.lookup ?_)
 try dsimp only
 refine wpAny_bind (wpAny_of_eq (PySem.F.slot_range_reversed.bind _) ?_)
 try dsimp only
 have hno:¬((Value.builtin "range.__reversed__" == Value.none)=true):=GA
 first
 |rw[if_neg hno]
 | (show wpAny _ _ (if(Value.builtin "range.__reversed__" == Value.none)=true then _ else _) _ _ _;rw[if_neg hno])
 refine wpAny_bind (wpAny_rule ?_);refine wpAny_bind (m:=runValue (.call (.builtin "range.__reversed__") ⟨[.ref l],[]⟩)) (show wpAny _ _ (call (.builtin "range.__reversed__") [.ref l]) _ _ _ from wd hl h0 hn ?_)
 first
 |exact wpAny_pure h
 |exact wpAny_bind (wpAny_pure (wpAny_pure h))
theorem uV:isSubtype (.type "range_iterator") (.type "reversed")=pure false:=by rw[isSubtype_type];kernel_rfl
theorem we{l:Addr}{n:Int}{t u v:Tok}{Q:Value->Shared->Prop}(hl:IsRange s.heap l 0 n 1 t u v)(h0:0<=n)(hn:n<2^61)(h:Q (.ref s.heap.objs.size) { s with heap:=s.heap.push (rIt (n-1) n) }):wpAny (model prog w) A (call (.type "reversed") [.ref l]) Q E s:=by refine callType_other (U:="range_iterator") (Q₁:=λobj z=>obj=.ref s.heap.objs.size/\z={ s with heap:=s.heap.push (rIt (n-1) n) }) (by decide +kernel) PySem.F.create_reversed ⟨_,_,PySem.F.mro_reversed⟩ PySem.F.made_reversed uV (PySem.F.typeCall_reversed_1 _) (wc hl h0 hn ⟨rfl,rfl⟩) ?_;rintro obj z ⟨rfl,rfl⟩;exact⟨⟨_,Heap.get?_push_size _ rfl,rfl⟩,h⟩
end
section
variable {X:Cx}{tg:Expr}
def AA(ta:TA):TI:=λσ H R=>ta σ H λvs H1=>∃n:Int,vs=[.int n]/\0<=n/\n<2^61/\R (gQ (n-1) n.toNat) H1
theorem wV{a:Expr}{ta:TA}{p p' pos pos':Pos}(hg:Gl X "reversed")(hm:X.mg "reversed"=none)(hg':Gl X "range")(hm':X.mg "range"=none)(ha:PA X [a] ta)(hs:starEach [a] X.env=[(false,eval a X.env)]:=by rfl)
 (hs':starEach [Expr.Call (.Name "range" p') [a] [] pos'] X.env=[(false,eval (.Call (.Name "range" p') [a] [] pos') X.env)]:=by rfl):PI X tg (.Call (.Name "reversed" p) [.Call (.Name "range" p') [a] [] pos'] [] pos) (AA ta):=by
 intro pins s σ H R I h;refine Call_ (dG I hg hm boot_reversed (PyProof.Rows.callWith_type1 ?_ hs' rfl));rw[hs'];refine Calls.spliced_cons ?_;refine Call_ (dG I hg' hm' boot_range (PyProof.Rows.callWith_type1 (thn (ha pos' pins s σ H _ I h) λus s1 ⟨vs,H1,I1,r1,q1⟩=>?_) hs rfl));obtain⟨n,e,q1,q2,q⟩:=q1;subst e;obtain⟨x,rfl,rx⟩:=r1.one;obtain⟨t,rfl⟩:=rx;refine call_range_1 ?_;refine Calls.spliced_nil ?_;have I2:Inv X pins σ H1 { s1 with heap:=s1.heap.push { cls:=.type "range",data:=.fields #[.int 0 s1.toks,.int n t,.int 1 (s1.toks+1)] },toks:=s1.toks+1+1 }:=I1.kept λb o e=>Heap.get?_push_of_some _ e
 refine we (IsRange.new ..) q1 q2 ?_;generalize hS:({ s1 with heap:=s1.heap.push { cls:=.type "range",data:=.fields #[.int 0 s1.toks,.int n t,.int 1 (s1.toks+1)] },toks:=s1.toks+1+1 }:Shared)=s2 at I2 ⊢
 have I3:Inv X pins σ H1 { s2 with heap:=s2.heap.push (rIt (n-1) n) }:=I2.kept (t':=s2.toks) λb o e=>Heap.get?_push_of_some _ e
 have hit:IsRangeIter (s2.heap.push (rIt (n-1) n)) s2.heap.objs.size (n-1+((0:Nat):Int) * -1) ((n.toNat:Int)-((0:Nat):Int)) (-1):=by
  have e1:n-1+((0:Nat):Int) * -1=n-1:=by simp
  have e2:(n.toNat:Int)-((0:Nat):Int)=n:=by omega
  rw[e1,e2];exact Heap.get?_push_size _ rfl
 refine wpAny_pyIter_rangeiter (s:={ s2 with heap:=s2.heap.push (rIt (n-1) n) }) hit ?_;refine⟨s2.heap.objs.size,[s2.heap.objs.size],_,_,H1,rfl,I3,uA _ (n-1) n.toNat,hit,λb hb=>?_,q⟩;have e:b=s2.heap.objs.size:=by simpa using hb
 subst e;exact I2.fpOk (Fl _) (I2.hok.fresh (Fl _))
end
end L2
namespace RM
noncomputable def cf(l:List Int)(k:Nat):Int:=l.getD k 0
theorem bT(k:Nat):cf [] k=0:=by simp[cf]
theorem ml(x:Int)(l:List Int):cf (x::l) 0=x:=rfl
theorem mq(x:Int)(l:List Int)(k:Nat):cf (x::l) (k+1)=cf l k:=rfl
theorem aN{l:List Int}{k:Nat}(h:l.length<=k):cf l k=0:=by unfold cf;rw[List.getD,List.getElem?_eq_none_iff.mpr h];rfl
theorem bO{l:List Int}{k:Nat}(h:k<l.length):cf l k=l[k]:=by unfold cf;rw[List.getD,List.getElem?_eq_getElem h];rfl
theorem tE{l:List Int}{k:Nat}{x:Int}(h:l[k]?=some x):cf l k=x:=by unfold cf;rw[List.getD,h];rfl
theorem de{l:List Int}{k:Nat}(h:k<l.length):l[k]?=some (cf l k):=by rw[bO h,List.getElem?_eq_getElem h]
theorem tF{l r:List Int}{k:Nat}(h:k<l.length):cf (l++r) k=cf l k:=by unfold cf;rw[List.getD,List.getD,List.getElem?_append_left h]
theorem mx{l r:List Int}{k:Nat}(h:l.length<=k):cf (l++r) k=cf r (k-l.length):=by unfold cf;rw[List.getD,List.getD,List.getElem?_append_right h]
theorem fj{l:List Int}{j k:Nat}{x:Int}(h:j<l.length):cf (l.set j x) k=if k=j then x else cf l k:=by
 unfold cf;rw[List.getD,List.getD,List.getElem?_set];by_cases e:j=k
 ·subst e;simp[h]
 ·rw[if_neg e,if_neg (λz=>e z.symm)]
theorem gO(n k:Nat):cf (List.replicate n 0) k=0:=by unfold cf;rw[List.getD,List.getElem?_replicate];split<;>rfl
theorem d7(f:Nat->Int)(n k:Nat):cf ((List.range n).map f) k=if k<n then f k else 0:=by
 unfold cf;rw[List.getD,List.getElem?_map];by_cases h:k<n
 ·rw[if_pos h,List.getElem?_range h];rfl
 ·rw[if_neg h,List.getElem?_eq_none_iff.mpr (by simpa using h)];rfl
theorem cY{a b:List Int}(hl:a.length=b.length)(h:∀k,k<a.length->cf a k=cf b k):a=b:=by apply List.ext_getElem hl;intro k h1 h2;rw[<- bO h1,<- bO h2];exact h k h1
noncomputable def trim(l:List Int):List Int:=(l.reverse.dropWhile (· == 0)).reverse
theorem gU(l:List Int):trim (l++[0])=trim l:=by unfold trim;rw[List.reverse_append];rfl
theorem gi(l:List Int){x:Int}(h:x≠0):trim (l++[x])=l++[x]:=by unfold trim;rw[List.reverse_append];show((x::l.reverse).dropWhile (· == 0)).reverse=_;rw[List.dropWhile_cons_of_neg (by simpa using h)];simp
def Tr(l:List Int):Prop:=∀n,l.length=n+1->cf l n≠0
theorem cD(l:List Int):l=[]\/∃r x,l=r++[x]:=by
 cases h:l.reverse with
 |nil=>left;simpa using h
 |cons x r=>right;exact⟨r.reverse,x,by rw[<- List.reverse_reverse l,h];simp⟩
theorem gc(r:List Int)(x:Int):cf (r++[x]) r.length=x:=by rw[mx (Fl _),Nat.sub_self];rfl
theorem uH:Tr []:=λn h=>by simp at h
theorem tr_snoc{r:List Int}{x:Int}:Tr (r++[x])↔x≠0:=by
 constructor
 ·intro h;have:=h r.length (by simp)
  rwa [gc]at this
 ·intro h n hn;have e:n=r.length:=by simp at hn;omega
  subst e
  rwa [gc]
theorem gT:∀(n:Nat) (l:List Int),l.length=n->Tr (trim l)/\(trim l).length<=l.length/\∀k,cf (trim l) k=cf l k
 |0,l,h=>by have:l=[]:=Gc.mp h;subst this;exact⟨uH,Fl _,λ_=>rfl⟩
 |n+1,l,h=>by
  rcases cD l with rfl |⟨r,x,rfl⟩
  ·simp at h
  ·by_cases hx:x=0
   ·subst hx;obtain⟨h1,h2,h3⟩:=gT n r (by simpa using h);rw[gU];refine⟨h1,by rw[Fp];exact FA h2 (Nat.le_add_right _ _),λk=>?_⟩;rw[h3];by_cases hk:k<r.length
    ·rw[tF hk]
    ·rw[mx (Gd hk),aN (Gd hk)];cases e:k-r.length with
     |zero=>rfl
     |succ j=>rw[mq,bT]
   ·rw[gi r hx];exact⟨tr_snoc.mpr hx,Fl _,λ_=>rfl⟩
theorem bZ(l:List Int):Tr (trim l):=(gT _ l rfl).1
theorem rf(l:List Int):(trim l).length<=l.length:=(gT _ l rfl).2.1
theorem di(l:List Int)(k:Nat):cf (trim l) k=cf l k:=(gT _ l rfl).2.2 k
theorem uE{l:List Int}(h:Tr l):trim l=l:=by
 rcases cD l with rfl |⟨r,x,rfl⟩
 ·rfl
 ·exact gi r (tr_snoc.mp h)
theorem dM{a b:List Int}(ha:Tr a)(hb:Tr b)(h:∀k,cf a k=cf b k):a=b:=by
 have le:∀{a b:List Int},Tr a->(∀k,cf a k=cf b k)->a.length<=b.length:=λ{a b} ha h=>by
  cases e:a.length with
  |zero=>exact Fn _
  |succ n =>apply Classical.byContradiction;intro hn;exact ha n e (by rw[h n,aN (by omega)])
 have hl:a.length=b.length:=Nat.le_antisymm (le ha h) (le hb λk=>(h k).symm);exact cY hl λk _=>h k
theorem nJ{l:List Int}{n:Nat}(hn:n<l.length)(h:cf l n=0):trim (l.take (n+1))=trim (l.take n):=by rw[Ge,de hn,h];exact gU _
theorem nK{l:List Int}{n:Nat}(hn:n<l.length)(h:cf l n≠0):trim (l.take (n+1))=l.take (n+1):=by rw[Ge,de hn];exact gi _ h
noncomputable def cV(f:Int)(a b:List Int):List Int:=(List.range (max a.length b.length)).map λk=>cf a k+f*cf b k
theorem fm(f:Int)(a b:List Int)(k:Nat):cf (cV f a b) k=cf a k+f*cf b k:=by
 unfold cV;rw[d7];by_cases h:k<max a.length b.length
 ·rw[if_pos h]
 ·have h1:a.length<=k:=by omega
  have h2:b.length<=k:=by omega
  rw[if_neg h,aN h1,aN h2];simp
noncomputable def jg(a b:List Int):List Int:=trim (cV 1 a b)
noncomputable def aT(a b:List Int):List Int:=trim (cV (-1) a b)
noncomputable def tm(a b:List Int)(n i:Nat):Int:=if i<=n then cf a i*cf b (n-i)else 0
noncomputable def sm(a b:List Int)(n:Nat):Nat->Int
 |0=>0
 |j+1=>sm a b n j+tm a b n j
noncomputable def ao(a b:List Int)(n:Nat):Int:=sm a b n a.length
noncomputable def ad(a b:List Int):List Int:=if a=[]\/b=[]then[]else(List.range (a.length+b.length-1)).map (ao a b)
theorem uJ{a b:List Int}{n i:Nat}(h:a.length<=i):tm a b n i=0:=by
 unfold tm;split
 ·rw[aN h,FV]
 ·rfl
theorem gW{a b:List Int}{n i:Nat}(h:b.length<=n-i):tm a b n i=0:=by
 unfold tm;split
 ·rw[aN h,Fy]
 ·rfl
theorem fC{a b:List Int}{n:Nat}:∀{j:Nat},(∀i,i<j->tm a b n i=0)->sm a b n j=0
 |0,_=>rfl
 |j+1,h=>by rw[sm,fC λi hi=>h i (Nat.lt_succ_of_lt hi),h j (GC _)];rfl
theorem qL{a b:List Int}{n:Nat}(h:a.length+b.length<=n+1):ao a b n=0:=by apply fC;intro i hi;exact gW (by omega)
theorem kN{a b:List Int}{la lb:Nat}(ha:a.length=la+1)(hb:b.length=lb+1):ao a b (la+lb)=cf a la*cf b lb:=by unfold ao;rw[ha,sm,fC λi hi=>gW (by omega)];unfold tm;rw[if_pos (Nat.le_add_right _ _),Nat.add_sub_cancel_left,Gv]
theorem aB(a b:List Int)(n:Nat):cf (ad a b) n=ao a b n:=by
 unfold ad;by_cases h:a=[]\/b=[]
 ·rw[if_pos h,bT]
  symm
  apply fC;intro i hi;rcases h with rfl |rfl
  ·simp at hi
  ·exact gW (Fn _)
 ·rw[if_neg h,d7];by_cases hn:n<a.length+b.length-1
  ·rw[if_pos hn]
  ·rw[if_neg hn,qL (by omega)]
theorem eo{a b:List Int}(ha:Tr a)(hb:Tr b):Tr (ad a b):=by
 intro n hn;rw[aB];by_cases h:a=[]\/b=[]
 ·unfold ad at hn;rw[if_pos h]at hn;simp at hn
 ·have h1:a≠[]:=λz=>h (.inl z)
  have h2:b≠[]:=λz=>h (.inr z)
  obtain⟨la,ea⟩:∃la,a.length=la+1:=⟨a.length-1,by have:=Fm.mpr h1;omega⟩;obtain⟨lb,eb⟩:∃lb,b.length=lb+1:=⟨b.length-1,by have:=Fm.mpr h2;omega⟩;unfold ad at hn
  rw[if_neg h,Fk,FW]at hn;have e:n=la+lb:=by omega
  subst e;rw[kN ea eb];exact FB (ha la ea) (hb lb eb)
theorem qM{a b acc:List Int}{j k:Nat}(hj:j<a.length)(hk:k<b.length)(hl:j+k<acc.length)
 (h:∀n,n<acc.length->cf acc n=sm a b n j+(if j<=n/\n-j<k then tm a b n j else 0)) :
 ∀n,n<(acc.set (j+k) (cf acc (j+k)+cf a j*cf b k)).length->cf (acc.set (j+k) (cf acc (j+k)+cf a j*cf b k)) n=sm a b n j+(if j<=n/\n-j<k+1 then tm a b n j else 0):=by
 intro n hn;rw[Ga]at hn;rw[fj hl];by_cases e:n=j+k
 ·subst e;rw[if_pos rfl,h _ hl,if_neg (by omega),if_pos ⟨by omega,by omega⟩];unfold tm;rw[if_pos (by omega),Nat.add_sub_cancel_left,Gf]
 ·rw[if_neg e,h n hn]
  congr 1
  by_cases h1:j<=n/\n-j<k
  ·rw[if_pos h1,if_pos ⟨h1.1,by omega⟩]
  ·rw[if_neg h1,if_neg (by omega)]
theorem qO{a b acc:List Int}{j:Nat}(h:∀n,n<acc.length->cf acc n=sm a b n j+(if j<=n/\n-j<b.length then tm a b n j else 0)):∀n,n<acc.length->cf acc n=sm a b n (j+1):=by
 intro n hn;rw[h n hn,sm]
 congr 1
 by_cases h1:j<=n/\n-j<b.length
 ·rw[if_pos h1]
 ·rw[if_neg h1];by_cases h2:j<=n
  ·rw[gW (by omega)]
  ·unfold tm;rw[if_neg h2]
theorem qN{a b acc:List Int}{j:Nat}(h:∀n,n<acc.length->cf acc n=sm a b n j):∀n,n<acc.length->cf acc n=sm a b n j+(if j<=n/\n-j<0 then tm a b n j else 0):=by intro n hn;rw[if_neg (by omega),Gf];exact h n hn
theorem qP{a b acc:List Int}(hl:a.length+b.length<=acc.length+1)(h:∀n,n<acc.length->cf acc n=sm a b n a.length)(n:Nat):cf acc n=ao a b n:=by
 by_cases hn:n<acc.length
 ·exact h n hn
 ·rw[aN (Gd hn),qL (by omega)]
theorem n5(a b:List Int):trim ((List.range (max a.length b.length)).map λk=>cf a k-cf b k)=aT a b:=by
 unfold aT cV
 congr 2;funext k;omega
noncomputable def dv(t b:Int):Int:=if b<0 then -((Nat.gcd t.natAbs b.natAbs:Nat):Int)else((Nat.gcd t.natAbs b.natAbs:Nat):Int)
noncomputable def rt(t b:Int):Int:=t.fdiv (dv t b)
noncomputable def rb(t b:Int):Int:=b.fdiv (dv t b)
theorem iV{t b:Int}(hb:b≠0):0<Nat.gcd t.natAbs b.natAbs:=Nat.gcd_pos_of_pos_right _ (Gw.mpr hb)
theorem i7{t b:Int}(hb:b≠0):dv t b≠0:=by have:=@iV t b hb;unfold dv;split<;>omega
theorem gK(t b:Int):(dv t b).natAbs=Nat.gcd t.natAbs b.natAbs:=by unfold dv;split<;>omega
theorem Bm(t b:Int):dv t b∣t:=Int.natAbs_dvd_natAbs.mp (by rw[gK];exact GN _ _)
theorem Bl(t b:Int):dv t b∣b:=Int.natAbs_dvd_natAbs.mp (by rw[gK];exact GX _ _)
theorem sn{a d:Int}(hd:d≠0)(h:d∣a):d*a.fdiv d=a:=by obtain⟨c,rfl⟩:=h;rw[Int.mul_fdiv_cancel_left c hd]
theorem pA{t b:Int}(hb:b≠0):dv t b*rt t b=t:=sn (i7 hb) (Bm t b)
theorem kz{t b:Int}(hb:b≠0):dv t b*rb t b=b:=sn (i7 hb) (Bl t b)
theorem iw{t b:Int}(hb:b≠0):0<rb t b:=by
 have h1:=@kz t b hb;have h2:=@iV t b hb;by_cases hn:b<0
 ·have hd:dv t b<0:=by unfold dv;rw[if_pos hn];omega
  apply Classical.byContradiction;intro h;have:0<=dv t b*rb t b:=HD (Fq hd) (by omega);omega
 ·have hd:0<dv t b:=by unfold dv;rw[if_neg hn];omega
  apply Classical.byContradiction;intro h;have:dv t b*rb t b<=0:=Int.mul_nonpos_of_nonneg_of_nonpos (Fq hd) (by omega);omega
theorem vV{t b:Int}(hb:b≠0):(rt t b).natAbs<=t.natAbs:=by
 have h1:t.natAbs=Nat.gcd t.natAbs b.natAbs*(rt t b).natAbs:=by rw[<- gK,<- FP,pA hb]
 rw[h1];exact Hw _ (iV hb)
theorem wl{t b:Int}(hb:b≠0):(rb t b).natAbs<=b.natAbs:=by
 have h1:b.natAbs=Nat.gcd t.natAbs b.natAbs*(rb t b).natAbs:=by rw[<- gK,<- FP,kz hb]
 rw[h1];exact Hw _ (iV hb)
noncomputable def sg(x:Int):Int:=if x<0 then -1 else if 0<x then 1 else 0
theorem jF(x:Int):sg (-x) = -sg x:=by unfold sg;split<;>split<;>(try split)<;>(try split)<;>omega
theorem jH{x p:Int}(hp:0<p):sg (x*p)=sg x:=by
 unfold sg;by_cases h1:x<0
 ·rw[if_pos h1,if_pos (HE h1 hp)]
 ·by_cases h2:0<x
  ·have:=Fz h2 hp;rw[if_neg h1,if_pos h2,if_neg (by omega),if_pos this]
  ·obtain rfl:x=0:=by omega
   simp
noncomputable def hv(t b:Int):List Int->Int
 | []=>0
 |v::l=>v*b^(l.length+1)+t*hv t b l
theorem rQ(t b:Int):hv t b []=0:=rfl
theorem cW(t b v:Int)(l:List Int):hv t b (v::l)=v*b^(l.length+1)+t*hv t b l:=rfl
noncomputable def mb(a b:Int):Int->List Int->List Int
 |c,[]=>[c]
 |c,x::l=>(-a*x+c)::mb a b (b*x) l
theorem tD(x y:Int)(k:Nat):cf [x,y] k=if k=0 then x else if k=1 then y else 0:=by
 rcases k with _ |_ |k
 ·rfl
 ·rfl
 ·rw[if_neg (by omega),if_neg (by omega)];exact aN (by simp)
theorem wI{g:Int}(h:0<g)(n:Nat):0<g^n:=by
 induction n with
 |zero=>simp
 |succ n ih=>rw[Gg];exact Fz ih h
def At(l:List Int)(t b top bot:Int):Prop:=hv t b l*bot=top*b^l.length
theorem At.sign{l:List Int}{t b top bot:Int}(hb:0<b)(hbot:0<bot)(h:At l t b top bot):sg (hv t b l)=sg top:=by
 unfold At at h
 rw[<- jH (x:=hv t b l) hbot,h,jH (wI hb _)]
theorem rP(t u c:Int):hv t u [c]=c*u:=by show c*u^1+t*0=c*u;grind
theorem Bn(t b:Int){l:List Int}{n:Nat}(h:n<l.length):hv t b (l.drop n)=cf l n*b^(l.length-n)+t*hv t b (l.drop (n+1)):=by
 rw[List.drop_eq_getElem_cons h,cW,GV,bO h];have e:l.length-(n+1)+1=l.length-n:=by omega
 rw[e]
noncomputable def chF(z:Int×Int)(s:Int):Int×Int:=(if s*z.2<0 then z.1+1 else z.1,if s=0 then z.2 else s)
noncomputable def chS(l:List Int):Int×Int:=l.foldl chF (0,0)
theorem tu(l:List Int)(s:Int):chS (l++[s])=chF (chS l) s:=by unfold chS;rw[List.foldl_append];rfl
theorem tx:∀(n:Nat) (l:List Int),l.length=n->(∀s∈l,s.natAbs<=1)->(chS l).2.natAbs<=1/\0<=(chS l).1/\(chS l).1<=l.length
 |n,l,hn,h=>by
  rcases cD l with rfl |⟨r,s,rfl⟩
  ·decide
  ·have hr:r.length+1=n:=by rw[<- hn,Fp];rfl
   obtain⟨i1,i2,i3⟩:=tx (n-1) r (by omega) (λx hx=>h x (GJ _ hx));have hs:=h s (by simp);rw[tu];unfold chF;refine⟨?_,?_,?_⟩
   ·dsimp only;split
    ·exact i1
    ·exact hs
   ·dsimp only;split<;>omega
   ·dsimp only;rw[Fp];show _<=((r.length+1:Nat):Int);split<;>omega
termination_by n=>n
theorem BP(l:List Int)(h:∀s∈l,s.natAbs<=1):(chS l).2.natAbs<=1/\0<=(chS l).1/\(chS l).1<=l.length:=tx _ l rfl h
theorem pd(x:Int):(sg x).natAbs<=1:=by unfold sg;split<;>(try split)<;>decide
theorem oX{q q' b:List Int}{c l:Int}{p n:Nat}(h:∀k,cf q' k=c*cf q k+(if k=p then l else 0)) :
 ∀j,sm q' b n j=c*sm q b n j+(if p<j/\p<=n then l*cf b (n-p)else 0)
 |0=>by rw[sm,sm,if_neg (by omega)];simp
 |j+1=>by
  rw[sm,sm,oX h j];unfold tm;by_cases hj:j<=n
  ·rw[if_pos hj,if_pos hj,h j];by_cases e:j=p
   ·subst e;rw[if_pos rfl,if_neg (by omega),if_pos ⟨by omega,hj⟩];grind
   ·rw[if_neg e];by_cases h2:p<j/\p<=n
    ·rw[if_pos h2,if_pos ⟨by omega,h2.2⟩];grind
    ·rw[if_neg h2,if_neg (by omega)];grind
  ·rw[if_neg hj,if_neg hj];by_cases h2:p<j/\p<=n
   ·rw[if_pos h2,if_pos ⟨by omega,h2.2⟩];grind
   ·rw[if_neg h2,if_neg (by omega)];grind
theorem yL{q q' b:List Int}{c l:Int}{p n:Nat}(hl:q'.length=q.length)(hp:p<q.length)(h:∀k,cf q' k=c*cf q k+(if k=p then l else 0)) :
 ao q' b n=c*ao q b n+(if p<=n then l*cf b (n-p)else 0):=by
 unfold ao;rw[hl,oX h];by_cases h2:p<=n
 ·rw[if_pos h2,if_pos ⟨hp,h2⟩]
 ·rw[if_neg h2,if_neg (by omega)]
noncomputable def scL(c:Int)(l:List Int):List Int:=l.map λx=>c*x
theorem b6(c:Int)(l:List Int):(scL c l).length=l.length:=by unfold scL;rw[Fk]
theorem bh(c:Int)(l:List Int)(k:Nat):cf (scL c l) k=c*cf l k:=by
 by_cases h:k<l.length
 ·unfold cf scL;simp[h]
 ·rw[aN (by rw[b6];omega),aN (by omega)];simp
noncomputable def gH(r b:List Int)(p:Nat)(l:Int):List Int:=(List.range (r.length-1)).map λk=>cf r k-(if p<=k then l*cf b (k-p)else 0)
theorem zD(r b:List Int)(p:Nat)(l:Int):(gH r b p l).length=r.length-1:=by unfold gH;simp
theorem mv(r b:List Int)(p:Nat)(l:Int)(k:Nat):cf (gH r b p l) k=if k<r.length-1 then cf r k-(if p<=k then l*cf b (k-p)else 0)else 0:=by unfold gH;rw[d7]
theorem vx(x:Int):sg x*x=(x.natAbs:Int):=by unfold sg;split<;>(try split)<;>omega
noncomputable def cg(b:List Int)(z:List Int×List Int)(i:Nat):List Int×List Int :=
 let s:Int:=((cf b (b.length-1)).natAbs:Int)
 let l:=sg (cf b (b.length-1))*cf z.2 (z.2.length-1)
 ((scL s z.1).set i l,gH (scL s z.2) b i l)
noncomputable def bD(a b:List Int):Nat->List Int×List Int
 |0=>(List.replicate (a.length+1-b.length) 0,a)
 |i+1=>cg b (bD a b i) (a.length+1-b.length-1-i)
structure DivInv(a b:List Int)(i:Nat):Prop where
 lq:(bD a b i).1.length=a.length+1-b.length
 lr:(bD a b i).2.length=a.length-i
 low:∀k,k+i<a.length+1-b.length->cf (bD a b i).1 k=0
 eqn:∀n,((cf b (b.length-1)).natAbs:Int)^i*cf a n=ao (bD a b i).1 b n+cf (bD a b i).2 n
theorem kM{a b:List Int}{n:Nat}(h:∀k,cf a k=0):ao a b n=0:=by apply fC;intro i _;unfold tm;rw[h i];simp
theorem Bo{A B i:Nat}(hi:i+1<=A+1-B)(hb:0<B):∃p,A+1-B=p+i+1/\p+i+B=A:=⟨A-B-i,by omega,by omega⟩
theorem sM(p i:Nat):p<p+i+1:=Nat.lt_succ_of_le (Nat.le_add_right _ _)
theorem i8{P A C M R:Int}(en:P*A=M+R):P*C*A=C*M+C*R:=by rw[Int.mul_right_comm,en,FX,Int.mul_add]
theorem Bp(x y z:Int):x+y=x+z+(y-z):=by omega
theorem gb{a b:List Int}(hb:b≠[]):∀i,i<=a.length+1-b.length->DivInv a b i
 |0,_=>⟨by simp[bD],by simp[bD],λk _=>by show cf (List.replicate _ 0) k=0;rw[gO],λn=>by
  show _=ao (List.replicate _ 0) b n+cf a n
  rw[kM λk=>gO _ _];simp⟩
 |i+1,hi=>by
  obtain⟨lq,lr,low,eqn⟩:=gb (a:=a) hb i (Nat.le_of_succ_le hi);have hbl:=Fm.mpr hb;have e:bD a b (i+1)=cg b (bD a b i) (a.length+1-b.length-1-i):=rfl;generalize bD a b i=z at e lq lr low eqn
  obtain⟨p,ep,ed⟩:=Bo hi hbl;rw[ep,show p+i+1-1-i=p from Nat.add_sub_cancel _ _]at e;rw[ep]at lq low;have lz:z.2.length=p+b.length:=by rw[lr,<- ed,Nat.add_right_comm,Nat.add_sub_cancel]
  have hp:p<(scL ((cf b (b.length-1)).natAbs:Int) z.1).length:=by rw[b6,lq];exact sM p i
  have hq:∀k,cf (cg b z p).1 k=((cf b (b.length-1)).natAbs:Int)*cf z.1 k+(if k=p then sg (cf b (b.length-1))*cf z.2 (z.2.length-1)else 0):=by
   intro k;unfold cg;dsimp only
   rw[fj hp,bh];by_cases h:k=p
   ·rw[if_pos h,if_pos h,low k (by rw[h];exact GC _)];simp
   ·rw[if_neg h,if_neg h];simp
  have hlq:(cg b z p).1.length=p+i+1:=by unfold cg;dsimp only;rw[Ga,b6,lq]
  refine⟨?_,?_,?_,?_⟩
  ·rw[e,hlq,ep]
  ·rw[e];unfold cg;dsimp only;rw[zD,b6,lr];rfl
  ·intro k hk;rw[ep]at hk;have hk':k<p:=by clear lq lr low eqn hp hq hlq lz e ep ed;omega
   rw[e,hq,if_neg (FG hk'),low k (Nat.lt_trans (Nat.add_lt_add_right hk' i) (GC _))];simp
  ·intro n;rw[e,yL (by rw[hlq,lq]) (by rw[lq];exact sM p i) hq,Gg];have en:=eqn n;unfold cg;dsimp only
   rw[mv,b6,bh,lz];clear lq lr low eqn hp hq hlq e ep ed;by_cases h1:n<p+b.length-1
   ·rw[if_pos h1];by_cases h2:p<=n
    ·rw[if_pos h2,i8 en];exact Bp _ _ _
    ·rw[if_neg h2,i8 en,Gf,Int.sub_zero]
   ·rw[if_neg h1];have h2:p<=n:=by clear en;omega
    by_cases h3:n=p+b.length-1
    ·have h4:n-p=b.length-1:=by clear en;omega
     rw[if_pos h2,h4];have sg:=vx (cf b (b.length-1));rw[<- h3,i8 en,Gf,Int.mul_right_comm,sg]
    ·have hc:cf z.2 n=0:=aN (by rw[lz];clear en;omega);rw[if_pos h2,aN (l:=b) (k:=n-p) (by clear en;omega),i8 en,hc,Fy,Fy,Gf,Gf]
theorem sK{a b:List Int}(hb:b≠[])(ha:Tr a)(hbt:Tr b):∀i,i+1<=a.length+1-b.length->cf (bD a b (i+1)).1 (a.length+1-b.length-1)≠0
 |0,h=>by
  obtain⟨lq,lr,_,_⟩:=gb (a:=a) hb 0 (by omega);have hbl:=Fm.mpr hb;show cf (cg b (bD a b 0) _).1 _≠0;unfold cg;dsimp only
  rw[fj (by rw[b6,lq];omega),if_pos (by omega)];have hb1:=hbt (b.length-1) (by omega);have ha1:=ha (a.length-1) (by omega);refine FB ?_ ?_
  ·unfold sg;split<;>(try split)<;>omega
  ·rw[lr];exact ha1
 |i+1,h=>by
  have ih:=sK hb ha hbt i (by omega);obtain⟨lq,lr,_,_⟩:=gb (a:=a) hb (i+1) (by omega);have hbl:=Fm.mpr hb;show cf (cg b (bD a b (i+1)) _).1 _≠0;unfold cg;dsimp only
  have hN:∀n,i+1+1<=n->¬n-1=n-1-(i+1):=λn hn e=>by omega
  rw[fj (by rw[b6,lq];omega),if_neg (hN _ h),bh];have hb1:=hbt (b.length-1) (by omega);refine FB ?_ ih;omega
noncomputable def aW(a b:List Int):Nat:=a.length+1-b.length
noncomputable def aF(a b:List Int):Int:=((cf b (b.length-1)).natAbs:Int)^aW a b
noncomputable def aH(a b:List Int):List Int:=(bD a b (aW a b)).1
noncomputable def aj(a b:List Int):List Int:=trim (bD a b (aW a b)).2
theorem dN{a b:List Int}(hb:b≠[])(n:Nat):aF a b*cf a n=ao (aH a b) b n+cf (aj a b) n:=by unfold aj aH aF;rw[di];exact(gb hb (aW a b) (Fl _)).eqn n
theorem dg{a b:List Int}(hb:b≠[]):(aj a b).length<b.length:=by
 have h:=(gb (a:=a) hb (aW a b) (Fl _)).lr;have h2:=rf (bD a b (aW a b)).2;have hbl:=Fm.mpr hb;unfold aj;unfold aW at *
 omega
theorem gL{a b:List Int}(hb:b≠[]):(aH a b).length=aW a b:=(gb (a:=a) hb (aW a b) (Fl _)).lq
theorem sI{a b:List Int}(hb:b≠[])(ha:Tr a)(hbt:Tr b):Tr (aH a b):=by
 intro n hn;rw[gL hb]at hn;have h:=sK hb ha hbt n (by unfold aW at hn;omega);unfold aH;rw[hn];have:a.length+1-b.length-1=n:=by unfold aW at hn;rw[hn];rfl
 rwa [this]at h
theorem dZ(a b:List Int):Tr (aj a b):=bZ _
theorem o0{a a' b b':List Int}{n:Nat}(h1:∀k,cf a k=cf a' k)(h2:∀k,cf b k=cf b' k):∀j,sm a b n j=sm a' b' n j
 |0=>rfl
 |j+1=>by rw[sm,sm,o0 h1 h2 j];unfold tm;rw[h1 j,h2 (n-j)]
theorem oY{a b:List Int}{n:Nat}:∀d,sm a b n (a.length+d)=ao a b n
 |0=>rfl
 |d+1=>by rw[<- Nat.add_assoc,sm,oY d,uJ (by omega)];omega
theorem gu{a b:List Int}{n N:Nat}(h:a.length<=N):sm a b n N=ao a b n:=by obtain⟨d,rfl⟩:=Nat.exists_eq_add_of_le h;exact oY d
theorem iE{a a' b b':List Int}{n:Nat}(h1:∀k,cf a k=cf a' k)(h2:∀k,cf b k=cf b' k):ao a b n=ao a' b' n:=by rw[<- gu (Nat.le_max_left a.length a'.length),<- gu (Nat.le_max_right a.length a'.length)];exact o0 h1 h2 _
theorem oW{a b c q:List Int}{x y:Int}{n:Nat}(h:∀k,cf c k=x*cf a k+y*cf b k):∀j,sm c q n j=x*sm a q n j+y*sm b q n j
 |0=>by simp[sm]
 |j+1=>by
  rw[sm,sm,sm,oW h j];unfold tm;rw[h j];by_cases hj:j<=n
  ·rw[if_pos hj,if_pos hj,if_pos hj];grind
  ·rw[if_neg hj,if_neg hj,if_neg hj];grind
theorem cG{a b c q:List Int}{x y:Int}{n:Nat}(h:∀k,cf c k=x*cf a k+y*cf b k):ao c q n=x*ao a q n+y*ao b q n:=by
 have h1:a.length<=a.length+b.length+c.length:=by omega
 have h2:b.length<=a.length+b.length+c.length:=by omega
 have h3:c.length<=a.length+b.length+c.length:=by omega
 rw[<- gu h1,<- gu h2,<- gu h3];exact oW h _
theorem oV{a b b':List Int}{c:Int}{n:Nat}(h:∀k,cf b' k=c*cf b k):∀j,sm a b' n j=c*sm a b n j
 |0=>by simp[sm]
 |j+1=>by
  rw[sm,sm,oV h j];unfold tm;rw[h (n-j)];by_cases hj:j<=n
  ·rw[if_pos hj,if_pos hj];grind
  ·rw[if_neg hj,if_neg hj];grind
theorem gC{a b b':List Int}{c:Int}{n:Nat}(h:∀k,cf b' k=c*cf b k):ao a b' n=c*ao a b n:=oV h _
theorem c8(c:Int)(l:List Int)(n:Nat):ao [c] l n=c*cf l n:=by unfold ao;show sm [c] l n 0+tm [c] l n 0=_;unfold sm tm;rw[if_pos (Fn _),ml,GO,Gv]
theorem kL{l:List Int}(ht:Tr l)(h:∀k,cf l k=0):l=[]:=by
 refine Classical.byContradiction λhne=>?_
 have hl:=Fm.mpr hne;exact ht (l.length-1) (by omega) (h _)
theorem kO{d q:List Int}(hq:q≠[])(hqt:Tr q)(h:∀n,q.length<=n+1->ao d q n=0):∀k,cf d k=0:=by
 have e:trim d=[]:=by
  refine Classical.byContradiction λhne=>?_
  have hl:=Fm.mpr hne;have hql:=Fm.mpr hq;have ht:=bZ d ((trim d).length-1) (by omega);have hb:=hqt (q.length-1) (by omega);have h1:=h ((trim d).length-1+(q.length-1)) (by omega);rw[<- iE (a:=trim d) (b:=q) (λk=>di d k) (λ_=>rfl),kN (la:=(trim d).length-1) (lb:=q.length-1) (by omega) (by omega)]at h1;exact FB ht hb h1
 intro k;rw[<- di,e,bT]
theorem gM{a b:List Int}(hb:b≠[])(hbt:Tr b):aF a b≠0:=by
 have hbl:=Fm.mpr hb;have h:=hbt (b.length-1) (by omega);have h1:((cf b (b.length-1)).natAbs:Int)≠0:=by omega
 unfold aF;generalize aW a b=n
 induction n with
 |zero=>rw[Int.pow_zero];decide
 |succ n ih=>rw[Gg];exact FB ih h1
noncomputable def cM(d:Nat)(l:List Int):Nat:=l.foldl (λd v=>Nat.gcd d v.natAbs) d
noncomputable def ai(l:List Int):Nat:=cM 0 l
theorem rY(d:Nat):cM d []=d:=rfl
theorem lK(d:Nat)(v:Int)(l:List Int):cM d (v::l)=cM (Nat.gcd d v.natAbs) l:=rfl
theorem AQ(d:Nat)(l:List Int)(v:Int):cM d (l++[v])=Nat.gcd (cM d l) v.natAbs:=by unfold cM;rw[List.foldl_append];rfl
theorem lJ(l:List Int)(v:Int):ai (l++[v])=Nat.gcd (ai l) v.natAbs:=AQ 0 l v
theorem sF{m:Nat}:∀{l:List Int} {d:Nat},m∣cM d l↔m∣d/\∀v∈l,m∣v.natAbs
 | [],d=>by simp[rY]
 |v::l,d=>by rw[lK,sF,Nat.dvd_gcd_iff];simp only[Ft,forall_eq_or_imp];exact⟨λ⟨⟨a,b⟩,c⟩=>⟨a,b,c⟩,λ⟨a,b,c⟩=>⟨⟨a,b⟩,c⟩⟩
theorem dvd_gcdL{m:Nat}{l:List Int}:m∣ai l↔∀v∈l,m∣v.natAbs:=by unfold ai;rw[sF];exact⟨λh=>h.2,λh=>⟨Nat.dvd_zero m,h⟩⟩
theorem iX{l:List Int}{v:Int}(h:v∈l):ai l∣v.natAbs:=dvd_gcdL.mp (Gx _) v h
theorem AN(v:Int):ai [v]=v.natAbs:=by show Nat.gcd 0 v.natAbs=_;exact Nat.gcd_zero_left _
theorem rV{a b:Int}(ha:0<=a)(hb:0<b):Nat.gcd b.natAbs (a%b).natAbs=Nat.gcd a.natAbs b.natAbs:=by
 have e:(a%b).natAbs=a.natAbs%b.natAbs:=by obtain⟨x,rfl⟩:=Int.eq_ofNat_of_zero_le ha;obtain⟨y,rfl⟩:=Int.eq_ofNat_of_zero_le (Fq hb);rfl
 rw[e,Nat.gcd_comm,<- Nat.gcd_rec,Nat.gcd_comm]
noncomputable def ah(l:List Int):List Int:=l.map λx=>x/(ai l:Int)
noncomputable def b7(l:List Int):Int:=cf l (l.length-1)
theorem dH(r:List Int)(x:Int):b7 (r++[x])=x:=by unfold b7;rw[Fp];exact gc r x
noncomputable def ce(l:List Int):List Int:=if b7 l<0 then l.map λx => -x else l
noncomputable def aI(l:List Int):List Int:=ce (ah l)
theorem nL{c:Int->Int}(h0:∀x,c x=0↔x=0):∀(n:Nat) (l:List Int),l.length=n->trim (l.map c)=(trim l).map c
 |0,l,h=>by rw[Gc.mp h];rfl
 |n+1,l,h=>by
  rcases cD l with rfl |⟨r,x,rfl⟩
  ·rfl
  ·rw[FD];show trim (r.map c++[c x])=_;by_cases hx:x=0
   ·subst hx;rw[(h0 0).mpr rfl,gU,gU];exact nL h0 n r (by simpa using h)
   ·rw[gi r hx,gi _ (λz=>hx ((h0 x).mp z)),FD];rfl
def gf(l:List Int):Prop:=l=[]\/ai l=1
theorem vk{l:List Int}(h:gf l):ah l=l:=by
 rcases h with rfl |h
 ·rfl
 ·unfold ah;rw[h]
  conv=>rhs;rw[<- List.map_id l]
  apply GF;intro x _;show x/1=x;exact Int.ediv_one x
theorem AO{l:List Int}{s:Int}(hs:s=1\/s = -1):ai (l.map λx=>x*s)=ai l:=by
 have key:∀m:Nat,m∣ai (l.map λx=>x*s)↔m∣ai l:=by
  intro m;rw[dvd_gcdL,dvd_gcdL]
  have e:∀x:Int,(x*s).natAbs=x.natAbs:=λx=>by
   rcases hs with rfl |rfl
   ·rw[FT]
   ·rw[Int.mul_neg,FT,Int.natAbs_neg]
  constructor
  ·intro h v hv;have:=h (v*s) (Fo.mpr ⟨v,hv,rfl⟩)
   rwa [e]at this
  ·intro h v hv;obtain⟨u,hu,rfl⟩:=Fo.mp hv;rw[e];exact h u hu
 exact Nat.dvd_antisymm ((key _).mp (Gx _)) ((key _).mpr (Gx _))
theorem wG{l:List Int}(h:gf l):gf (l.map λx => -x):=by
 rcases h with rfl |h
 ·exact .inl rfl
 ·right
  have e:(l.map λx => -x)=l.map λx=>x*(-1):=by apply GF;intro x _;omega
  rw[e,AO (.inr rfl),h]
theorem rm(l:List Int):b7 (l.map λx => -x) = -b7 l:=by
 rcases cD l with rfl |⟨r,x,rfl⟩
 ·rfl
 ·rw[FD];show b7 (r.map _++[-x])=_;rw[dH,dH]
theorem wF{l:List Int}(h:gf l):gf (ce l):=by
 unfold ce;split
 ·exact wG h
 ·exact h
theorem uI{c:Int->Int}(h0:∀x,c x=0↔x=0){l:List Int}(h:Tr l):Tr (l.map c):=by rw[<- uE h,<- nL h0 _ l rfl];exact bZ _
theorem uG{l:List Int}(h:Tr l):Tr (ce l):=by
 unfold ce;split
 ·exact uI (λx=>by omega) h
 ·exact h
theorem rX(c:Int):∀(l:List Int) (d:Nat),cM (c.natAbs*d) (scL c l)=c.natAbs*cM d l
 | [],d=>rfl
 |v::l,d=>by show cM (Nat.gcd (c.natAbs*d) (c*v).natAbs) (scL c l)=c.natAbs*cM (Nat.gcd d v.natAbs) l;rw[FP,Nat.gcd_mul_left,rX c l]
theorem iW(c:Int)(l:List Int):ai (scL c l)=c.natAbs*ai l:=by have h:=rX c l 0;rw[Nat.mul_zero]at h;exact h
theorem fb{l:List Int}{x:Int}(h:x∈l):(ai l:Int)∣x:=GP.mpr (iX h)
theorem vi{c:Int}(hc:0<c)(l:List Int):ah (scL c l)=ah l:=by
 unfold ah;rw[iW];unfold scL;rw[Go];refine GF λx _=>?_
 show c*x/((c.natAbs*ai l:Nat):Int)=x/(ai l:Int);have e:((c.natAbs*ai l:Nat):Int)=c*(ai l:Int):=by rw[Hk];congr 1;omega
 rw[e,Int.mul_ediv_mul_of_pos _ _ hc]
theorem vj{c:Int}(hc:c<0)(l:List Int):ah (scL c l)=(ah l).map λx => -x:=by
 unfold ah;rw[iW];unfold scL;rw[Go,Go];refine GF λx hx=>?_
 show c*x/((c.natAbs*ai l:Nat):Int) = -(x/(ai l:Int));have e:((c.natAbs*ai l:Nat):Int)=(-c)*(ai l:Int):=by rw[Hk];congr 1;omega
 have e2:c*x=(-c)*(-x):=by rw[Int.neg_mul_neg]
 rw[e,e2,Int.mul_ediv_mul_of_pos _ _ (by omega:0 < -c),Int.neg_ediv_of_dvd (fb hx)]
theorem wL{m:List Int}(h:Tr m):ce (m.map λx => -x)=ce m:=by
 rcases cD m with rfl |⟨r,x,rfl⟩
 ·rfl
 have hx:x≠0:=tr_snoc.mp h;have h1:=rm (r++[x]);rw[dH]at h1;unfold ce;rw[h1,dH];by_cases hn:x<0
 ·rw[if_neg (by omega),if_pos hn]
 ·rw[if_pos (by omega),if_neg hn,Go];rw[show((λx:Int => -x) ∘ λx:Int => -x)=id from by funext y;simp];exact List.map_id _
theorem cZ{l:List Int}(h:Tr l):Tr (ah l):=by
 intro n hn;have hl:l.length=n+1:=by rw[<- hn];unfold ah;rw[Fk]
 have hx:=h n hl;have hm:cf l n∈l:=by rw[bO (by omega)];exact Gb _
 have e:cf (ah l) n=cf l n/(ai l:Int):=by
  have h1:n<l.length:=by omega
  unfold ah cf;simp[List.getD,h1]
 rw[e];intro z;have d:=fb hm;have:=Hx d;rw[z,Fy]at this;exact hx this.symm
theorem kE{c:Int}(hc:c≠0){l:List Int}(h:Tr l):aI (scL c l)=aI l:=by
 unfold aI;by_cases hp:0<c
 ·rw[vi hp]
 ·rw[vj (by omega),wL (cZ h)]
theorem gk{c:Int}(hc:c≠0){l:List Int}(h:Tr l):Tr (scL c l):=by intro n hn;rw[b6]at hn;rw[bh];exact FB hc (h n hn)
theorem wS{a b:List Int}{x y:Int}(hx:x≠0)(hy:y≠0)(ha:Tr a)(hb:Tr b)(h:∀k,x*cf a k=y*cf b k):aI a=aI b:=by
 have e:scL x a=scL y b:=dM (gk hx ha) (gk hy hb) λk=>by rw[bh,bh,h k]
 rw[<- kE hx ha,e,kE hy hb]
noncomputable def slopeL(l:List Int):List Int:=(List.range (l.length-1)).map λ(k:Nat)=>((k:Int)+1)*cf l (k+1)
noncomputable def lc(l:List Int)(m n:Nat):Int:=if n%m=0 then cf l (n/m)else 0
noncomputable def lp(l:List Int)(m i n:Nat):Int:=if n%m=0/\n/m<i then cf l (n/m)else 0
noncomputable def rst(one other:List Int):List Int:=if other=[]then[]else aj one other
noncomputable def nxt(one other:List Int):List Int:=ah (aT [] (rst one other))
noncomputable def aO:Nat->List Int->List Int->List (List Int)
 |0,_,_=>[]
 |n+1,one,other=>if one=[]then[]else one::aO n other (nxt one other)
theorem fI(n:Nat)(o:List Int):aO n [] o=[]:=by cases n with |zero=>rfl |succ n=>show(if([]:List Int)=[]then _ else _)=_;rw[if_pos rfl]
noncomputable def up(f:Nat->Int)(n:Nat):Int:=if n=0 then 0 else f (n-1)
theorem oZ(x:Int)(a b:List Int)(n:Nat):∀j,sm (x::a) b n (j+1)=x*cf b n+(if n=0 then 0 else sm a b (n-1) j)
 |0=>by
  show 0+tm (x::a) b n 0=_;unfold tm;rw[if_pos (Fn _)];rw[ml,GO];by_cases h:n=0
  ·rw[if_pos h];omega
  ·rw[if_neg h];show _=_+0;omega
 |j+1=>by
  show sm (x::a) b n (j+1)+tm (x::a) b n (j+1)=_;rw[oZ x a b n j];by_cases h:n=0
  ·rw[if_pos h,if_pos h];unfold tm;rw[if_neg (by omega)];omega
  ·rw[if_neg h,if_neg h];show _=_+(sm a b (n-1) j+tm a b (n-1) j)
   have e:tm (x::a) b n (j+1)=tm a b (n-1) j:=by
    unfold tm;rw[mq];by_cases h2:j+1<=n
    ·rw[if_pos h2,if_pos (by omega)]
     congr 2;omega
    ·rw[if_neg h2,if_neg (by omega)]
   rw[e];omega
theorem cy(x:Int)(a b:List Int)(n:Nat):ao (x::a) b n=x*cf b n+up (ao a b) n:=oZ x a b n a.length
theorem cL(b:List Int)(n:Nat):ao [] b n=0:=rfl
theorem mw(x:Int)(a:List Int)(n:Nat):cf (x::a) n=(if n=0 then x else 0)+up (cf a) n:=by
 cases n with
 |zero=>show x=x+0;omega
 |succ n=>show cf a n=0+cf a n;omega
theorem kQ(y:Int)(b:List Int):∀(a:List Int) (n:Nat),ao a (y::b) n=y*cf a n+up (ao a b) n
 | [],n=>by
  rw[cL,bT];unfold up;split
  ·simp
  ·rw[cL];simp
 |x::a,n=>by
  rw[cy,mw,mw];cases n with
  |zero =>show x*(y+0)+0=y*(x+0)+0;simp only[Gf];exact FX _ _
  |succ n =>show x*(0+cf b n)+ao a (y::b) n=y*(0+cf a n)+ao (x::a) b n;rw[kQ y b a n,cy];simp only[Gv];omega
theorem kP:∀(a:List Int) (n:Nat),ao a [] n=0
 | [],n=>rfl
 |x::a,n=>by
  rw[cy,bT];unfold up;split
  ·simp
  ·rw[kP a];simp
theorem dF:∀(a b:List Int) (n:Nat),ao a b n=ao b a n
 | [],b,n=>by rw[kP];rfl
 |x::a,b,n=>by
  rw[cy,kQ]
  congr 1
  unfold up;split
  ·rfl
  ·exact dF a b _
theorem qK{a b c q:List Int}{x y:Int}{n:Nat}(h:∀k,cf c k=x*cf a k+y*cf b k):ao q c n=x*ao q a n+y*ao q b n:=by rw[dF q c,cG h,dF q a,dF q b]
theorem gN(a:List Int)(n:Nat):cf (0::a) n=up (cf a) n:=by rw[mw];split<;>omega
theorem qJ(a b:List Int)(n:Nat):ao (0::a) b n=up (ao a b) n:=by rw[cy];omega
theorem fZ:∀(a b c:List Int) (n:Nat),ao (ad a b) c n=ao a (ad b c) n
 | [],b,c,n=>by rw[cL,kM λk=>by rw[aB,cL]]
 |x::a,b,c,n=>by
  rw[cy,aB]
  have e:∀k,cf (ad (x::a) b) k=x*cf b k+1*cf (0::ad a b) k:=λk=>by
   rw[aB,cy,gN,FJ]
   congr 1
   unfold up;split
   ·rfl
   ·rw[aB]
  rw[cG e,qJ,FJ]
  congr 1
  unfold up;split
  ·rfl
  ·exact fZ a b c _
def Dv(d p:List Int):Prop:=∃(c:Int) (q:List Int),c≠0/\∀n,c*cf p n=ao q d n
theorem Dv.refl(d:List Int):Dv d d:=⟨1,[1],by decide,λn=>by rw[c8]⟩
theorem Dv.nil(d:List Int):Dv d []:=⟨1,[],by decide,λn=>by rw[bT,cL];rfl⟩
theorem Dv.trans{d e p:List Int}(h1:Dv d e)(h2:Dv e p):Dv d p:=by obtain⟨c1,q1,hc1,e1⟩:=h1;obtain⟨c2,q2,hc2,e2⟩:=h2;refine⟨c1*c2,ad q2 q1,FB hc1 hc2,λn=>?_⟩;rw[fZ,Gn,e2,<- gC (b':=ad q1 d) (λk=>by rw[aB,e1])]
theorem Dv.up{d a b r q:List Int}{f:Int}(hf:f≠0)(h:∀n,f*cf a n=ao q b n+cf r n)(hb:Dv d b)(hr:Dv d r):Dv d a:=by obtain⟨c1,q1,hc1,e1⟩:=hb;obtain⟨c2,q2,hc2,e2⟩:=hr;refine⟨c1*c2*f,cV c1 (scL c2 (ad q q1)) q2,FB (FB hc1 hc2) hf,λn=>?_⟩;rw[cG (a:=ad q q1) (b:=q2) (x:=c2) (y:=c1) (λk=>by rw[fm,bh]),fZ,<- e2,gC (b:=b) (b':=ad q1 d) (c:=c1) (λk=>by rw[aB,e1])];have:=h n;grind
theorem Dv.down{d a b r q:List Int}{f:Int}(h:∀n,f*cf a n=ao q b n+cf r n)(ha:Dv d a)(hb:Dv d b):Dv d r:=by obtain⟨c1,q1,hc1,e1⟩:=ha;obtain⟨c2,q2,hc2,e2⟩:=hb;refine⟨c1*c2,cV (-c1) (scL (f*c2) q1) (ad q q2),FB hc1 hc2,λn=>?_⟩;rw[cG (a:=q1) (b:=ad q q2) (x:=f*c2) (y := -c1) (λk=>by rw[fm,bh]),fZ,<- e1,gC (b:=b) (b':=ad q2 d) (c:=c2) (λk=>by rw[aB,e2])];have:=h n;grind
theorem Dv.prop_right{d p p':List Int}{x y:Int}(hx:x≠0)(h:∀n,x*cf p' n=y*cf p n)(hd:Dv d p):Dv d p':=by obtain⟨c,q,hc,e⟩:=hd;refine⟨c*x,scL y q,FB hc hx,λn=>?_⟩;rw[cG (a:=q) (b:=[]) (x:=y) (y:=0) (λk=>by rw[bh];simp),<- e];have:=h n;grind
theorem Dv.prop_left{d d' p:List Int}{x y:Int}(hx:x≠0)(hy:y≠0)(h:∀n,x*cf d' n=y*cf d n)(hd:Dv d p):Dv d' p :=
 Dv.trans (Dv.prop_right hy (λn=>(h n).symm) (Dv.refl d')) hd
theorem eQ{l:List Int}(h:Tr l):∃g:Int,g≠0/\∀n,cf l n=g*cf (aI l) n:=by
 by_cases hl:l=[]
 ·subst hl;exact⟨1,by decide,λn=>by rw[bT];show 0=1*cf [] n;rw[bT];rfl⟩
 have hg:(ai l:Int)≠0:=by obtain⟨r,x,rfl⟩:=(cD l).resolve_left hl;have hx:x≠0:=tr_snoc.mp h;have h1:0<ai (r++[x]):=Nat.pos_of_dvd_of_pos (iX (by simp:x∈r++[x])) (Gw.mpr hx);omega
 have e1:∀n,cf l n=(ai l:Int)*cf (ah l) n:=λn=>by
  unfold ah;by_cases hn:n<l.length
  ·rw[bO hn,bO (by rw[Fk];exact hn),List.getElem_map];exact(Hx (fb (Gb hn))).symm
  ·rw[aN (by omega),aN (by rw[Fk];omega),Fy]
 unfold aI ce;split
 ·refine⟨-(ai l:Int),by omega,λn=>?_⟩
  have e2:cf ((ah l).map λx => -x) n = -cf (ah l) n:=by
   by_cases hn:n<(ah l).length
   ·rw[bO hn,bO (by rw[Fk];exact hn),List.getElem_map]
   ·rw[aN (l:=ah l) (by omega),aN (l:=(ah l).map λx => -x) (by rw[Fk];omega)];rfl
  rw[e1,e2];grind
 ·exact⟨_,hg,e1⟩
theorem Dv.plain{d p:List Int}(hp:Tr p):Dv d (aI p)↔Dv d p:=by obtain⟨g,hg,e⟩:=eQ hp;exact⟨λh=>Dv.prop_right (x:=1) (y:=g) (by decide) (λn=>by rw[e];omega) h,λh=>Dv.prop_right (x:=g) (y:=1) hg (λn=>by rw[<- e];omega) h⟩
theorem plain_len(l:List Int):(aI l).length=l.length:=by unfold aI ce ah;split<;>simp
theorem fz{l:List Int}(h:Tr l):Tr (aI l):=uG (cZ h)
noncomputable def cC:Nat->List Int->List Int->List Int
 |0,one,_=>one
 |n+1,one,other=>if other=[]then one else cC n other (aI (aj one other))
theorem BM(n:Nat)(one:List Int):cC n one []=one:=by cases n<;>rfl
theorem BL{n:Nat}{one other:List Int}(h:other≠[]):cC (n+1) one other=cC n other (aI (aj one other)):=by show(if other=[]then one else cC n other (aI (aj one other)))=_;rw[if_neg h]
theorem sZ:∀(n:Nat) (one other:List Int),other.length<=n->Tr one->Tr other->Tr (cC n one other)/\Dv (cC n one other) one/\Dv (cC n one other) other/\(∀d,Dv d one->Dv d other->Dv d (cC n one other))/\(one≠[]\/other≠[]->cC n one other≠[])/\(cC n one other=one\/cC n one other=other\/∃l,Tr l/\cC n one other=aI l)
 |n,one,[],_,t1,_=>by rw[BM];exact⟨t1,Dv.refl _,Dv.nil _,λd h _=>h,λh=>h.resolve_right λz=>z rfl,.inl rfl⟩
 |0,one,x::o,h,_,_=>absurd h (Nat.not_succ_le_zero _)
 |n+1,one,x::o,h,t1,t2=>by
  have hne:x::o≠[]:=λz=>nomatch z
  rw[BL hne];generalize x::o=other at h t2 hne
  have tr:=dZ one other;have hl:=dg (a:=one) hne;obtain⟨c1,c2,c3,c4,c5,c6⟩:=sZ n other (aI (aj one other)) (by rw[plain_len];omega) t2 (fz tr);have eq:=λk=>dN (a:=one) hne k
  refine⟨c1,Dv.up (gM (a:=one) hne t2) eq c2 ((Dv.plain tr).mp c3),c2,λd h1 h2=>c4 d h2 ((Dv.plain tr).mpr (Dv.down eq h1 h2)),λ_=>c5 (.inl hne),?_⟩;rcases c6 with e |e |e
  ·exact .inr (.inl e)
  ·exact .inr (.inr ⟨_,tr,e⟩)
  ·exact .inr (.inr e)
def Cop(a:List Int)(m:Nat):Prop:=∀k:Nat,k∣m->(∀n,(k:Int)∣cf a n)->k=1
theorem lL:∀(N:Nat) (a b:List Int) (m:Nat),a.length+b.length<=N->Cop a m->Cop b m->(∀n,(m:Int)∣ao a b n)->m=1
 |_,[],b,m,_,h1,_,_=>h1 m (Gx _) λn=>by rw[bT];exact Int.dvd_zero _
 |_,_::_,[],m,_,_,h2,_=>h2 m (Gx _) λn=>by rw[bT];exact Int.dvd_zero _
 |0,_::_,_::_,_,h,_,_,_=>absurd h (by simp)
 |N+1,x::a,y::b,m,h,h1,h2,h3=>by
  have d1:Nat.gcd m x.natAbs=1:=by
   refine lL N a (y::b) _ (by simp at h ⊢;omega) (λk hk hn=>h1 k (GY hk (GN _ _)) λn=>?_) (λk hk=>h2 k (GY hk (GN _ _))) λn=>?_
   ·cases n with
    |zero=>exact GP.mpr (GY hk (GX _ _))
    |succ n=>exact hn n
   ·have e:=cy x a (y::b) (n+1);have g1:((Nat.gcd m x.natAbs:Nat):Int)∣ao (x::a) (y::b) (n+1):=Int.dvd_trans (Int.ofNat_dvd.mpr (GN _ _)) (h3 _);have g2:((Nat.gcd m x.natAbs:Nat):Int)∣x*cf (y::b) (n+1):=Int.dvd_mul_of_dvd_left (GP.mpr (GX _ _))
    have e2:ao a (y::b) n=ao (x::a) (y::b) (n+1)-x*cf (y::b) (n+1):=by rw[e];show _=_+ao a (y::b) n-_;omega
    rw[e2];exact Int.dvd_sub g1 g2
  have d2:Nat.gcd m y.natAbs=1:=by
   refine lL N (x::a) b _ (by simp at h ⊢;omega) (λk hk=>h1 k (GY hk (GN _ _))) (λk hk hn=>h2 k (GY hk (GN _ _)) λn=>?_) λn=>?_
   ·cases n with
    |zero=>exact GP.mpr (GY hk (GX _ _))
    |succ n=>exact hn n
   ·have e:=kQ y b (x::a) (n+1);have g1:((Nat.gcd m y.natAbs:Nat):Int)∣ao (x::a) (y::b) (n+1):=Int.dvd_trans (Int.ofNat_dvd.mpr (GN _ _)) (h3 _);have g2:((Nat.gcd m y.natAbs:Nat):Int)∣y*cf (x::a) (n+1):=Int.dvd_mul_of_dvd_left (GP.mpr (GX _ _))
    have e2:ao (x::a) b n=ao (x::a) (y::b) (n+1)-y*cf (x::a) (n+1):=by rw[e];show _=_+ao (x::a) b n-_;omega
    rw[e2];exact Int.dvd_sub g1 g2
  have h0:=h3 0;rw[cy]at h0
  have h0':m∣x.natAbs*y.natAbs:=by
   rw[<- FP];refine GP.mp ?_
   have e:x*cf (y::b) 0+up (ao a (y::b)) 0=x*y:=by show x*y+0=x*y;omega
   rwa [e]at h0
  have h4:m∣y.natAbs:=Nat.Coprime.dvd_of_dvd_mul_left d1 h0';rw[Nat.gcd_eq_left h4]at d2;exact d2
theorem yR{l:List Int}{v:Int}(h:v∈l):∃n,n<l.length/\cf l n=v:=by obtain⟨n,hn,e⟩:=Gu h;exact⟨n,hn,by rw[bO hn,e]⟩
theorem sV{a:List Int}{m:Nat}(h:ai a=1):Cop a m:=λk _ hn=>by
 have:k∣ai a:=dvd_gcdL.mpr λv hv=>by obtain⟨n,_,rfl⟩:=yR hv;exact GP.mp (hn n)
 rw[h]at this;exact Nat.dvd_one.mp this
theorem wH{a b:List Int}(ha:ai a=1)(hb:ai b=1):ai (ad a b)=1:=by
 refine lL _ a b _ (Fl _) (sV ha) (sV hb) λn=>?_
 rw[<- aB];by_cases hn:n<(ad a b).length
 ·rw[bO hn];exact fb (Gb hn)
 ·rw[aN (by omega)];exact Int.dvd_zero _
structure Pln(l:List Int):Prop where
 tr:Tr l
 ne:l≠[]
 prim:ai l=1
 pos:0<b7 l
theorem zJ{l:List Int}(h:Tr l)(hne:l≠[]):b7 l≠0:=by have:=Fm.mpr hne;exact h (l.length-1) (by omega)
theorem Pln.plain{l:List Int}(h:Pln l):aI l=l:=by unfold aI;rw[vk (.inr h.prim)];unfold ce;rw[if_neg (by have:=h.pos;omega)]
theorem gv{l:List Int}:scL (ai l:Int) (ah l)=l:=by unfold scL ah;rw[Go];refine(GF (g:=id) λx hx=>?_).trans (List.map_id _);exact Hx (fb hx)
theorem eO{l:List Int}(h:Tr l)(hne:l≠[]):Pln (aI l):=by
 have hg:0<ai l:=by obtain⟨r,x,rfl⟩:=(cD l).resolve_left hne;have hx:x≠0:=tr_snoc.mp h;exact Nat.pos_of_dvd_of_pos (iX (by simp:x∈r++[x])) (Gw.mpr hx)
 have h1:ai (ah l)=1:=by have e:=iW (ai l:Int) (ah l);rw[gv,FQ]at e;exact Nat.eq_of_mul_eq_mul_left hg (by rw[<- e,Nat.mul_one])
 have hs:ah l≠[]:=λz=>hne (by have:=congrArg List.length z;unfold ah at this;simpa using this)
 have hl:=zJ (cZ h) hs
 have hp:ai (aI l)=1:=by
  rcases wF (.inr h1:gf (ah l))with z |z
  ·exact absurd (congrArg List.length z) (by
    have:=plain_len l;unfold aI at this
    rw[this]
    exactλq=>hne (Gc.mp q))
  ·exact z
 refine⟨fz h,λz=>hne (Gc.mp (by rw[<- plain_len,z];rfl)),hp,?_⟩;unfold aI ce;split
 ·rw[rm];omega
 ·omega
theorem bN{a b:List Int}(ha:a≠[])(hb:b≠[]):(ad a b).length=a.length+b.length-1:=by unfold ad;rw[if_neg (λz=>z.elim ha hb),Fk,FW]
theorem zI{a b:List Int}(ha:a≠[])(hb:b≠[]):b7 (ad a b)=b7 a*b7 b:=by
 have h1:=Fm.mpr ha;have h2:=Fm.mpr hb;unfold b7;rw[bN ha hb,aB];have e:a.length+b.length-1-1=(a.length-1)+(b.length-1):=by omega
 rw[e,kN (by omega) (by omega)]
theorem Pln.mul{a b:List Int}(ha:Pln a)(hb:Pln b):Pln (ad a b):=by
 refine⟨eo ha.tr hb.tr,λz=>?_,wH ha.prim hb.prim,by rw[zI ha.ne hb.ne];exact Fz ha.pos hb.pos⟩;have h1:=Fm.mpr ha.ne;have h2:=Fm.mpr hb.ne;have:=bN ha.ne hb.ne;rw[z]at this;simp at this
 omega
theorem wU{p q d:List Int}{c:Int}(hc:c≠0)(hp:Tr p)(hpn:p≠[])(hq:Tr q)(hd:Pln d)(h:∀n,c*cf p n=ao q d n):ad (aI q) d=aI p:=by
 have hqn:q≠[]:=λz=>by have h1:=Fm.mpr hpn;have h2:=h (p.length-1);rw[z,cL]at h2;exact FB hc (hp (p.length-1) (by omega)) h2
 obtain⟨g,hg,e⟩:=eQ hq;have hm:=(eO hq hqn).mul hd;rw[<- hm.plain];refine wS hg hc hm.tr hp λk=>?_
 rw[h,aB,cG (a:=aI q) (b:=[]) (x:=g) (y:=0) (c:=q) (λk=>by rw[e];simp),cL];simp
theorem Dv.trim{d p:List Int}(h:Dv d p):∃(c:Int) (q:List Int),c≠0/\Tr q/\∀n,c*cf p n=ao q d n:=by obtain⟨c,q,hc,e⟩:=h;exact⟨c,RM.trim q,hc,bZ q,λn=>by rw[e];exact(iE (λk=>di q k) λ_=>rfl).symm⟩
theorem Dv.fellow{d p:List Int}(hd:Pln d)(hp:Tr p)(hpn:p≠[])(h:Dv d p):∃q,Pln q/\ad q d=aI p:=by
 obtain⟨c,q,hc,hq,e⟩:=h.trim
 have hqn:q≠[]:=λz=>by have h1:=Fm.mpr hpn;have h2:=e (p.length-1);rw[z,cL]at h2;exact FB hc (hp (p.length-1) (by omega)) h2
 exact⟨aI q,eO hq hqn,wU hc hp hpn hq hd e⟩
theorem Pln.const{l:List Int}(h:Pln l)(h1:l.length=1):l=[1]:=by
 obtain⟨x,rfl⟩:∃x,l=[x]:=List.length_eq_one_iff.mp h1;have h2:=h.prim;rw[AN]at h2;have h3:0<x:=h.pos;have:x=1:=by omega
 rw[this]
theorem one_mul(l:List Int)(h:Tr l):ad [1] l=l:=by
 refine dM (eo (tr_snoc (r:=[]).mpr (by decide)) h) h λk=>?_
 rw[aB,c8];omega
theorem qj{a b:List Int}(ha:Pln a)(hb:Pln b)(h1:Dv a b)(h2:Dv b a):a=b:=by obtain⟨q,hq,e⟩:=h1.fellow ha hb.tr hb.ne;obtain⟨r,hr,e'⟩:=h2.fellow hb ha.tr ha.ne;rw[hb.plain]at e;rw[ha.plain]at e';have l1:=bN hq.ne ha.ne;have l2:=bN hr.ne hb.ne;rw[e]at l1;rw[e']at l2;have p1:=Fm.mpr hq.ne;have p2:=Fm.mpr hr.ne;have p3:=Fm.mpr ha.ne;have hq1:=hq.const (by omega);rw[hq1,one_mul a ha.tr]at e;exact e
theorem Dv.short{d r:List Int}(hd:d≠[])(hdt:Tr d)(hr:Tr r)(hl:r.length<d.length)(h:Dv d r):r=[]:=by
 obtain⟨c,q,hc,e⟩:=h;have z:=kO hd hdt (d:=q) λn hn=>by rw[<- e,aN (by omega),Fy]
 refine kL hr λk=>?_
 have h1:=e k;rw[kM z]at h1;exact(FH.mp h1).resolve_left hc
theorem Dv.rest{d p:List Int}(hd:d≠[])(hdt:Tr d)(h:Dv d p):aj p d=[] :=
 Dv.short hd hdt (dZ _ _) (dg hd) (Dv.down (λn=>dN (a:=p) hd n) h (Dv.refl d))
theorem Dv.mul_right(a b:List Int):Dv b (ad a b):=⟨1,a,by decide,λn=>by rw[aB];omega⟩
theorem Dv.mul_left(a b:List Int):Dv a (ad a b):=⟨1,b,by decide,λn=>by rw[aB,dF];omega⟩
theorem eE{x p:Int}(hp:0<p):sg (p*x)=sg x:=by rw[FX];exact jH hp
theorem lI{t n x y:Int}:∀(a b c:List Int),a.length=c.length->b.length=c.length->(∀k,cf c k=x*cf a k+y*cf b k)->hv t n c=x*hv t n a+y*hv t n b
 | [],[],[],_,_,_=>by simp[rQ]
 |u::a,v::b,w::c,ha,hb,h=>by
  have h0:w=x*u+y*v:=h 0;have ih:=lI (t:=t) (n:=n) (x:=x) (y:=y) a b c (by simpa using ha) (by simpa using hb) (λk=>h (k+1));have la:a.length=c.length:=by simpa using ha
  have lb:b.length=c.length:=by simpa using hb
  rw[cW,cW,cW,ih,h0,la,lb];generalize n^(c.length+1)=p;grind
 | [],_::_,[],_,h,_=>by simp at h
 |_::_,_,[],h,_,_=>by simp at h
 | [],_,_::_,h,_,_=>by simp at h
 |_::_,[],_::_,_,h,_=>by simp at h
theorem rM(t n g:Int)(l:List Int):hv t n (scL g l)=g*hv t n l:=by have:=lI (t:=t) (n:=n) (x:=g) (y:=0) l l (scL g l) (by rw[b6]) (by rw[b6]) (λk=>by rw[bh];simp);rw[this];simp
theorem rL(t n:Int):∀(k:Nat) (l:List Int),hv t n (l++List.replicate k 0)=n^k*hv t n l
 |k,[]=>by
  rw[List.nil_append,rQ,Fy]
  induction k with
  |zero=>rfl
  |succ k ih=>rw[GD,cW,ih];simp
 |k,v::l=>by
  rw[List.cons_append,cW,rL t n k l,cW];have:(l++List.replicate k (0:Int)).length+1=l.length+1+k:=by simp;omega
  rw[this,Int.pow_add];generalize n^(l.length+1)=p;generalize n^k=q;grind
theorem BQ(l:List Int)(k j:Nat):cf (l++List.replicate k 0) j=cf l j:=by
 by_cases h:j<l.length
 ·rw[tF h]
 ·rw[mx (by omega),gO,aN (by omega)]
theorem iT(t n:Int){b:List Int}(hb:b≠[]):∀{a:List Int},a≠[]->n*hv t n (ad a b)=hv t n a*hv t n b
 | [x],_=>by
  have e:ad [x] b=scL x b:=by
   apply cY
   ·rw[bN (by simp) hb,b6];simp
   ·intro k _;rw[aB,c8,bh]
  rw[e,rM,rP];grind
 |x::y::a,_=>by
  have ih:=iT t n hb (a:=y::a) (by simp);have lm:(ad (x::y::a) b).length=(y::a).length+b.length:=by rw[bN (by simp) hb,FI];omega
  have lm2:(ad (y::a) b).length+1=(y::a).length+b.length:=by rw[bN (by simp) hb];have:=Fm.mpr hb;rw[FI];omega
  have e:=lI (t:=t) (n:=n) (x:=x) (y:=1) (b++List.replicate (y::a).length 0) (0::ad (y::a) b) (ad (x::y::a) b) (by rw[lm,Fp,Gr];omega) (by rw[lm,FI,lm2])
   (λk=>by rw[aB,cy,BQ,gN];rw[FJ];congr 1;unfold up;split<;>first |rfl |rw[aB])
  rw[e,rL,cW (v:=0),cW (v:=x)];have:n*(x*(n^(y::a).length*hv t n b)+1*(0*n^((ad (y::a) b).length+1)+t*hv t n (ad (y::a) b)))=x*(n^(y::a).length*n)*hv t n b+t*(n*hv t n (ad (y::a) b)):=by grind
  rw[this,ih,<- Gg];grind
noncomputable def pr(t n:Int):List (List Int)->Int
 | []=>1
 |s::ss=>hv t n s*pr t n ss
noncomputable def sl:List (List Int)->Nat
 | []=>0
 |s::ss=>s.length+sl ss
theorem qQ{a b:List Int}(ha:a≠[])(hb:b≠[]):ad a b≠[]:=λz=>by have:=bN ha hb;rw[z]at this;have h1:=Fm.mpr ha;have h2:=Fm.mpr hb;rw[List.length_nil]at this;omega
noncomputable def bH(acc:List Int)(ss:List (List Int)):List Int:=ss.foldl ad acc
theorem qd(acc:List Int)(ss:List (List Int))(s:List Int):bH acc (ss++[s])=ad (bH acc ss) s:=by unfold bH;rw[List.foldl_append];rfl
theorem qe:∀(ss:List (List Int)) (acc:List Int),acc≠[]->Tr acc->(∀s∈ss,s≠[]/\Tr s)->bH acc ss≠[]/\Tr (bH acc ss)/\(bH acc ss).length+ss.length=acc.length+sl ss
 | [],acc,h1,h2,_=>⟨h1,h2,by simp[bH,sl]⟩
 |s::ss,acc,h1,h2,h3=>by have hs:=h3 s (Fx ..);obtain⟨a,b,c⟩:=qe ss (ad acc s) (qQ h1 hs.1) (eo h2 hs.2) (λx hx=>h3 x (Fs _ hx));refine⟨a,b,?_⟩;have l:=bN h1 hs.1;have p1:=Fm.mpr h1;have p2:=Fm.mpr hs.1;show(bH (ad acc s) ss).length+(ss.length+1)=acc.length+(s.length+sl ss);omega
theorem rO(t n:Int):∀(ss:List (List Int)) (acc:List Int),acc≠[]->(∀s∈ss,s≠[])->n^ss.length*hv t n (bH acc ss)=hv t n acc*pr t n ss
 | [],acc,_,_=>by show n^0*hv t n acc=hv t n acc*1;simp
 |s::ss,acc,h1,h3=>by have hs:=h3 s (Fx ..);have ih:=rO t n ss (ad acc s) (qQ h1 hs) (λx hx=>h3 x (Fs _ hx));have e:=iT t n hs h1;show n^(ss.length+1)*hv t n (bH (ad acc s) ss)=hv t n acc*(hv t n s*pr t n ss);rw[Gg,FX _ n,Gn,ih,<- Gn,e,Gn]
theorem g6{r:List Int}(h:Tr r):aT [] r=scL (-1) r:=by
 refine dM (bZ _) (gk (by decide) h) λk=>?_
 unfold aT;rw[di,fm,bh,bT];omega
theorem sN{a b:List Int}(hb:b≠[])(hbt:Tr b):0<aF a b:=by
 have h:=gM (a:=a) hb hbt
 have h2:0<=aF a b:=by
  unfold aF;generalize aW a b=n
  induction n with
  |zero=>rw[Int.pow_zero];decide
  |succ n ih=>rw[Gg];exact Gk ih (GZ _)
 omega
structure Chn(r:List (List Int)):Prop where
 step:∀k,k+2<r.length->r.getD (k+2) []=nxt (r.getD k []) (r.getD (k+1) [])
 last:∀k,k+2=r.length->nxt (r.getD k []) (r.getD (k+1) [])=[]
 ne:∀xs∈r,xs≠[]
theorem wb{n:Nat}{one:List Int}(h:one≠[])(hn:0<n):aO n one []=[one]:=by obtain⟨m,rfl⟩:∃m,n=m+1:=⟨n-1,by omega⟩;show(if one=[]then[]else one::aO m [] (nxt one []))=_;rw[if_neg h,fI]
noncomputable def Ends:Nat->List Int->List Int->Prop
 |0,one,_=>one=[]
 |n+1,one,other=>one=[]\/Ends n other (nxt one other)
theorem pD:∀(n:Nat) (one other:List Int),Ends n one other->Chn (aO n one other)/\(one≠[]->(aO n one other).getD 0 []=one/\0<(aO n one other).length/\(other≠[]->(aO n one other).getD 1 []=other/\1<(aO n one other).length)/\(other=[]->(aO n one other).length=1))
 |0,one,other,h=>by have h':one=[]:=h;subst h';exact⟨⟨λk hk=>by simp[aO]at hk,λk hk=>by simp[aO]at hk,λxs hx=>by simp[aO]at hx⟩,λz=>absurd rfl z⟩
 |n+1,one,other,h=>by
  by_cases h0:one=[]
  ·subst h0;rw[fI];exact⟨⟨λk hk=>by simp at hk,λk hk=>by simp at hk,λxs hx=>by simp at hx⟩,λz=>absurd rfl z⟩
  ·have hE:=(show one=[]\/Ends n other (nxt one other)from h).resolve_left h0;obtain⟨⟨c1,c2,c3⟩,c4⟩:=pD n other (nxt one other) hE
   have e:aO (n+1) one other=one::aO n other (nxt one other):=by show(if one=[]then[]else one::aO n other (nxt one other))=_;rw[if_neg h0]
   rw[e];by_cases ho:other=[]
   ·subst ho;rw[fI];exact⟨⟨λk hk=>by simp at hk,λk hk=>by simp at hk,λxs hx=>by rw[Fu.mp hx];exact h0⟩,λ_=>⟨rfl,by simp,λz=>absurd rfl z,λ_=>rfl⟩⟩
   ·obtain⟨d1,d2,d3,d4⟩:=c4 ho;generalize aO n other (nxt one other)=r at c1 c2 c3 d1 d2 d3 d4
    refine⟨⟨λk hk=>?_,λk hk=>?_,λxs hx=>?_⟩,λ_=>⟨rfl,by simp,λ_=>⟨d1,by simpa using d2⟩,λz=>absurd z ho⟩⟩
    ·rw[FI]at hk;cases k with
     |zero =>
      have hx:nxt one other≠[]:=λz=>by have:=d4 z;omega
      show r.getD 1 []=nxt one (r.getD 0 []);rw[d1,(d3 hx).1]
     |succ j =>show r.getD (j+2) []=nxt (r.getD j []) (r.getD (j+1) []);exact c1 j (by omega)
    ·rw[FI]at hk;cases k with
     |zero =>
      show nxt one (r.getD 0 [])=[];rw[d1];refine Classical.byContradiction λhx=>?_
      have:=(d3 hx).2;omega
     |succ j =>show nxt (r.getD j []) (r.getD (j+1) [])=[];exact c2 j (by omega)
    ·rcases Ft.mp hx with rfl |hx
     ·exact h0
     ·exact c3 xs hx
noncomputable def gr(B:Nat):Nat->Nat
 |0=>B
 |1=>2*B
 |k+2=>2*gr B (k+1)+gr B k
theorem AH(B:Nat):∀k,gr B k<=gr B (k+1)
 |0=>by show B<=2*B;omega
 |k+1=>by show gr B (k+1)<=2*gr B (k+1)+gr B k;omega
theorem f7(B:Nat){j k:Nat}(h:j<=k):gr B j<=gr B k:=by
 induction h with
 |refl=>exact Fl _
 |step _ ih=>exact FA ih (AH B _)
theorem rS(B j:Nat):∀d,gr B j+(d+2)*gr B (j+1)<=gr B (j+2+d)
 |0=>by show gr B j+2*gr B (j+1)<=2*gr B (j+1)+gr B j;omega
 |d+1=>by
  have ih:=rS B j d
  have e:gr B (j+2+(d+1))=2*gr B (j+2+d)+gr B (j+1+d):=by
   have:j+2+(d+1)=(j+1+d)+2:=by omega
   rw[this];show 2*gr B (j+1+d+1)+gr B (j+1+d)=_;have e2:j+1+d+1=j+2+d:=by omega
   rw[e2]
  have hm:gr B (j+1)<=gr B (j+1+d):=f7 B (by omega);rw[e,Nat.add_mul]at *;have e3:(d+1)*gr B (j+1)=d*gr B (j+1)+gr B (j+1):=by rw[Nat.add_mul,Nat.one_mul]
  omega
theorem dU(a:List Int):ad [] a=[]:=by unfold ad;rw[if_pos (.inl rfl)]
theorem dS(a:List Int):ad a []=[]:=by unfold ad;rw[if_pos (.inr rfl)]
theorem gD(a b:List Int):ad a b=ad b a:=by
 by_cases ha:a=[]
 ·rw[ha,dU,dS]
 by_cases hb:b=[]
 ·rw[hb,dU,dS]
 refine cY ?_ λk _=>?_
 ·rw[bN ha hb,bN hb ha];omega
 ·rw[aB,aB,dF]
theorem iF{a b:List Int}(ha:a≠[])(hb:b≠[]):ad a b≠[]:=λz=>by have:=bN ha hb;rw[z,List.length_nil]at this;have:=Fm.mpr ha;have:=Fm.mpr hb;omega
theorem gE(a b c:List Int):ad (ad a b) c=ad a (ad b c):=by
 by_cases ha:a=[]
 ·rw[ha,dU,dU,dU]
 by_cases hb:b=[]
 ·rw[hb,dU,dS,dU]
 by_cases hc:c=[]
 ·rw[hc,dS,dS,dS]
 have h1:=iF ha hb;have h2:=iF hb hc;refine cY ?_ λk _=>?_
 ·have:=Fm.mpr hb;rw[bN h1 hc,bN ha h2,bN ha hb,bN hb hc];obtain⟨y,ey⟩:=Nat.exists_eq_succ_of_ne_zero (Nat.ne_of_gt this);rw[ey,Nat.succ_add,Nat.add_succ,Nat.succ_sub_one,Nat.succ_sub_one,Nat.add_assoc]
 ·rw[aB,aB,fZ]
instance:Std.Commutative ad:=⟨gD⟩
instance:Std.Associative ad:=⟨gE⟩
theorem gF(a:List Int):ad [1] a=a:=by
 by_cases ha:a=[]
 ·rw[ha,dS]
 refine cY ?_ λk _=>?_
 ·rw[bN (by simp) ha];simp
 ·rw[aB,c8];omega
theorem iG(a:List Int):ad a [1]=a:=by rw[gD,gF]
theorem pln_one:Pln [1]:=⟨tr_snoc (r:=[]).mpr (by decide),by simp,by decide,by decide⟩
theorem qk{a:List Int}(h:Pln a):1<=a.length:=Fm.mpr h.ne
def Sim(a b:List Int):Prop:=∃x y:Int,x≠0/\y≠0/\∀n,x*cf a n=y*cf b n
theorem Sim.refl(a:List Int):Sim a a:=⟨1,1,by decide,by decide,λ_=>rfl⟩
theorem Sim.dv{a b d:List Int}(h:Sim a b)(hd:Dv d b):Dv d a:=by obtain⟨x,y,hx,hy,e⟩:=h;exact Dv.prop_right hx e hd
theorem Sim.symm{a b:List Int}(h:Sim a b):Sim b a:=by obtain⟨x,y,hx,hy,e⟩:=h;exact⟨y,x,hy,hx,λn=>(e n).symm⟩
theorem Dv.cancel{d a b:List Int}(hd:d≠[])(ht:Tr d)(h:Dv (ad d a) (ad d b)):Dv a b:=by
 obtain⟨c,q,hc,e⟩:=h
 have key:∀k,cf (cV (-1) (scL c b) (ad q a)) k=0:=by
  refine kO hd ht λn _=>?_
  rw[cG (a:=b) (b:=ad q a) (x:=c) (y := -1) (λk=>by rw[fm,bh])]
  have e1:ao (ad q a) d n=ao q (ad d a) n:=by
   rw[<- aB,<- aB]
   congr 1
   rw[gE,gD a d]
  have e2:=e n;rw[aB,dF]at e2;rw[e1,<- e2];omega
 refine⟨c,q,hc,λn=>?_⟩;have:=key n;rw[fm,bh,aB]at this;omega
noncomputable def prd(ss:List (List Int)):List Int:=ss.foldr ad [1]
theorem si:∀(ss:List (List Int)) (acc:List Int),ss.foldl ad acc=ad acc (prd ss)
 | [],acc=>(iG acc).symm
 |s::ss,acc=>by show ss.foldl ad (ad acc s)=ad acc (ad s (prd ss));rw[si ss,gE]
theorem gz:∀(ss:List (List Int)),(∀s∈ss,Pln s)->Pln (prd ss)
 | [],_=>pln_one
 |s::ss,h=>(h s (Fx ..)).mul (gz ss λx hx=>h x (Fs _ hx))
structure Pri(s:List Int):Prop where
 pln:Pln s
 two:2<=s.length
 or:∀a b,Dv s (ad a b)->Dv s a\/Dv s b
theorem Pri.not_one{s:List Int}(h:Pri s):¬Dv s [1]:=λz=>by have:=Dv.short h.pln.ne h.pln.tr pln_one.tr (by have:=h.two;show 1<s.length;omega) z;exact absurd this (by simp)
theorem Pri.prd{s:List Int}(h:Pri s):∀ss:List (List Int),Dv s (prd ss)->∃t∈ss,Dv s t
 | [],hd=>absurd hd h.not_one
 |t::ss,hd=>by
  rcases h.or t (RM.prd ss) hd with z |z
  ·exact⟨t,Fx ..,z⟩
  ·obtain⟨t',ht,z'⟩:=Pri.prd h ss z;exact⟨t',Fs _ ht,z'⟩
theorem Pri.same{s t:List Int}(hs:Pri s)(ht:Pri t)(h:Dv s t):s=t:=by
 obtain⟨q,hq,e⟩:=h.fellow hs.pln ht.pln.tr ht.pln.ne;rw[ht.pln.plain]at e;have l:=bN hq.ne hs.pln.ne;rw[e]at l;have:=hs.two;have:=qk hq;rcases ht.or q s (e ▸ Dv.refl _)with z |z
 ·exact absurd (Dv.short ht.pln.ne ht.pln.tr hq.tr (by omega) z) hq.ne
 ·exact qj hs.pln ht.pln h z
theorem sJ:∀(ps:List (List Int)) {E:List Int},(∀p∈ps,Pri p)->Pln E->Dv E (prd ps)->E=[1]\/∃p∈ps,Dv p E
 | [],E,_,hE,h=>by
  refine .inl (hE.const ?_);have:=qk hE;refine Classical.byContradiction λz=>?_
  have:=Dv.short hE.ne hE.tr pln_one.tr (by show 1<E.length;omega) h;exact absurd this (by simp)
 |p::ps,E,hp,hE,h=>by
  obtain⟨c,q,hc,e⟩:=h;have P:=hp p (Fx ..)
  have d1:Dv p (ad q E):=Dv.prop_right (x:=1) (y:=c) (by decide) (λn=>by
   show 1*cf (ad q E) n=c*cf (RM.prd (p::ps)) n
   rw[e,aB];omega) (Dv.mul_left p (prd ps))
  rcases P.or q E d1 with z |z
  ·obtain⟨c',q',hc',e'⟩:=z
   have d2:Dv (ad p E) (ad p (prd ps)):=by
    refine⟨c*c',q',FB hc hc',λn=>?_⟩;have e1:=e n;rw[show ad p (prd ps)=RM.prd (p::ps)from rfl]
    have e2:ao (ad q' p) E n=c'*ao q E n:=by have:=cG (a:=q) (b:=[]) (x:=c') (y:=0) (c:=ad q' p) (q:=E) (n:=n) (λk=>by rw[aB,<- e'];simp);rw[this];simp
    rw[<- fZ,e2,<- e1,FX c c',Gn]
   rcases sJ ps (λx hx=>hp x (Fs _ hx)) hE (Dv.cancel P.pln.ne P.pln.tr d2)with w |⟨t,ht,w⟩
   ·exact .inl w
   ·exact .inr ⟨t,Fs _ ht,w⟩
  ·exact .inr ⟨p,Fx ..,z⟩
theorem BJ{A B C D L M:List Int}{ps:List (List Int)}(hC:Pln C)(cA:Dv C A)(cB:Dv C B)(call:∀d,Dv d A->Dv d B->Dv d C)(hD:Pln D)(sA:Sim A (ad D L))(sB:Sim B (ad D M))(hps:∀p∈ps,Pri p)(hL:L=prd ps)(hM:∀p∈ps,¬Dv p M):C=D:=by
 have dC:Dv D C:=call D (sA.dv (Dv.mul_left _ _)) (sB.dv (Dv.mul_left _ _));obtain⟨E,hE,e⟩:=dC.fellow hD hC.tr hC.ne;rw[hC.plain,gD]at e;have EL:Dv E L:=Dv.cancel hD.ne hD.tr (by rw[e];exact sA.symm.dv cA);have EM:Dv E M:=Dv.cancel hD.ne hD.tr (by rw[e];exact sB.symm.dv cB);rw[hL]at EL;rcases sJ ps hps hE EL with z |⟨p,hp,z⟩
 ·rw[<- e,z,iG]
 ·exact absurd (z.trans EM) (hM p hp)
theorem dj(l:List Int)(n:Nat):cf (slopeL l) n=((n:Int)+1)*cf l (n+1):=by
 unfold slopeL;rw[d7];by_cases h:n<l.length-1
 ·rw[if_pos h]
 ·rw[if_neg h,aN (l:=l) (by omega),Fy]
theorem o4(x:Int)(a:List Int)(n:Nat):cf (slopeL (x::a)) n=1*cf a n+1*cf (0::slopeL a) n:=by
 rw[dj,mq,gN];cases n with
 |zero=>show(((0:Nat):Int)+1)*cf a 0=1*cf a 0+1*0;omega
 |succ n =>
  show(((n+1:Nat):Int)+1)*cf a (n+1)=1*cf a (n+1)+1*cf (slopeL a) n;rw[dj];have:((n+1:Nat):Int)=(n:Int)+1:=by omega
  rw[this,Int.add_mul];omega
theorem jB:∀(a b:List Int) (n:Nat),cf (slopeL (ad a b)) n=ao (slopeL a) b n+ao a (slopeL b) n
 | [],b,n=>by rw[dU];show cf (slopeL []) n=ao (slopeL []) b n+ao [] (slopeL b) n;have:slopeL []=[]:=rfl;rw[this,bT,cL,cL];omega
 |x::a,b,n=>by
  rw[dj,aB,cy,cG (q:=b) (o4 x a),qJ,cy,dj];show((n:Int)+1)*(x*cf b (n+1)+ao a b n)=_;cases n with
  |zero =>show(((0:Nat):Int)+1)*(x*cf b 1+ao a b 0)=1*ao a b 0+1*0+(x*((((0:Nat):Int)+1)*cf b 1)+0);simp;omega
  |succ n =>
   have ih:=jB a b n;rw[dj,aB]at ih;show(((n+1:Nat):Int)+1)*(x*cf b (n+1+1)+ao a b (n+1))=1*ao a b (n+1)+1*ao (slopeL a) b n+(x*((((n+1:Nat):Int)+1)*cf b (n+1+1))+ao a (slopeL b) n);have:((n+1:Nat):Int)=(n:Int)+1:=by omega
   rw[this];generalize ao a b (n+1)=z at *
   generalize ao (slopeL a) b n=z1 at *
   generalize ao a (slopeL b) n=z2 at *
   generalize cf b (n+1+1)=z3 at *
   generalize (n:Int)=m at *
   grind
noncomputable def pw(s:List Int):Nat->List Int
 |0=>[1]
 |n+1=>ad s (pw s n)
theorem pX(s:List Int):pw s 1=s:=iG s
theorem pY(s:List Int):∀a b,ad (pw s a) (pw s b)=pw s (a+b)
 |0,b=>by rw[Nat.zero_add];exact gF _
 |a+1,b=>by rw[show a+1+b=a+b+1 by omega];show ad (ad s (pw s a)) (pw s b)=ad s (pw s (a+b));rw[gE,pY s a b]
theorem pW{s:List Int}(h:Pln s):∀n,Pln (pw s n)
 |0=>pln_one
 |n+1=>h.mul (pW h n)
theorem o2(s:List Int):∀(k n:Nat),cf (slopeL (pw s (k+1))) n=((k:Int)+1)*ao (slopeL s) (pw s k) n
 |0,n=>by rw[pX];show _=(((0:Nat):Int)+1)*ao (slopeL s) [1] n;rw[dF,c8];omega
 |k+1,n=>by
  show cf (slopeL (ad s (pw s (k+1)))) n=_;rw[jB];have e:ao s (slopeL (pw s (k+1))) n=((k:Int)+1)*ao s (ad (slopeL s) (pw s k)) n:=gC λj=>by rw[o2 s k j,aB]
  have e2:ao s (ad (slopeL s) (pw s k)) n=ao (slopeL s) (pw s (k+1)) n:=by
   show _=ao (slopeL s) (ad s (pw s k)) n;rw[<- aB,<- aB]
   congr 1
   ac_rfl
  rw[e,e2];have:((k+1:Nat):Int)=(k:Int)+1:=by omega
  rw[this,Int.add_mul ((k:Int)+1) 1];omega
noncomputable def fP(g:Nat->Nat)(us:List (List Int×Nat)):List Int:=us.foldr (λp acc=>ad (pw p.1 (g p.2)) acc) [1]
theorem df(g:Nat->Nat)(p:List Int×Nat)(us:List (List Int×Nat)):fP g (p::us)=ad (pw p.1 (g p.2)) (fP g us):=rfl
theorem lP(g h:Nat->Nat):∀us,ad (fP g us) (fP h us)=fP (λm=>g m+h m) us
 | []=>gF _
 |p::us=>by
  rw[df,df,df,<- lP g h us,<- pY]
  ac_rfl
theorem f8{g h:Nat->Nat}:∀us:List (List Int×Nat),(∀p∈us,g p.2=h p.2)->fP g us=fP h us
 | [],_=>rfl
 |p::us,H=>by rw[df,df,H p (Fx ..),f8 us λx hx=>H x (Fs _ hx)]
theorem sx{g:Nat->Nat}:∀us:List (List Int×Nat),(∀p∈us,Pri p.1)->Pln (fP g us)
 | [],_=>pln_one
 |p::us,h=>(pW (h p (Fx ..)).pln _).mul (sx us λx hx=>h x (Fs _ hx))
theorem su(c:Nat->Bool):∀us:List (List Int×Nat),fP (λm=>if c m then 1 else 0) us=prd ((us.filter λp=>c p.2).map (·.1))
 | []=>rfl
 |p::us=>by
  rw[df,su c us,List.filter_cons];cases h:c p.2 with
  |true =>simp only[if_true,FZ];rw[pX];rfl
  |false =>simp only[Bool.false_eq_true,if_false];exact gF _
theorem sy{g:Nat->Nat}:∀(us:List (List Int×Nat)) {p:List Int×Nat},p∈us->0<g p.2->Dv p.1 (fP g us)
 |q::us,p,hp,h0=>by
  rw[df];rcases Ft.mp hp with rfl |hp
  ·obtain⟨k,hk⟩:∃k,g p.2=k+1:=⟨g p.2-1,by omega⟩;rw[hk];show Dv p.1 (ad (ad p.1 (pw p.1 k)) _);rw[gE];exact Dv.mul_left _ _
  ·exact(sy us hp h0).trans (Dv.mul_right _ _)
theorem Pri.pw{s t:List Int}(h:Pri s):∀n,Dv s (pw t n)->0<n/\Dv s t
 |0,hd=>absurd hd h.not_one
 |n+1,hd=>by
  refine⟨by omega,?_⟩;rcases h.or t (RM.pw t n) hd with z |z
  ·exact z
  ·exact(Pri.pw h n z).2
theorem Pri.fP{s:List Int}(h:Pri s){g:Nat->Nat}:∀us:List (List Int×Nat),Dv s (fP g us)->∃p∈us,0<g p.2/\Dv s p.1
 | [],hd=>absurd hd h.not_one
 |p::us,hd=>by
  rcases h.or (RM.pw p.1 (g p.2)) (RM.fP g us) hd with z |z
  ·exact⟨p,Fx ..,(h.pw _ z)⟩
  ·obtain⟨q,hq,z'⟩:=Pri.fP h us z;exact⟨q,Fs _ hq,z'⟩
structure Use(us:List (List Int×Nat)):Prop where
 pri:∀p∈us,Pri p.1
 pos:∀p∈us,1<=p.2
 nd:(us.map (·.1)).Nodup
theorem Use.tail{p:List Int×Nat}{us:List (List Int×Nat)}(h:Use (p::us)):Use us :=
 ⟨λx hx=>h.pri x (Fs _ hx),λx hx=>h.pos x (Fs _ hx),(GL.mp h.nd).2⟩
theorem Use.head{p q:List Int×Nat}{us:List (List Int×Nat)}(h:Use (p::us))(hq:q∈us):p.1≠q.1:=λz =>(GL.mp h.nd).1 (Fo.mpr ⟨q,hq,z.symm⟩)
theorem e8(l:List Int):(slopeL l).length=l.length-1:=by unfold slopeL;simp
theorem gj{l:List Int}(h:Tr l):Tr (slopeL l):=λn hn=>by rw[e8]at hn;rw[dj];exact FB (by omega) (h (n+1) (by omega))
theorem o3:∀us:List (List Int×Nat),Use us->∃M,(∀n,cf (slopeL (fP id us)) n=ao (fP (·-1) us) M n)/\∀q∈us,¬Dv q.1 M
 | [],_=>⟨[],λn=>by
  show cf (slopeL [1]) n=ao [1] [] n
  rw[kP];exact bT n,λ_ h=>nomatch h⟩
 |p::us,h=>by
  obtain⟨M',e',h'⟩:=o3 us h.tail;obtain⟨s,m⟩:=p;have P:Pri s:=h.pri _ (Fx ..);obtain⟨k,hk⟩:∃k,m=k+1:=⟨m-1,by have:=h.pos _ (Fx ..);simp at this;omega⟩;subst hk
  have eF:fP id us=ad (fP (·-1) us) (fP (λ_=>1) us):=by rw[lP];exact f8 us λp hp=>by have:=h.tail.pos p hp;show p.2=p.2-1+1;omega
  have hX:∀n,cf (cV 1 (ad (scL ((k:Int)+1) (slopeL s)) (fP (λ_=>1) us)) (ad s M')) n=1*cf (ad (scL ((k:Int)+1) (slopeL s)) (fP (λ_=>1) us)) n+1*cf (ad s M') n:=λn=>by rw[fm];omega
  refine⟨cV 1 (ad (scL ((k:Int)+1) (slopeL s)) (fP (λ_=>1) us)) (ad s M'),λn=>?_,λq hq hd=>?_⟩
  ·rw[df,df];show cf (slopeL (ad (pw s (k+1)) (fP id us))) n=ao (ad (pw s k) (fP (·-1) us)) _ n;rw[jB,qK hX]
   have a1:ao (slopeL (pw s (k+1))) (fP id us) n=ao (ad (pw s k) (fP (·-1) us)) (ad (scL ((k:Int)+1) (slopeL s)) (fP (λ_=>1) us)) n:=by
    rw[eF]
    have:ao (slopeL (pw s (k+1))) (ad (fP (·-1) us) (fP (λ_=>1) us)) n=ao (ad (scL ((k:Int)+1) (slopeL s)) (pw s k)) (ad (fP (·-1) us) (fP (λ_=>1) us)) n:=by
     refine iE (λj=>?_) λ_=>rfl
     rw[o2,aB];have:=cG (a:=slopeL s) (b:=[]) (x:=(k:Int)+1) (y:=0) (c:=scL ((k:Int)+1) (slopeL s)) (q:=pw s k) (n:=j) (λi=>by rw[bh];simp);rw[this];simp
    rw[this,<- aB,<- aB]
    congr 1
    ac_rfl
   have a2:ao (pw s (k+1)) (slopeL (fP id us)) n=ao (ad (pw s k) (fP (·-1) us)) (ad s M') n:=by
    rw[iE (a':=pw s (k+1)) (b':=ad (fP (·-1) us) M') (λ_=>rfl) (λj=>by rw[e',aB])];show ao (ad s (pw s k)) _ n=_;rw[<- aB,<- aB]
    congr 1
    ac_rfl
   rw[a1,a2];omega
  ·have hX':∀n,1*cf (cV 1 (ad (scL ((k:Int)+1) (slopeL s)) (fP (λ_=>1) us)) (ad s M')) n=ao M' s n+cf (ad (scL ((k:Int)+1) (slopeL s)) (fP (λ_=>1) us)) n:=λn=>by rw[hX,aB s,dF s];omega
   rcases Ft.mp hq with rfl |hq
   ·have d1:=Dv.down hX' hd (Dv.refl _);rcases P.or _ _ d1 with z |z
    ·have t:Tr (scL ((k:Int)+1) (slopeL s)):=gk (by omega) (gj P.pln.tr);have l:(scL ((k:Int)+1) (slopeL s)).length=s.length-1:=by rw[b6,e8]
     have:=P.two;have n:=Dv.short P.pln.ne P.pln.tr t (by omega) z;rw[n]at l;simp at l
     omega
    ·obtain⟨q',hq',_,w⟩:=P.fP us z;exact h.head hq' (P.same (h.tail.pri q' hq') w)
   ·have Q:=h.tail.pri q hq;have d0:Dv q.1 (ad (scL ((k:Int)+1) (slopeL s)) (fP (λ_=>1) us)):=(sy us hq (g:=λ_=>1) (by decide)).trans (Dv.mul_right _ _);have d1:Dv q.1 (ad s M'):=Dv.down (f:=1) (q:=[1]) (λn=>by rw[hX,c8];omega) hd d0;rcases Q.or _ _ d1 with z |z
    ·exact h.head hq (Q.same P z).symm
    ·exact h' q hq z
theorem wf{s a b:List Int}(hs:s≠[])(h:Dv s (ad a b)):Dv s (ad (aj a s) (aj b s)):=by
 have e1:=λn=>dN (a:=a) hs n
 have e2:=λn=>dN (a:=b) hs n
 have d1:Dv s (ad (aj a s) b):=by
  refine Dv.down (f:=aF a s) (q:=ad (aH a s) b) (b:=s) (λn=>?_) h (Dv.refl _);rw[aB,aB];have l:=cG (a:=ad (aH a s) s) (b:=aj a s) (x:=1) (y:=1) (c:=scL (aF a s) a) (q:=b) (n:=n) (λk=>by rw[bh,e1,aB];omega);have l2:=cG (a:=a) (b:=[]) (x:=aF a s) (y:=0) (c:=scL (aF a s) a) (q:=b) (n:=n) (λk=>by rw[bh];simp)
  have l3:ao (ad (aH a s) s) b n=ao (ad (aH a s) b) s n:=by
   rw[<- aB,<- aB]
   congr 1
   ac_rfl
  rw[l2,l3]at l;rw[cL]at l;omega
 refine Dv.down (f:=aF b s) (q:=ad (aj a s) (aH b s)) (b:=s) (λn=>?_) d1 (Dv.refl _);rw[aB,aB];have l:=qK (a:=ad (aH b s) s) (b:=aj b s) (x:=1) (y:=1) (c:=scL (aF b s) b) (q:=aj a s) (n:=n) (λk=>by rw[bh,e2,aB];omega);have l2:=gC (a:=aj a s) (b:=b) (b':=scL (aF b s) b) (c:=aF b s) (n:=n) (λk=>by rw[bh])
 have l3:ao (aj a s) (ad (aH b s) s) n=ao (ad (aj a s) (aH b s)) s n:=by
  rw[<- aB,<- aB]
  congr 1
  ac_rfl
 rw[l2,l3]at l;omega
theorem sG{s a:List Int}(hs:s≠[])(ht:Tr s)(h:aj a s=[]):Dv s a :=
 ⟨aF a s,aH a s,gM hs ht,λn=>by rw[dN hs,h,bT];omega⟩
noncomputable def aA(u e b:Int):List Int:=if e=0 then[-u,b]else[u*u-e,-2*b*u,b*b]
theorem eh{u e b:Int}(hb:1<=b):Tr (aA u e b)/\2<=(aA u e b).length:=by
 unfold aA;split
 ·exact⟨(tr_snoc (r:=[-u])).mpr (by omega),by show 2<=2;decide⟩
 ·exact⟨(tr_snoc (r:=[u*u-e,-2*b*u])).mpr (FB (by omega) (by omega)),by show 2<=3;decide⟩
theorem qE{n e:Int}(hn:0<=n)(h1:n*n<e)(h2:e<(n+1)*(n+1)):∀(k:Nat) (x y:Int),x.toNat<=k->0<x->0<=y->e*(x*x)=y*y->False
 |0,x,y,hk,hx,_,_=>by omega
 |k+1,x,y,hk,hx,hy,h=>by
  have hxx:0<x*x:=Fz hx hx
  have a1:n*x<y:=by
   refine Int.not_le.mp λz=>?_
   have:=GQ z z hy (Int.le_trans hy z);have:=Gy h1 hxx;have e1:n*x*(n*x)=n*n*(x*x):=by grind
   omega
  have a2:y<(n+1)*x:=by
   refine Int.not_le.mp λz=>?_
   have z0:0<=(n+1)*x:=Gk (by omega) (by omega);have:=GQ z z z0 hy;have:=Gy h2 hxx;have e1:(n+1)*x*((n+1)*x)=(n+1)*(n+1)*(x*x):=by grind
   omega
  have a3:(n+1)*x=n*x+x:=by rw[Int.add_mul];omega
  refine qE hn h1 h2 k (y-n*x) ((e*x-n*y).natAbs:Int) (by omega) (by omega) (by omega) ?_;rw[Int.natAbs_mul_self' (e*x-n*y)];grind
def NS(e:Int):Prop:=e<=0\/∃n:Int,0<=n/\n*n<e/\e<(n+1)*(n+1)
theorem NS.no{e x y:Int}(h:NS e)(he:e≠0)(hx:x≠0)(eq:x*x*e=y*y):False:=by
 rcases h with h |⟨n,hn,h1,h2⟩
 ·have hxx:0<x*x:=by
   rcases GG hx with z |z
   ·exact Int.mul_pos_of_neg_of_neg z z
   ·exact Fz z z
  have:x*x*e<0:=HF hxx (by omega)
  have:0<=y*y:=by
   rcases Int.le_total 0 y with z |z
   ·exact Gk z z
   ·exact HD z z
  omega
 ·refine qE hn h1 h2 _ (x.natAbs:Int) (y.natAbs:Int) (Fl _) (by omega) (by omega) ?_;rw[Int.natAbs_mul_self' x,Int.natAbs_mul_self' y,<- eq,FX]
theorem wo{u e b:Int}(hb:1<=b)(he:NS e){p q:List Int}(h:Dv (aA u e b) (ad p q)):Dv (aA u e b) p\/Dv (aA u e b) q:=by
 obtain⟨tr,l2⟩:=eh (u:=u) (e:=e) hb;have hne:aA u e b≠[]:=λz=>by rw[z]at l2;simp at l2
 by_cases hp:aj p (aA u e b)=[]
 ·exact .inl (sG hne tr hp)
 by_cases hq:aj q (aA u e b)=[]
 ·exact .inr (sG hne tr hq)
 exfalso;have d:=wf hne h;have t1:=dZ p (aA u e b);have t2:=dZ q (aA u e b);have n1:=dg (a:=p) hne;have n2:=dg (a:=q) hne;generalize aj p (aA u e b)=r1 at *
 generalize aj q (aA u e b)=r2 at *
 have lm:=bN hp hq;have p1:=Fm.mpr hp;have p2:=Fm.mpr hq;by_cases hs:(ad r1 r2).length<(aA u e b).length
 ·exact iF hp hq (Dv.short hne tr (eo t1 t2) hs d)
 by_cases h0:e=0
 ·have:(aA u e b).length=2:=by unfold aA;rw[if_pos h0];rfl
  omega
 have er:aA u e b=[u*u-e,-2*b*u,b*b]:=by unfold aA;rw[if_neg h0]
 rw[er]at hs n1 n2 d hne tr;simp only[FI,List.length_nil]at hs n1 n2
 obtain⟨α,β,rfl⟩:∃α β,r1=[α,β]:=by
  match r1,(show r1.length=2 by omega)with
  | [α,β],_=>exact⟨α,β,rfl⟩
 obtain⟨γ,δ,rfl⟩:∃γ δ,r2=[γ,δ]:=by
  match r2,(show r2.length=2 by omega)with
  | [γ,δ],_=>exact⟨γ,δ,rfl⟩
 have hβ:β≠0:=(tr_snoc (r:=[α])).mp t1;have hδ:δ≠0:=(tr_snoc (r:=[γ])).mp t2
 have em:ad [α,β] [γ,δ]=[α*γ,α*δ+β*γ,β*δ]:=by
  refine cY (by rw[lm];rfl) λk hk=>?_
  rw[lm]at hk;rw[aB];have hk':k<3:=hk;have:k=0\/k=1\/k=2:=by omega
  rcases this with rfl |rfl |rfl
  ·show(0+(α*γ))+0=α*γ;omega
  ·show(0+(α*δ))+(β*γ)=α*δ+β*γ;omega
  ·show(0+α*cf [γ,δ] 2)+(β*δ)=β*δ;have:cf [γ,δ] 2=0:=rfl;rw[this];simp
 rw[em]at d;have hr:=d.rest hne tr;have eqn:=λn=>dN (a:=[α*γ,α*δ+β*γ,β*δ]) hne n
 have hf:=gM (a:=[α*γ,α*δ+β*γ,β*δ]) hne tr;have lq:=gL (a:=[α*γ,α*δ+β*γ,β*δ]) hne;generalize aF [α*γ,α*δ+β*γ,β*δ] [u*u-e,-2*b*u,b*b]=f at *
 generalize aH [α*γ,α*δ+β*γ,β*δ] [u*u-e,-2*b*u,b*b]=Q at *
 rw[hr]at eqn;have lq':Q.length=1:=lq;obtain⟨κ,rfl⟩:∃κ,Q=[κ]:=List.length_eq_one_iff.mp lq';have g0:=eqn 0;have g1:=eqn 1;have g2:=eqn 2;rw[c8,bT]at g0 g1 g2
 replace g0:f*(α*γ)=κ*(u*u-e)+0:=g0
 replace g1:f*(α*δ+β*γ)=κ*(-2*b*u)+0:=g1
 replace g2:f*(β*δ)=κ*(b*b)+0:=g2
 have hκ:κ≠0:=λz=>by rw[z,FV]at g2;exact FB hf (FB hβ hδ) (by omega)
 refine he.no h0 (x:=2*κ*b) (y:=f*(α*δ-β*γ)) (FB (FB (by decide) hκ) (by omega)) ?_;have k1:f*(α*δ-β*γ)*(f*(α*δ-β*γ))=f*(α*δ+β*γ)*(f*(α*δ+β*γ))-4*((f*(α*γ))*(f*(β*δ))):=by grind
 rw[k1,g0,g1,g2];grind
theorem wn{u e b:Int}(hb:1<=b)(he:NS e):Pri (aI (aA u e b)):=by
 obtain⟨tr,l2⟩:=eh (u:=u) (e:=e) hb;have hne:aA u e b≠[]:=λz=>by rw[z]at l2;simp at l2
 obtain⟨g,hg,eg⟩:=eQ tr;have to:∀p,Dv (aI (aA u e b)) p->Dv (aA u e b) p:=λp h=>Dv.prop_left (x:=1) (y:=g) (by decide) hg (λn=>by rw[eg];omega) h
 have fr:∀p,Dv (aA u e b) p->Dv (aI (aA u e b)) p:=λp h=>Dv.prop_left (x:=g) (y:=1) hg (by decide) (λn=>by rw[<- eg];omega) h
 refine⟨eO tr hne,by rw[plain_len];exact l2,λp q h=>?_⟩;exact(wo hb he (to _ h)).imp (fr _) (fr _)
noncomputable def com(xs ys:List Int):List Int:=cC 20 (aI xs) (aI ys)
structure ComOk(xs ys:List Int):Prop where
 pln:xs≠[]\/ys≠[]->Pln (com xs ys)
 left:Dv (com xs ys) xs
 right:Dv (com xs ys) ys
 all:∀d,Dv d xs->Dv d ys->Dv d (com xs ys)
theorem sY{xs ys:List Int}(h2:ys.length<=19)(t1:Tr xs)(t2:Tr ys):ComOk xs ys:=by
 obtain⟨c1,c2,c3,c4,c5,c6⟩:=sZ 20 (aI xs) (aI ys) (by rw[plain_len];omega) (fz t1) (fz t2);refine⟨λh=>?_,(Dv.plain t1).mp c2,(Dv.plain t2).mp c3,λd a b=>c4 d ((Dv.plain t1).mpr a) ((Dv.plain t2).mpr b)⟩;have hne:com xs ys≠[]:=c5 (h.imp (λz q=>z (Gc.mp (by rw[<- plain_len,q];rfl))) (λz q=>z (Gc.mp (by rw[<- plain_len,q];rfl))))
 obtain⟨l,tl,el⟩:∃l,Tr l/\com xs ys=aI l:=by
  rcases c6 with e |e |e
  ·exact⟨xs,t1,e⟩
  ·exact⟨ys,t2,e⟩
  ·exact e
 have hl:l≠[]:=λz=>hne (by rw[el,z];rfl)
 rw[el];exact eO tl hl
theorem BK{A B D L M:List Int}{ps:List (List Int)}(tA:Tr A)(nA:A≠[])(tB:Tr B)(lB:B.length<=19)(hD:Pln D)(sA:Sim A (ad D L))(sB:Sim B (ad D M))(hps:∀p∈ps,Pri p)(hL:L=prd ps)(hM:∀p∈ps,¬Dv p M):com A B=D :=
 have C:=sY lB tA tB
 BJ (C.pln (.inl nA)) C.left C.right C.all hD sA sB hps hL hM
noncomputable def eq1(k m:Nat):Nat:=if m=k then 1 else 0
noncomputable def xw(_:Nat):Nat:=1
noncomputable def mor(us:List (List Int×Nat))(k:Nat):List Int:=fP (·-k) us
noncomputable def flt(us:List (List Int×Nat)):List Int:=fP xw us
variable {us:List (List Int×Nat)}
theorem sk:flt us=prd (us.map (·.1)):=by
 have:=su (λ_=>true) us;have e:us.filter (λp=>(λ_=>true) p.2)=us:=List.filter_eq_self.mpr λ_ _=>rfl
 rw[e]at this;rw[<- this];exact f8 us λp _=>rfl
theorem sv(h:Use us)(g:Nat->Nat):Pln (fP g us):=sx us h.pri
noncomputable def whl(c:Int)(us:List (List Int×Nat)):List Int:=ad [c] (fP id us)
theorem jm(c:Int):whl c us=scL c (fP id us):=by
 unfold whl;by_cases h:fP id us=[]
 ·rw[h,dS];rfl
 refine cY ?_ λk _=>?_
 ·rw[bN (by simp) h,b6];simp
 ·rw[aB,c8,bh]
theorem nC(h:Use us){c:Int}(hc:c≠0):Tr (whl c us)/\whl c us≠[]/\aI (whl c us)=fP id us:=by have pl:=sv h id;rw[jm];refine⟨gk hc pl.tr,λz=>pl.ne (Gc.mp (by rw[<- b6 c,z];rfl)),?_⟩;rw[kE hc pl.tr,pl.plain]
theorem uo(h:Use us):ad (mor us 1) (flt us)=fP id us:=by unfold mor flt;rw[lP];exact f8 us λp hp=>by have:=h.pos p hp;show p.2-1+1=p.2;omega
theorem um(h:Use us){c:Int}(hc:c≠0)(hl:(whl c us).length<=20):com (whl c us) (slopeL (whl c us))=mor us 1:=by
 obtain⟨t,n,p⟩:=nC h hc;obtain⟨M,eM,hM⟩:=o3 us h;refine BK (L:=flt us) (M:=M) (ps:=us.map (·.1)) t n (gj t) (by rw[e8];omega) (sv h _) ⟨1,c,by decide,hc,λk=>?_⟩ ⟨1,c,by decide,hc,λk=>?_⟩ (λp hp=>?_) sk (λp hp=>?_)
 ·rw[uo h,jm,bh];omega
 ·rw[aB];have e:=eM k;rw[dj]at e;show 1*cf (slopeL (whl c us)) k=c*ao (fP (·-1) us) M k;rw[<- e,dj,jm,bh];grind
 ·obtain⟨q,hq,rfl⟩:=Fo.mp hp;exact h.pri q hq
 ·obtain⟨q,hq,rfl⟩:=Fo.mp hp;exact hM q hq
noncomputable def aX(sq due:Int):Int:=if due<0\/due*due<sq then 1 else 0-(if sq<due*due then 1 else 0)
noncomputable def aU(l:List Int)(t n:Int):Int:=if 0<cf l 3 then aX (cf l 1*n*n) (cf l 2*t-cf l 0*n)else 0-aX (cf l 1*n*n) (0-(cf l 2*t-cf l 0*n))
theorem bP(sq d:Int):(aX sq d=1/\(d<0\/d*d<sq))\/(aX sq d=0/\0<=d/\d*d=sq)\/(aX sq d = -1/\0<=d/\sq<d*d):=by
 unfold aX;by_cases h:d<0\/d*d<sq
 ·rw[if_pos h];exact .inl ⟨rfl,h⟩
 ·rw[if_neg h];by_cases h2:sq<d*d
  ·rw[if_pos h2];exact .inr (.inr ⟨rfl,by omega,h2⟩)
  ·rw[if_neg h2];exact .inr (.inl ⟨rfl,by omega,by omega⟩)
structure Spt(l:List Int):Prop where
 is:∃u e b s:Int,l=[u,e,b,s]/\0<=e/\1<=b/\(s=1\/s = -1)
theorem gm{x y:Int}(hx:0<=x)(h:x<=y):x*x<=y*y:=GQ h h hx (by omega)
theorem ju{x y:Int}(hx:0<=x)(h:x<y):x*x<y*y:=by have h1:x*x<=x*y:=HG (Fq h) hx;have h2:x*y<y*y:=Gy h (by omega);omega
theorem zx{x y:Int}(hy:0<=y)(h:x*x<y*y):x<y:=Int.not_le.mp λz=>by have:=gm hy z;omega
theorem zF{x y:Int}(hy:0<=y)(h:x*x<=y*y):x<=y:=Int.not_lt.mp λz=>by have:=ju hy z;omega
theorem nY{g sq d:Int}(hg:0<g):aX (sq*(g*g)) (g*d)=aX sq d:=by
 have hgg:0<g*g:=Fz hg hg;have e1:g*d*(g*d)=d*d*(g*g):=by grind
 have e2:(g*d<0)↔d<0:=by
  constructor
  ·intro h;refine Int.not_le.mp λz=>?_
   have:=Gk (Fq hg) z;omega
  ·intro h;exact HF hg h
 have e3:∀x y:Int,(x*(g*g)<y*(g*g))↔x<y:=λx y=>⟨λh=>G1 h (Fq hgg),λh=>Gy h hgg⟩
 unfold aX;rw[e1];simp only[e2,e3]
theorem jC{g t n:Int}(l:List Int)(hg:0<g):aU l (g*t) (g*n)=aU l t n:=by
 have e1:cf l 1*(g*n)*(g*n)=cf l 1*n*n*(g*g):=by grind
 have e2:cf l 2*(g*t)-cf l 0*(g*n)=g*(cf l 2*t-cf l 0*n):=by grind
 have e3:0-g*(cf l 2*t-cf l 0*n)=g*(0-(cf l 2*t-cf l 0*n)):=by grind
 unfold aU;rw[e1,e2,e3,nY hg,nY hg]
theorem vh{t n t' n':Int}(l:List Int)(hn:0<n)(hn':0<n')(e:t*n'=t'*n):aU l t n=aU l t' n':=by
 rw[<- jC (g:=n') l hn',<- jC (g:=n) (t:=t') l hn];have e1:n'*t=n*t':=by rw[FX,e,FX]
 rw[e1,FX n' n]
theorem o6(l:List Int)(t n:Int):aU l t n=1\/aU l t n=0\/aU l t n = -1:=by
 unfold aU;split
 ·rcases bP (cf l 1*n*n) (cf l 2*t-cf l 0*n)with h |h |h<;>omega
 ·rcases bP (cf l 1*n*n) (0-(cf l 2*t-cf l 0*n))with h |h |h<;>omega
theorem vg{l:List Int}(hl:Spt l){t n t' n':Int}(hn:0<n)(hn':0<n')(h:t*n'<t'*n)(hs:aU l t n<=0):aU l t' n' = -1:=by
 obtain⟨u,e,b,s,rfl,he,hb,hs1⟩:=hl
 have hlt:(b*t-u*n)*n'<(b*t'-u*n')*n:=by
  have h1:b*(t*n')<b*(t'*n):=Int.mul_lt_mul_of_pos_left h (by omega);have e1:(b*t-u*n)*n'=b*(t*n')-u*n*n':=by grind
  have e2:(b*t'-u*n')*n=b*(t'*n)-u*n*n':=by grind
  omega
 have hnn:0<n*n:=Fz hn hn;have hnn':0<n'*n':=Fz hn' hn';rcases hs1 with rfl |rfl
 ·have z0:(0:Int)<1:=by decide
  have hs:aX (e*n*n) (b*t-u*n)<=0:=hs;show aX (e*n'*n') (b*t'-u*n') = -1;generalize b*t-u*n=a at *
  generalize b*t'-u*n'=a' at *
  have k1:0<=a/\e*n*n<=a*a:=by rcases bP (e*n*n) a with h |h |h<;>omega
  have k2:0<=a*n':=Gk k1.1 (Fq hn');have k3:0<a':=G1 (a:=n) (by omega) (Fq hn);have k4:=ju k2 hlt;have k5:e*n*n*(n'*n')<=a*a*(n'*n'):=Gh k1.2 (Fq hnn')
  have k6:e*n'*n'*(n*n)<a'*a'*(n*n):=by
   have e1:e*n'*n'*(n*n)=e*n*n*(n'*n'):=by grind
   have e2:a'*a'*(n*n)=a'*n*(a'*n):=by grind
   have e3:a*a*(n'*n')=a*n'*(a*n'):=by grind
   omega
  have k7:=G1 k6 (Fq hnn);rcases bP (e*n'*n') a' with h |h |h<;>omega
 ·have hs:0-aX (e*n*n) (0-(b*t-u*n))<=0:=hs;show 0-aX (e*n'*n') (0-(b*t'-u*n')) = -1;generalize ha:0-(b*t-u*n)=a at *
  generalize ha':0-(b*t'-u*n')=a' at *
  have hlt':a'*n<a*n':=by
   have e1:a'*n = -((b*t'-u*n')*n):=by rw[<- ha'];grind
   have e2:a*n' = -((b*t-u*n)*n'):=by rw[<- ha];grind
   omega
  have k1:a<0\/a*a<=e*n*n:=by rcases bP (e*n*n) a with h |h |h<;>omega
  have k2:a'<0\/a'*a'<e*n'*n':=by
   by_cases z:a'<0
   ·exact .inl z
   right;have p1:0<=a'*n:=Gk (by omega) (Fq hn);have p2:0<a:=G1 (a:=n') (by omega) (Fq hn');have p3:=ju p1 hlt';have k5:a*a*(n'*n')<=e*n*n*(n'*n'):=Gh (by omega) (Fq hnn')
   have k6:a'*a'*(n*n)<e*n'*n'*(n*n):=by
    have e1:e*n'*n'*(n*n)=e*n*n*(n'*n'):=by grind
    have e2:a'*a'*(n*n)=a'*n*(a'*n):=by grind
    have e3:a*a*(n'*n')=a*n'*(a*n'):=by grind
    omega
   exact G1 k6 (Fq hnn)
  rcases bP (e*n'*n') a' with h |h |h<;>omega
noncomputable def spF(f:List Int):List (List Int):=(if 0<=cf f 1 then[[cf f 0,cf f 1,cf f 2,1]]else[])++(if 0<cf f 1 then[[cf f 0,cf f 1,cf f 2,-1]]else[])
noncomputable def spots(fs:List (List Int)):List (List Int):=fs.flatMap spF
noncomputable def spr(t n:Int):List (List Int)->Int
 | []=>1
 |l::ls => -aU l t n*spr t n ls
theorem oe(t n:Int):∀a b,spr t n (a++b)=spr t n a*spr t n b
 | [],b=>by show _=1*_;rw[FJ];rfl
 |x::a,b=>by show _*spr t n (a++b)=_*_*_;rw[oe t n a b,Gn]
theorem eC{f l:List Int}{u e b:Int}(hf:f=[u,e,b])(hb:1<=b)(h:l∈spF f):Spt l/\∃s,l=[u,e,b,s]/\0<=e/\(s=1\/s = -1/\0<e):=by
 subst hf;have hd:spF [u,e,b]=(if 0<=e then[[u,e,b,1]]else[])++(if 0<e then[[u,e,b,-1]]else[]):=rfl;rw[hd]at h;rcases FY.mp h with h |h
 ·by_cases z:0<=e
  ·rw[if_pos z]at h;obtain rfl:=Fu.mp h;exact⟨⟨u,e,b,1,rfl,z,hb,.inl rfl⟩,1,rfl,z,.inl rfl⟩
  ·rw[if_neg z]at h;cases h
 ·by_cases z:0<e
  ·rw[if_pos z]at h;obtain rfl:=Fu.mp h;exact⟨⟨u,e,b,-1,rfl,by omega,hb,.inr rfl⟩,-1,rfl,by omega,.inr ⟨rfl,z⟩⟩
  ·rw[if_neg z]at h;cases h
theorem wm{u e b t n:Int}(hn:0<n):sg (hv t n (aA u e b))=spr t n (spF [u,e,b]):=by
 have hd:spF [u,e,b]=(if 0<=e then[[u,e,b,1]]else[])++(if 0<e then[[u,e,b,-1]]else[]):=rfl;rw[hd];by_cases h0:e=0
 ·subst h0;have er:aA u 0 b=[-u,b]:=by unfold aA;rw[if_pos rfl]
  have ev:hv t n [-u,b]=n*(b*t-u*n):=by show -u*n^2+t*(b*n^1+t*0)=_;grind
  rw[er,ev,eE hn,if_pos (Gs _),if_neg (by omega)];show _ = -aX (0*n*n) (b*t-u*n)*1;generalize b*t-u*n=a;rw[FV,FV];have:a<0\/a=0\/0<a:=by omega
  rcases this with h |h |h
  ·have h1:sg a = -1:=by unfold sg;rw[if_pos h]
   rcases bP 0 a with z |z |z<;>omega
  ·subst h;rfl
  ·have h1:sg a=1:=by unfold sg;rw[if_neg (by omega),if_pos h]
   have h2:=Fz h h;rcases bP 0 a with z |z |z<;>omega
 ·have er:aA u e b=[u*u-e,-2*b*u,b*b]:=by unfold aA;rw[if_neg h0]
  have ev:hv t n [u*u-e,-2*b*u,b*b]=n*((b*t-u*n)*(b*t-u*n)-e*n*n):=by show(u*u-e)*n^3+t*((-2*b*u)*n^2+t*((b*b)*n^1+t*0))=_;grind
  rw[er,ev,eE hn];by_cases hp:0<=e
  ·rw[if_pos hp,if_pos (by omega)];show _ = -aX (e*n*n) (b*t-u*n)*(-(0-aX (e*n*n) (0-(b*t-u*n)))*1);generalize b*t-u*n=a;have hE:0<e*n*n:=Fz (Fz (by omega) hn) hn;generalize e*n*n=E at *
   have e1:(0-a)*(0-a)=a*a:=by grind
   have h1:=bP E a;have h2:=bP E (0-a);rw[e1]at h2;have az:a=0->a*a=0:=λz=>by rw[z];rfl
   have s3:(a*a<E/\sg (a*a-E) = -1)\/(a*a=E/\sg (a*a-E)=0)\/(E<a*a/\sg (a*a-E)=1):=by unfold sg;split<;>(try split)<;>omega
   generalize a*a=q at *
   rcases h1 with⟨x1,x2⟩ |⟨x1,x2⟩ |⟨x1,x2⟩<;>rcases h2 with⟨y1,y2⟩ |⟨y1,y2⟩ |⟨y1,y2⟩<;>rw[x1,y1]<;>simp<;>omega
  ·rw[if_neg hp,if_neg (by omega)]
   have h1:0<=(b*t-u*n)*(b*t-u*n):=by
    rcases Int.le_total 0 (b*t-u*n)with z |z
    ·exact Gk z z
    ·exact HD z z
   have h2:e*n*n<0:=by rw[Gn];exact HE (by omega) (Fz hn hn)
   show sg _=1;unfold sg;rw[if_neg (by omega),if_pos (by omega)]
noncomputable def ar(f:List Int):List Int:=aI (aA (cf f 0) (cf f 1) (cf f 2))
theorem fF(x y:Int):sg (x*y)=sg x*sg y:=by
 rcases Int.lt_trichotomy x 0 with hx |hx |hx
 ·have h1:sg x = -1:=by unfold sg;rw[if_pos hx]
  have e:x*y = -((-x)*y):=by grind
  rw[e,jF,eE (by omega),h1];omega
 ·subst hx;rw[FV];show(0:Int)=0*_;rw[FV]
 ·have h1:sg x=1:=by unfold sg;rw[if_neg (by omega),if_pos hx]
  rw[eE hx,h1,FJ]
theorem wT{l:List Int}(h:Tr l)(hne:l≠[])(hp:0<b7 l):∃g:Int,0<g/\l=scL g (aI l):=by
 obtain⟨g,hg,e⟩:=eQ h
 have e2:l=scL g (aI l):=by
  apply cY
  ·rw[b6,plain_len]
  ·intro k _;rw[bh,e k]
 have hP:=eO h hne;refine⟨g,?_,e2⟩;obtain⟨r,x,er⟩:=(cD l).resolve_left hne;have hx:b7 l=cf l r.length:=by rw[er,dH,gc]
 obtain⟨r',x',er'⟩:=(cD (aI l)).resolve_left hP.ne;have hx':b7 (aI l)=cf (aI l) r'.length:=by rw[er',dH,gc]
 have hl:r.length=r'.length:=by have:=plain_len l;have h1:=congrArg List.length er;have h2:=congrArg List.length er';simp at h1 h2;omega
 have h3:=e r.length;rw[<- hx,hl,<- hx']at h3;have h4:=hP.pos;rw[h3]at hp;rcases GG hg with z |z
 ·have:=HE z h4;omega
 ·exact z
theorem vm{u e b t n:Int}(hb:1<=b)(hn:0<n):sg (hv t n (ar [u,e,b]))=spr t n (spF [u,e,b]):=by
 obtain⟨tr,l2⟩:=eh (u:=u) (e:=e) hb;have hne:aA u e b≠[]:=λz=>by rw[z]at l2;simp at l2
 have hlast:0<b7 (aA u e b):=by
  unfold aA;split
  ·show 0<b7 ([-u]++[b]);rw[dH];omega
  ·show 0<b7 ([u*u-e,-2*b*u]++[b*b]);rw[dH];exact Fz (by omega) (by omega)
 obtain⟨g,hg,eg⟩:=wT tr hne hlast;rw[<- wm hn];show sg (hv t n (aI (aA u e b)))=_
 have e3:hv t n (aA u e b)=g*hv t n (aI (aA u e b)):=by
  calc hv t n (aA u e b)=hv t n (scL g (aI (aA u e b))):=by rw[<- eg]
   _=_:=rM _ _ _ _
 rw[e3,eE hg]
def fw(f:List Int):Prop:=∃u e b:Int,f=[u,e,b]/\1<=b
theorem qh{t n:Int}(hn:0<n):∀(fs:List (List Int)),(∀f∈fs,fw f)->sg (pr t n (fs.map ar))=spr t n (spots fs)
 | [],_=>rfl
 |f::fs,h=>by
  obtain⟨u,e,b,rfl,hb⟩:=h f (Fx ..);have ih:=qh (t:=t) hn fs λx hx=>h x (Fs _ hx)
  have e1:spots ([u,e,b]::fs)=spF [u,e,b]++spots fs:=by unfold spots;rw[List.flatMap_cons]
  show sg (hv t n (ar [u,e,b])*pr t n (fs.map ar))=_;rw[fF,vm hb hn,ih,e1,oe]
theorem vo{f:List Int}(h:fw f):ar f≠[]/\Tr (ar f):=by obtain⟨u,e,b,rfl,hb⟩:=h;obtain⟨tr,l2⟩:=eh (u:=u) (e:=e) hb;refine⟨λz=>?_,fz tr⟩;have:=plain_len (aA u e b);have z':aI (aA u e b)=[]:=z;rw[z']at this;simp at this;omega
theorem qc{t n c:Int}(hn:0<n){fs:List (List Int)}(h:∀f∈fs,fw f):sg (hv t n (ad [c] (bH [1] (fs.map ar))))=sg c*spr t n (spots fs):=by
 have hs:∀s∈fs.map ar,s≠[]/\Tr s:=λs hs=>by obtain⟨x,hx,rfl⟩:=Fo.mp hs;exact vo (h x hx)
 obtain⟨p1,p2,p3⟩:=qe (fs.map ar) [1] (by simp) ((tr_snoc (r:=[])).mpr (by decide)) hs;have e1:=iT t n (a:=[c]) (b:=bH [1] (fs.map ar)) p1 (by simp);have e2:=rO t n (fs.map ar) [1] (by simp) λs h=>(hs s h).1
 rw[rP]at e1 e2;rw[<- qh hn fs h]
 have e3:hv t n (ad [c] (bH [1] (fs.map ar)))=c*hv t n (bH [1] (fs.map ar)):=by refine G3 (GW hn) ?_;rw[e1];grind
 rw[e3,fF];have e4:=congrArg sg e2;rw[eE (Int.pow_pos hn),FJ,eE hn]at e4;rw[e4]
def inS(l:List Int)(A B D:Int):Prop:=0<aU l A D/\aU l B D<=0
instance (l:List Int) (A B D:Int):Decidable (inS l A B D):=inferInstanceAs (Decidable (_/\_))
structure Fsm(u e b:Int):Prop where
 u1 : -1000000000<=u
 u2:u<=1000000000
 e0:0<=e
 e1:e<=10000000000000000
 b1:1<=b
 b2:b<=1000
theorem zG{x:Int}{n:Nat}(h1 : -(n:Int)<=x)(h2:x<=n):x.natAbs<=n:=by omega
theorem iN{x D:Int}(hD:0<D)(h1 : -(30000000000000*D)<=x)(h2:x<=30000000000000*D):x.natAbs<=30000000000000*D.natAbs:=by
 have e:((30000000000000*D.natAbs:Nat):Int)=30000000000000*D:=by rw[Hk,Int.natAbs_of_nonneg (Fq hD)];rfl
 exact zG (by rw[e];exact h1) (by rw[e];exact h2)
theorem qH{u e b s A B D:Int}(h:Fsm u e b)(hs:s=1\/s = -1/\0<e)(hD:2^200<=D)(hw:B=A+128)(hi:inS [u,e,b,s] A B D):((b*A-u*D)*(b*A-u*D)-e*D*D).natAbs<=30000000000000*D.natAbs:=by
 obtain⟨u1,u2,e0,e1,b1,b2⟩:=h;have hDD:0<D:=by omega
 have eB:b*B-u*D=b*A-u*D+128*b:=by rw[hw];grind
 have h36:e*D*D<=100000000*D*(100000000*D):=by
  have h1:e*(D*D)<=10000000000000000*(D*D):=Gh (by omega) (Fq (Fz hDD hDD));have e2:e*D*D=e*(D*D):=by grind
  have e3:100000000*D*(100000000*D)=10000000000000000*(D*D):=by grind
  omega
 have hE0:0<=e*D*D:=Gk (Gk e0 (by omega)) (by omega)
 have hbig:e=0\/16384000000<e*D*D:=by
  rcases G4 0 e with z |z
  ·right;have h1:1*(D*D)<=e*(D*D):=Gh (by omega) (Fq (Fz hDD hDD));have e2:e*D*D=e*(D*D):=by grind
   have h2:1*D<=D*D:=Gh (by omega) (by omega);omega
  ·left;omega
 rcases hs with rfl |⟨rfl,hp⟩
 ·have i1:0<aX (e*D*D) (b*A-u*D):=hi.1;have i2:aX (e*D*D) (b*B-u*D)<=0:=hi.2;rw[eB]at i2;generalize b*A-u*D=a at *
  have k1:a<0\/a*a<e*D*D:=by rcases bP (e*D*D) a with z |z |z<;>omega
  have k2:0<=a+128*b/\e*D*D<=(a+128*b)*(a+128*b):=by rcases bP (e*D*D) (a+128*b)with z |z |z<;>omega
  by_cases ha:a<0
  ·have q1:=gm k2.1 (show a+128*b<=128000 by omega);have z0:e=0:=by omega
   subst z0;have q2:(-a)*(-a)<=128000*128000:=gm (by omega) (by omega);have q3:(-a)*(-a)=a*a:=by grind
   have q4:0<=a*a:=by rw[<- q3];exact Gk (by omega) (by omega)
   rw[FV,FV];exact iN hDD (by omega) (by omega)
  ·have k3:a*a<e*D*D:=by omega
   have k4:a<100000000*D:=zx (by omega) (by omega);have e3:(a+128*b)*(a+128*b)=a*a+256*(b*a)+16384*(b*b):=by grind
   have k5:b*a<=1000*a:=Gh b2 (by omega);have k6:b*b<=1000000:=GQ b2 b2 (by omega) (by omega);exact iN hDD (by omega) (by omega)
 ·have i1:0<0-aX (e*D*D) (0-(b*A-u*D)):=hi.1;have i2:0-aX (e*D*D) (0-(b*B-u*D))<=0:=hi.2;rw[eB]at i2;have eq1:(b*A-u*D)*(b*A-u*D)=(0-(b*A-u*D))*(0-(b*A-u*D)):=by grind
  have eq2:0-(b*A-u*D+128*b)=0-(b*A-u*D)-128*b:=by omega
  rw[eq1];rw[eq2]at i2;generalize 0-(b*A-u*D)=c at *
  have k1:0<=c/\e*D*D<c*c:=by rcases bP (e*D*D) c with z |z |z<;>omega
  have k2:c-128*b<0\/(c-128*b)*(c-128*b)<=e*D*D:=by rcases bP (e*D*D) (c-128*b)with z |z |z<;>omega
  by_cases hc:c-128*b<0
  ·have q1:=gm k1.1 (show c<=128000 by omega);exact iN hDD (by omega) (by omega)
  ·have k3:(c-128*b)*(c-128*b)<=e*D*D:=by omega
   have k4:c-128*b<=100000000*D:=zF (by omega) (by omega);have e3:c*c=(c-128*b)*(c-128*b)+256*(b*c)-16384*(b*b):=by grind
   have k5:b*c<=1000*c:=Gh b2 (by omega);have k6:0<=b*b:=Gk (by omega) (by omega);exact iN hDD (by omega) (by omega)
theorem uy{u e b A B D:Int}(h:Fsm u e b)(he:0<e)(hD:2^200<=D)(hw:B=A+128)(h1:inS [u,e,b,1] A B D)(h2:inS [u,e,b,-1] A B D):False:=by
 obtain⟨u1,u2,e0,e1,b1,b2⟩:=h;have hDD:0<D:=by omega
 have eB:b*B-u*D=b*A-u*D+128*b:=by rw[hw];grind
 have i1:aX (e*D*D) (b*B-u*D)<=0:=h1.2;have i2:0<0-aX (e*D*D) (0-(b*A-u*D)):=h2.1;rw[eB]at i1;generalize b*A-u*D=a at *
 have k1:0<=a+128*b:=by rcases bP (e*D*D) (a+128*b)with z |z |z<;>omega
 have k2:0<=0-a/\e*D*D<(0-a)*(0-a):=by rcases bP (e*D*D) (0-a)with z |z |z<;>omega
 have k3:=gm k2.1 (show 0-a<=128000 by omega);have h3:1*(D*D)<=e*(D*D):=Gh (by omega) (Fq (Fz hDD hDD));have e2:e*D*D=e*(D*D):=by grind
 have h4:1*D<=D*D:=Gh (by omega) (by omega);omega
theorem b8{x y:Int}{a b:Nat}(hx:x.natAbs<=a)(hy:y.natAbs<=b):(x*y).natAbs<=a*b:=by rw[FP];exact Hl hx hy
theorem qI(N:Nat):1000*1000*(30000000000000*N)+1000*1000*(30000000000000*N)<=60000000000000000000*N/\1000*1000*(30000000000000*N)<=30000000000000000000*N:=by omega
theorem yF{n2 n3 n4 x1 x2 x3:Nat}(h:n4<=x1+x2+x3)(t1:x1<=482400000000000000000000000000000000000000000*n3)(t2:x2<=3600000000000000000000000000000000000000*n2)(t3:x3<=480000000000000000000000000000000000000000000*n3)(m1:n2<=n3)(m2:1606938044258990275541962092341162602522202993782792835301376*n3<=n4)(m4:0<n3):False:=by omega
theorem yG{u e b u' e' b' A D:Int}(h:Fsm u e b)(h':Fsm u' e' b')(hD:2^200<=D)
 (n1:((b*A-u*D)*(b*A-u*D)-e*D*D).natAbs<=30000000000000*D.natAbs) (n2:((b'*A-u'*D)*(b'*A-u'*D)-e'*D*D).natAbs<=30000000000000*D.natAbs) :
 4*((b*u'-u*b')*(b*u'-u*b'))*(b*b*e')=(b'*b'*e-b*b*e'-(b*u'-u*b')*(b*u'-u*b'))*(b'*b'*e-b*b*e'-(b*u'-u*b')*(b*u'-u*b')):=by
 obtain⟨u1,u2,e0,e1,b1,b2⟩:=h;obtain⟨u1',u2',e0',e1',b1',b2'⟩:=h';obtain⟨N,rfl⟩:=Int.eq_ofNat_of_zero_le (show 0<=D by omega);rw[FQ]at n1 n2;have hN:1606938044258990275541962092341162602522202993782792835301376<=N:=by omega
 have q9:(b'*b').natAbs<=1000*1000:=b8 (a:=1000) (b:=1000) (by omega) (by omega);have q9':(b*b).natAbs<=1000*1000:=b8 (a:=1000) (b:=1000) (by omega) (by omega);have d1:=b8 q9 n1;have d2:=b8 q9' n2
 have hU:(b*u'-u*b').natAbs<=2000000000000:=by have a1:(b*u').natAbs<=1000*1000000000:=b8 (by omega) (by omega);have a2:(u*b').natAbs<=1000000000*1000:=b8 (by omega) (by omega);exact FA (G5 _ _) (Nat.add_le_add a1 a2)
 have hE1:(b'*b'*e).natAbs<=1000*1000*10000000000000000:=b8 q9 (by omega);have hE2:(b*b*e').natAbs<=1000*1000*10000000000000000:=b8 q9' (by omega);have r1:(b'*(b*A-u*N))*(b'*(b*A-u*N))=b'*b'*e*(N*N)+b'*b'*((b*A-u*N)*(b*A-u*N)-e*N*N):=by grind
 have r2:(b*(b'*A-u'*N))*(b*(b'*A-u'*N))=b*b*e'*(N*N)+b*b*((b'*A-u'*N)*(b'*A-u'*N)-e'*N*N):=by grind
 have r3:b'*(b*A-u*N)=b*(b'*A-u'*N)+(b*u'-u*b')*N:=by grind
 generalize b'*b'*((b*A-u*N)*(b*A-u*N)-e*N*N)=δ1 at *
 generalize b*b*((b'*A-u'*N)*(b'*A-u'*N)-e'*N*N)=δ2 at *
 rw[r3]at r1;generalize b*(b'*A-u'*N)=Y at *
 generalize b*u'-u*b'=U at *
 generalize b'*b'*e=E1 at *
 generalize b*b*e'=E2 at *
 clear n1 n2 q9 q9' r3 u1 u2 e0 e1 b1 b2 u1' u2' e0' e1' b1' b2' hD;have hUU:(U*U).natAbs<=2000000000000*2000000000000:=b8 hU hU;have hW:(E1-E2-U*U).natAbs<=4020000000000000000000000:=FA (G5 _ _) (FA (Nat.add_le_add (FA (G5 _ _) (Nat.add_le_add hE1 hE2)) hUU) (by decide));generalize hWd:E1-E2-U*U=W at *
 have r4:2*U*N*Y=W*(N*N)+(δ1-δ2):=by rw[<- hWd];grind
 have r5:(2*U*N*Y)*(2*U*N*Y)=4*(U*U)*(N*N)*(Y*Y):=by grind
 rw[r4,r2]at r5;have hM:(δ1-δ2).natAbs<=60000000000000000000*N:=FA (G5 _ _) (FA (Nat.add_le_add d1 d2) (qI N).1);have hδ2:δ2.natAbs<=30000000000000000000*N:=FA d2 (qI N).2;generalize δ1-δ2=δ at *
 have hNN:(0:Int)<(N:Int)*N:=Fz (by omega) (by omega);have r6:(4*(U*U)*E2-W*W)*(N*N)*(N*N)=2*W*δ*(N*N)+δ*δ-4*(U*U)*δ2*(N*N):=by grind
 refine Int.sub_eq_zero.mp (Classical.byContradiction λhne=>?_);generalize hZ:4*(U*U)*E2-W*W=Z at *
 have hZ1:1<=Z.natAbs:=by omega
 have b1:(Z*(N*N)*(N*N)).natAbs=Z.natAbs*(N*N)*(N*N):=by rw[FP,FP,FP,FQ]
 have t1:(2*W*δ*(N*N)).natAbs<=2*4020000000000000000000000*(60000000000000000000*N)*(N*N):=by refine b8 (b8 (b8 (by decide) hW) hM) ?_;rw[FP,FQ];exact Fl _
 have t2:(δ*δ).natAbs<=60000000000000000000*N*(60000000000000000000*N):=b8 hM hM
 have t3:(4*(U*U)*δ2*(N*N)).natAbs<=4*(2000000000000*2000000000000)*(30000000000000000000*N)*(N*N):=by refine b8 (b8 (b8 (by decide) hUU) hδ2) ?_;rw[FP,FQ];exact Fl _
 have t4:1*(N*N)*(N*N)<=Z.natAbs*(N*N)*(N*N):=Gp _ (Gp _ hZ1);rw[<- b1,r6]at t4;have e1:2*4020000000000000000000000*(60000000000000000000*N)*(N*N)=482400000000000000000000000000000000000000000*(N*N*N):=by grind
 have e2:60000000000000000000*N*(60000000000000000000*N)=3600000000000000000000000000000000000000*(N*N):=by grind
 have e3:4*(2000000000000*2000000000000)*(30000000000000000000*N)*(N*N)=480000000000000000000000000000000000000000000*(N*N*N):=by grind
 have e4:1*(N*N)*(N*N)=N*(N*N*N):=by grind
 have m1:1*(N*N)<=N*(N*N):=Gp _ (by omega);have m2:1606938044258990275541962092341162602522202993782792835301376*(N*N*N)<=N*(N*N*N):=Gp _ hN;have m3:N*(N*N)=N*N*N:=by grind
 have m4:0<N*N*N:=Nat.mul_pos (Nat.mul_pos (by omega) (by omega)) (by omega);rw[e4]at t4;rw[e1]at t1;rw[e2]at t2;rw[e3]at t3;rw[Nat.one_mul,m3]at m1;exact yF (FA t4 (FA (G5 _ _) (Nat.add_le_add_right (Int.natAbs_add_le _ _) _))) t1 t2 t3 m1 m2 m4
theorem vp{u e b u' e' b':Int}(h:Fsm u e b)(h':Fsm u' e' b')(hs:NS e)(hs':NS e')
 (eq:4*((b*u'-u*b')*(b*u'-u*b'))*(b*b*e')=(b'*b'*e-b*b*e'-(b*u'-u*b')*(b*u'-u*b'))*(b'*b'*e-b*b*e'-(b*u'-u*b')*(b*u'-u*b'))):ar [u,e,b]=ar [u',e',b']:=by
 obtain⟨u1,u2,e0,e1,b1,b2⟩:=h;obtain⟨u1',u2',e0',e1',b1',b2'⟩:=h'
 have key:b*u'-u*b'=0/\b'*b'*e=b*b*e':=by
  by_cases hz:e'=0
  ·subst hz
   have e3:(b'*b'*e-(b*u'-u*b')*(b*u'-u*b'))*(b'*b'*e-(b*u'-u*b')*(b*u'-u*b'))=0:=by
    have:b*b*(0:Int)=0:=Fy _;rw[this]at eq;rw[Fy]at eq;have h9:b'*b'*e-0-(b*u'-u*b')*(b*u'-u*b')=b'*b'*e-(b*u'-u*b')*(b*u'-u*b'):=by omega
    rw[h9]at eq;exact eq.symm
   have e4:b'*b'*e=(b*u'-u*b')*(b*u'-u*b'):=by rcases FH.mp e3 with z |z<;>omega
   by_cases hz2:e=0
   ·subst hz2;rw[Fy]at e4;refine⟨?_,by rw[Fy,Fy]⟩;rcases FH.mp e4.symm with z |z<;>exact z
   ·exact(hs.no hz2 (by omega) e4).elim
  ·by_cases hU:b*u'-u*b'=0
   ·rw[hU]at eq
    have e3:(b'*b'*e-b*b*e')*(b'*b'*e-b*b*e')=0:=by
     have h8:4*((0:Int)*0)*(b*b*e')=0:=by rw[Fy,Fy,FV]
     rw[h8]at eq;have h9:b'*b'*e-b*b*e'-0*0=b'*b'*e-b*b*e':=by omega
     rw[h9]at eq;exact eq.symm
    refine⟨hU,?_⟩;rcases FH.mp e3 with z |z<;>omega
   ·refine(hs'.no hz (x:=2*(b*u'-u*b')*b) (FB (FB (by decide) hU) (by omega)) (Eq.trans ?_ eq)).elim;grind
 obtain⟨k1,k2⟩:=key;show aI (aA u e b)=aI (aA u' e' b');obtain⟨tr,l2⟩:=eh (u:=u) (e:=e) b1;obtain⟨tr',l2'⟩:=eh (u:=u') (e:=e') b1';have hne:aA u e b≠[]:=λz=>by rw[z]at l2;simp at l2
 have hne':aA u' e' b'≠[]:=λz=>by rw[z]at l2';simp at l2'
 have hz:e=0↔e'=0:=by
  constructor
  ·intro z;rw[z,Fy]at k2;rcases FH.mp k2.symm with y |y
   ·rcases FH.mp y with y |y<;>omega
   ·exact y
  ·intro z;rw[z,Fy]at k2;rcases FH.mp k2 with y |y
   ·rcases FH.mp y with y |y<;>omega
   ·exact y
 have prop:∃x y:Int,x≠0/\y≠0/\∀n,x*cf (aA u' e' b') n=y*cf (aA u e b) n:=by
  by_cases h0:e=0
  ·have h0':=hz.mp h0;refine⟨b,b',by omega,by omega,λn=>?_⟩;unfold aA;rw[if_pos h0,if_pos h0',tD,tD];split
   ·have:b*u'=u*b':=by omega
    grind
   ·split
    ·grind
    ·omega
  ·have h0':¬e'=0:=λz=>h0 (hz.mpr z)
   refine⟨b*b,b'*b',FB (by omega) (by omega),FB (by omega) (by omega),λn=>?_⟩;have k3:b*u'=u*b':=by omega
   unfold aA;rw[if_neg h0,if_neg h0']
   match n with
   |0 =>
    show b*b*(u'*u'-e')=b'*b'*(u*u-e);have:(b*u')*(b*u')=(u*b')*(u*b'):=by rw[k3]
    grind
   |1 =>
    show b*b*(-2*b'*u')=b'*b'*(-2*b*u);have:b*b'*(b*u')=b*b'*(u*b'):=by rw[k3]
    grind
   |2 =>show b*b*(b'*b')=b'*b'*(b*b);grind
   |n+3 =>show b*b*0=b'*b'*0;omega
 obtain⟨x,y,hx,hy,hp⟩:=prop;refine qj (eO tr hne) (eO tr' hne') ?_ ?_
 ·rw[Dv.plain tr'];refine Dv.prop_right hx hp ?_;obtain⟨g,hg,eg⟩:=eQ tr;exact⟨1,[g],by decide,λn=>by rw[c8,<- eg];omega⟩
 ·rw[Dv.plain tr];refine Dv.prop_right (x:=y) (y:=x) hy (λn=>(hp n).symm) ?_;obtain⟨g,hg,eg⟩:=eQ tr';exact⟨1,[g],by decide,λn=>by rw[c8,<- eg];omega⟩
def FacG(f:List Int):Prop:=∃u e b:Int,f=[u,e,b] /\ -1000000000<=u/\u<=1000000000 /\ -10000000000000000<=e/\e<=10000000000000000/\1<=b/\b<=1000/\NS e
theorem FacG.q{f:List Int}(h:FacG f):fw f:=by obtain⟨u,e,b,rfl,_,_,_,_,h5,_⟩:=h;exact⟨u,e,b,rfl,h5⟩
def ul(l l':List Int):Prop:=∀A B D:Int,2^200<=D->B=A+128->inS l A B D->inS l' A B D->False
theorem og{fs:List (List Int)}(hF:∀f∈fs,FacG f)(hn:(fs.map ar).Nodup):(spots fs).Pairwise ul:=by
 unfold spots;rw[List.pairwise_flatMap];constructor
 ·intro f hf;obtain⟨u,e,b,rfl,h1,h2,h3,h4,h5,h6,h7⟩:=hF f hf;have hd:spF [u,e,b]=(if 0<=e then[[u,e,b,1]]else[])++(if 0<e then[[u,e,b,-1]]else[]):=rfl;rw[hd];by_cases z:0<e
  ·rw[if_pos (by omega),if_pos z];show List.Pairwise _ [[u,e,b,1],[u,e,b,-1]];refine List.pairwise_pair.mpr λA B D hD hw a1 a2=>?_
   exact uy ⟨h1,h2,by omega,h4,h5,h6⟩ z hD hw a1 a2
  ·rw[if_neg z];split
   ·exact List.pairwise_singleton _ _
   ·exact List.Pairwise.nil
 ·rw[List.nodup_iff_pairwise_ne,Hm]at hn;refine hn.imp_of_mem λ{f g} hf hg hne x hx y hy A B D hD hw a1 a2=>hne ?_
  obtain⟨u,e,b,rfl,h1,h2,h3,h4,h5,h6,h7⟩:=hF f hf;obtain⟨u',e',b',rfl,h1',h2',h3',h4',h5',h6',h7'⟩:=hF g hg;obtain⟨_,s,rfl,he,hs⟩:=eC rfl h5 hx;obtain⟨_,s',rfl,he',hs'⟩:=eC rfl h5' hy;have F1:Fsm u e b:=⟨h1,h2,he,h4,h5,h6⟩;have F2:Fsm u' e' b':=⟨h1',h2',he',h4',h5',h6'⟩;exact vp F1 F2 h7 h7' (yG F1 F2 hD (qH F1 hs hD hw a1) (qH F2 hs' hD hw a2))
theorem fB{fs:List (List Int)}(hF:∀f∈fs,fw f){l:List Int}(hl:l∈spots fs):Spt l:=by obtain⟨f,hf,hm⟩:=List.mem_flatMap.mp hl;obtain⟨u,e,b,rfl,hb⟩:=hF f hf;exact(eC rfl hb hm).1
noncomputable def pv:List Int->Rat->Rat
 | [],_=>0
 |c::l,x=>(c:Rat)+x*pv l x
theorem p7:∀(N:Nat) (a b c:List Int) (u v:Int) (x:Rat),a.length<=N->b.length<=N->c.length<=N->(∀n,cf c n=u*cf a n+v*cf b n)->pv c x=(u:Rat)*pv a x+(v:Rat)*pv b x
 |0,a,b,c,u,v,x,ha,hb,hc,_=>by rw[Hn (GR.mp ha),Hn (GR.mp hb),Hn (GR.mp hc)];show(0:Rat)=u*0+v*0;grind
 |N+1,a,b,c,u,v,x,ha,hb,hc,h=>by
  have key:∀l:List Int,l.length<=N+1->pv l x=(cf l 0:Rat)+x*pv l.tail x/\l.tail.length<=N/\∀n,cf l.tail n=cf l (n+1):=λl hl=>by
   cases l with
   |nil=>exact⟨by show(0:Rat)=((0:Int):Rat)+x*0;grind,Fn _,λn=>by rw[bT];rfl⟩
   |cons y l=>exact⟨rfl,by simpa using hl,λn=>rfl⟩
  obtain⟨a1,a2,a3⟩:=key a ha;obtain⟨b1,b2,b3⟩:=key b hb;obtain⟨c1,c2,c3⟩:=key c hc;have ih:=p7 N a.tail b.tail c.tail u v x a2 b2 c2 λn=>by rw[a3,b3,c3,h]
  have h0:(cf c 0:Rat)=(u:Rat)*(cf a 0:Rat)+(v:Rat)*(cf b 0:Rat):=by rw[h 0,Gq,FK,FK]
  rw[a1,b1,c1,ih,h0];grind
theorem iz{a b c:List Int}{u v:Int}(x:Rat)(h:∀n,cf c n=u*cf a n+v*cf b n):pv c x=(u:Rat)*pv a x+(v:Rat)*pv b x :=
 p7 (a.length+b.length+c.length) a b c u v x (by omega) (by omega) (by omega) h
theorem gy{a c:List Int}{u:Int}(x:Rat)(h:∀n,cf c n=u*cf a n):pv c x=(u:Rat)*pv a x:=by
 have:=iz (a:=a) (b:=[]) (c:=c) (u:=u) (v:=0) x λn=>by rw[h n,FV,Gf]
 rw[this];show _+((0:Int):Rat)*0=_;grind
theorem p6(x:Rat):∀(a b c:List Int),(∀n,cf c n=ao a b n)->pv c x=pv a x*pv b x
 | [],b,c,h=>by
  have:=gy (a:=[]) (c:=c) (u:=0) x λn=>by rw[h n,cL];simp
  rw[this];show _=(0:Rat)*_;show((0:Int):Rat)*0=0*_;grind
 |y::a,b,c,h=>by
  have ih:=p6 x a b (ad a b) (aB a b)
  have:=iz (a:=b) (b:=0::ad a b) (c:=c) (u:=y) (v:=1) x λn=>by
   rw[h n,cy,gN,FJ]
   congr 1
   unfold up;split
   ·rfl
   ·rw[aB]
  rw[this];show(y:Rat)*pv b x+((1:Int):Rat)*(((0:Int):Rat)+x*pv (ad a b) x)=((y:Rat)+x*pv a x)*pv b x;rw[ih];grind
theorem eH{a b:Rat}(ha:0<a)(hb:0<b):0<a/b:=by rw[Rat.div_def];exact FU ha (Rat.inv_pos.mpr hb)
noncomputable def Bd(M v:Rat):Prop := -M<=v/\v<=M
theorem Bd.mul{M N u v:Rat}(h1:Bd M u)(h2:Bd N v):Bd (M*N) (u*v):=by obtain⟨a,b⟩:=h1;obtain⟨c,d⟩:=h2;have p1:0<=(M-u)*(N-v):=FC (by grind) (by grind);have p2:0<=(M+u)*(N+v):=FC (by grind) (by grind);have p3:0<=(M-u)*(N+v):=FC (by grind) (by grind);have p4:0<=(M+u)*(N-v):=FC (by grind) (by grind);constructor<;>grind
theorem Bd.add{M N u v:Rat}(h1:Bd M u)(h2:Bd N v):Bd (M+N) (u+v):=by obtain⟨a,b⟩:=h1;obtain⟨c,d⟩:=h2;constructor<;>grind
theorem Bd.mono{M N u:Rat}(h1:Bd M u)(h:M<=N):Bd N u:=by obtain⟨a,b⟩:=h1;constructor<;>grind
def Nice(f:Rat->Rat):Prop:=∀R:Rat,0<=R->∃M:Rat,0<=M/\(∀x,Bd R x->Bd M (f x))/\∀x y,Bd R x->Bd R y->x<=y->Bd (M*(y-x)) (f y-f x)
theorem fX(c:Rat):Nice λ_=>c:=λR _=>by
 rcases Gi (a:=0) (b:=c)with h |h
 ·exact⟨c,h,λx _=>⟨by grind,by grind⟩,λx y _ _ hxy=>by
   have:=FC h (show 0<=y-x by grind)
   exact⟨by grind,by grind⟩⟩
 ·exact⟨-c,by grind,λx _=>⟨by grind,by grind⟩,λx y _ _ hxy=>by
   have:=FC (show 0 <= -c by grind) (show 0<=y-x by grind)
   exact⟨by grind,by grind⟩⟩
theorem nice_id:Nice λx=>x:=λR hR=>by refine⟨R+1,by grind,λx h=>h.mono (by grind),λx y _ _ hxy=>?_⟩;have:=FC hR (show 0<=y-x by grind);exact⟨by grind,by grind⟩
theorem Nice.add{f g:Rat->Rat}(hf:Nice f)(hg:Nice g):Nice λx=>f x+g x:=λR hR=>by
 obtain⟨M,m0,m1,m2⟩:=hf R hR;obtain⟨N,n0,n1,n2⟩:=hg R hR;refine⟨M+N,by grind,λx h=>(m1 x h).add (n1 x h),λx y hx hy hxy=>?_⟩;have:=(m2 x y hx hy hxy).add (n2 x y hx hy hxy);have e1:M*(y-x)+N*(y-x)=(M+N)*(y-x):=by grind
 have e2:f y-f x+(g y-g x)=f y+g y-(f x+g x):=by grind
 rwa [e1,e2]at this
theorem Nice.mul{f g:Rat->Rat}(hf:Nice f)(hg:Nice g):Nice λx=>f x*g x:=λR hR=>by
 obtain⟨M,m0,m1,m2⟩:=hf R hR;obtain⟨N,n0,n1,n2⟩:=hg R hR;have p:=FC m0 n0;refine⟨2*(M*N),by grind,λx h=>((m1 x h).mul (n1 x h)).mono (by grind),λx y hx hy hxy=>?_⟩;have:=((m2 x y hx hy hxy).mul (n1 y hy)).add ((m1 x hx).mul (n2 x y hx hy hxy));have e1:M*(y-x)*N+M*(N*(y-x))=2*(M*N)*(y-x):=by grind
 have e2:(f y-f x)*g y+f x*(g y-g x)=f y*g y-f x*g x:=by grind
 rwa [e1,e2]at this
theorem dE:∀l:List Int,Nice (pv l)
 | []=>fX 0
 |c::l=>(fX (c:Rat)).add (nice_id.mul (dE l))
theorem pZ:∀(l:List Int) (R:Rat),0<=R->∃M:Rat,0<=M/\∀x y,Bd R x->Bd R y->x<=y->Bd (M*((y-x)*(y-x))) (pv l y-pv l x-(y-x)*pv (slopeL l) x)
 | [],R,_=>⟨0,by grind,λx y _ _ _=>by
  have e:pv [] y-pv [] x-(y-x)*pv (slopeL []) x=0:=by show(0:Rat)-0-(y-x)*0=0;grind
  rw[e];constructor<;>grind⟩
 |c::l,R,hR=>by
  obtain⟨M,m0,m1⟩:=pZ l R hR;obtain⟨N,n0,n1,n2⟩:=dE l R hR;have p:=FC hR m0;refine⟨N+R*M,by grind,λx y hx hy hxy=>?_⟩
  have hd:pv (slopeL (c::l)) x=pv l x+x*pv (slopeL l) x:=by
   have:=iz (a:=l) (b:=0::slopeL l) (c:=slopeL (c::l)) (u:=1) (v:=1) x λn=>o4 c l n
   rw[this];show((1:Int):Rat)*pv l x+((1:Int):Rat)*(((0:Int):Rat)+x*pv (slopeL l) x)=_;grind
  have hz:Bd (y-x) (y-x):=⟨by grind,by grind⟩;have:=(hz.mul (n2 x y hx hy hxy)).add (hx.mul (m1 x y hx hy hxy));have e1:(y-x)*(N*(y-x))+R*(M*((y-x)*(y-x)))=(N+R*M)*((y-x)*(y-x)):=by grind
  have e2:(y-x)*(pv l y-pv l x)+x*(pv l y-pv l x-(y-x)*pv (slopeL l) x)=pv (c::l) y-pv (c::l) x-(y-x)*pv (slopeL (c::l)) x:=by rw[hd];show _=((c:Rat)+y*pv l y)-((c:Rat)+x*pv l x)-_;grind
  rwa [e1,e2]at this
noncomputable def sgR(v:Rat):Int:=if v<0 then -1 else if 0<v then 1 else 0
theorem bS(v:Rat):(v<0/\sgR v = -1)\/(v=0/\sgR v=0)\/(0<v/\sgR v=1):=by
 unfold sgR;by_cases h:v<0
 ·exact .inl ⟨h,by rw[if_pos h]⟩
 ·by_cases h2:0<v
  ·exact .inr (.inr ⟨h2,by rw[if_neg h,if_pos h2]⟩)
  ·exact .inr (.inl ⟨by grind,by rw[if_neg h,if_neg h2]⟩)
def Sta(f:Rat->Rat)(x y:Rat):Prop:=sgR (f x)=sgR (f y)/\sgR (f x)≠0
theorem kK{f:Rat->Rat}{x y D:Rat}(h:¬Sta f x y)(hd:Bd D (f y-f x)):Bd D (f x)/\Bd D (f y):=by
 obtain⟨d1,d2⟩:=hd
 have key:(f x<=0/\0<=f y)\/(0<=f x/\f y<=0):=by
  rcases bS (f x)with⟨a,b⟩ |⟨a,b⟩ |⟨a,b⟩<;>rcases bS (f y)with⟨c,d⟩ |⟨c,d⟩ |⟨c,d⟩
  ·exact absurd ⟨by rw[b,d],by rw[b];decide⟩ h
  ·exact .inl ⟨by grind,by grind⟩
  ·exact .inl ⟨by grind,by grind⟩
  ·exact .inr ⟨by grind,by grind⟩
  ·exact .inl ⟨by grind,by grind⟩
  ·exact .inl ⟨by grind,by grind⟩
  ·exact .inr ⟨by grind,by grind⟩
  ·exact .inr ⟨by grind,by grind⟩
  ·exact absurd ⟨by rw[b,d],by rw[b];decide⟩ h
 rcases key with⟨a,b⟩ |⟨a,b⟩
 ·exact⟨⟨by grind,by grind⟩,⟨by grind,by grind⟩⟩
 ·exact⟨⟨by grind,by grind⟩,⟨by grind,by grind⟩⟩
inductive SRow:List (List Int)->Prop
 |last {c:Int} (h:c≠0):SRow [[c]]
 |two {a:List Int} {c:Int} (h:c≠0):SRow [a,[c]]
 |cons {a b c:List Int} {r:List (List Int)} {q:List Int} {α β:Rat} (hα:0<α) (hβ:0<β) (e:∀x,α*pv a x=pv q x*pv b x-β*pv c x) (h:SRow (b::c::r)):SRow (a::b::c::r)
theorem kA(c:Int)(x:Rat):pv [c] x=(c:Rat):=by show(c:Rat)+x*0=c;grind
theorem bez:∀{row:List (List Int)},SRow row->∀a b r,row=a::b::r->∃(A B:Rat->Rat) (k:Rat),Nice A/\Nice B/\k≠0/\∀x,A x*pv a x+B x*pv b x=k
 |_,.last h,a,b,r,e=>by cases e
 |_,.two (c:=c) h,a,b,r,e=>by cases e;refine⟨λ_=>0,λ_=>1,(c:Rat),fX 0,fX 1,λz=>h (Ho.mp (by rw[z];rfl)),λx=>?_⟩;rw[kA];grind
 |_,.cons (a:=a0) (b:=b0) (c:=c) (q:=q) (α:=α) (β:=β) hα hβ eq h,a,b,r,e=>by
  cases e;obtain⟨A,B,k,nA,nB,hk,hAB⟩:=bez h _ _ _ rfl;refine⟨λx=>(-α)*B x,λx=>β*A x+B x*pv q x,β*k,(fX (-α)).mul nB,((fX β).mul nA).add (nB.mul (dE q)),λz=>?_,λx=>?_⟩
  ·rcases Rat.mul_eq_zero.mp z with y |y
   ·grind
   ·exact hk y
  ·have h1:=hAB x;have h2:=eq x;have:(-α)*B x*pv a0 x+(β*A x+B x*pv q x)*pv b0 x=B x*(pv q x*pv b0 x-α*pv a0 x)+β*A x*pv b0 x:=by grind
   rw[this,h2];have:B x*(pv q x*pv b0 x-(pv q x*pv b0 x-β*pv c x))+β*A x*pv b0 x=β*(A x*pv b0 x+B x*pv c x):=by grind
   rw[this,h1]
theorem qr{a b:Rat->Rat}(na:Nice a)(nb:Nice b){A B:Rat->Rat}{k:Rat}(nA:Nice A)(nB:Nice B)(hk:0<k)(hAB:∀x,A x*a x+B x*b x=k\/A x*a x+B x*b x = -k){R:Rat}(hR:0<=R) :
 ∃(δ κ:Rat),0<δ/\0<κ/\∀x y,Bd R x->Bd R y->x<y->y-x<=δ->¬Sta a x y->Sta b x y/\(κ<=b x\/b x <= -κ)/\(κ<=b y\/b y <= -κ):=by
 obtain⟨M1,p1,q1,r1⟩:=na R hR;obtain⟨M2,p2,q2,r2⟩:=nb R hR;obtain⟨M3,p3,q3,_⟩:=nA R hR;obtain⟨M4,p4,q4,_⟩:=nB R hR;have h31:=FC p3 p1;have h42:=FC p4 p2;have hT:0<2*(M3*M1+M4*M2+1):=by grind
 have hT4:0<2*(M4+1):=by grind
 refine⟨k/(2*(M3*M1+M4*M2+1)),k/(2*(M4+1)),eH hk hT,eH hk hT4,λx y hx hy hxy hd hs=>?_⟩
 have hd':(y-x)*(2*(M3*M1+M4*M2+1))<=k:=by
  have:=FR hd (Fv hT)
  rwa [FM (by grind)]at this
 have hyx:0<y-x:=by grind
 obtain⟨a1,a2⟩:=kK hs (r1 x y hx hy (by grind));have hM1:0<=M1*(y-x):=FC p1 (Fv hyx)
 have far:∀z,Bd R z->Bd (M1*(y-x)) (a z)->k/(2*(M4+1))<=b z\/b z <= -(k/(2*(M4+1))):=λz hz ha=>by
  have e1:=(q3 z hz).mul ha
  have e2:2*(M3*(M1*(y-x)))<=k:=by have h1:=FC h42 (Fv hyx);grind
  have hB:(k<=2*(B z*b z))\/(2*(B z*b z) <= -k):=by
   obtain⟨f1,f2⟩:=e1;rcases hAB z with g |g
   ·left;grind
   ·right;grind
  rcases Gi (a:=k/(2*(M4+1))) (b:=b z)with g |g
  ·exact .inl g
  ·rcases Gi (a:=b z) (b := -(k/(2*(M4+1))))with g2 |g2
   ·exact .inr g2
   ·exfalso;have hb:Bd (k/(2*(M4+1))) (b z):=⟨g2,g⟩;obtain⟨f1,f2⟩:=(q4 z hz).mul hb
    have e3:2*(M4*(k/(2*(M4+1))))<k:=by
     have e4:k/(2*(M4+1))*(2*(M4+1))=k:=FM (by grind);have e5:=eH hk hT4;generalize k/(2*(M4+1))=w at *
     grind
    rcases hB with g3 |g3<;>grind
 refine⟨Classical.byContradiction λhs2=>?_,far x hx a1,far y hy a2⟩;obtain⟨b1,b2⟩:=kK hs2 (r2 x y hx hy (by grind));obtain⟨e1,e2⟩:=(q3 x hx).mul a1;obtain⟨e3,e4⟩:=(q4 x hx).mul b1;have hM:0<=(M3*M1+M4*M2)*(y-x):=FC (by grind) (Fv hyx);have e5:M3*(M1*(y-x))+M4*(M2*(y-x))=(M3*M1+M4*M2)*(y-x):=by grind
 have e6:(y-x)*(2*(M3*M1+M4*M2+1))=2*((M3*M1+M4*M2)*(y-x))+2*(y-x):=by grind
 rcases hAB x with g |g<;>grind
theorem tN{row:List (List Int)}(h:SRow row){a b:List Int}{r:List (List Int)}(e:row=a::b::r):∃(A B:Rat->Rat) (k:Rat),Nice A/\Nice B/\0<k/\∀x,A x*pv a x+B x*pv b x=k\/A x*pv a x+B x*pv b x = -k:=by
 obtain⟨A,B,k,nA,nB,hk,hAB⟩:=bez h a b r e;rcases Gi (a:=0) (b:=k)with g |g
 ·exact⟨A,B,k,nA,nB,by grind,λx=>.inl (hAB x)⟩
 ·exact⟨A,B,-k,nA,nB,by grind,λx=>.inr (by rw[hAB x];grind)⟩
noncomputable def vr:Int->List Int->Int
 |_,[]=>0
 |b,s::r=>(if s*b<0 then 1 else 0)+vr (if s=0 then b else s) r
theorem tj:∀(l:List Int) (n b:Int),l.foldl chF (n,b)=(n+vr b l,(l.foldl chF (n,b)).2)
 | [],n,b=>by show(n,b)=(n+0,b);rw[Gf]
 |s::r,n,b=>by
  show r.foldl chF (chF (n,b) s)=(n+((if s*b<0 then 1 else 0)+vr (if s=0 then b else s) r),(r.foldl chF (chF (n,b) s)).2)
  have e:chF (n,b) s=(n+(if s*b<0 then 1 else 0),if s=0 then b else s):=by
   unfold chF;by_cases h:s*b<0
   ·rw[if_pos h,if_pos h]
   ·rw[if_neg h,if_neg h,Gf]
  rw[e];have:=tj r (n+(if s*b<0 then 1 else 0)) (if s=0 then b else s);rw[Int.add_assoc]at this;exact this
theorem tz(l:List Int):(chS l).1=vr 0 l:=by unfold chS;rw[tj l 0 0];show 0+vr 0 l=_;omega
def dm(s:Int):Prop:=s=1\/s=0\/s = -1
inductive Al:Int->List Int->List Int->Prop
 |nil {b:Int}:Al b [] []
 |stab {b s:Int} {r r':List Int} (h:s≠0) (t:Al s r r'):Al b (s::r) (s::r')
 |unst {b s s':Int} {r r':List Int} (h1:dm s) (h2:dm s') (t:Al (-b) r r'):Al b (s :: -b::r) (s' :: -b::r')
theorem nE{b s:Int}(hb:b=1\/b = -1)(hs:dm s)(r:List Int):vr b (s :: -b::r)=1+vr (-b) r:=by
 have hb0:¬(-b=0):=by omega
 rcases hs with rfl |rfl |rfl
 ·rcases hb with rfl |rfl<;>simp[vr]
 ·rcases hb with rfl |rfl<;>simp[vr]
 ·rcases hb with rfl |rfl<;>simp[vr]
theorem Al.vr:∀{b:Int} {r r':List Int},Al b r r'->(b=1\/b = -1)->(∀s∈r,dm s)->RM.vr b r=RM.vr b r'
 |_,_,_,.nil,_,_=>rfl
 |b,_,_,.stab (s:=s) (r:=r) (r':=r') h t,hb,hu=>by
  have hs:dm s:=hu s (Fx ..);have hs':s=1\/s = -1:=by rcases hs with z |z |z;exact .inl z;exact absurd z h;exact .inr z
  have ih:=Al.vr t hs' λx hx=>hu x (Fs _ hx)
  show _+RM.vr (if s=0 then b else s) r=_+RM.vr (if s=0 then b else s) r';rw[if_neg h,ih]
 |b,_,_,.unst h1 h2 t,hb,hu=>by
  have ih:=Al.vr t (by omega) λx hx=>hu x (Fs _ (Fs _ hx))
  rw[nE hb h1,nE hb h2,ih]
noncomputable def sgX(row:List (List Int))(x:Rat):List Int:=row.map λf=>sgR (pv f x)
theorem ib(v:Rat):dm (sgR v):=by
 rcases bS v with⟨_,h⟩ |⟨_,h⟩ |⟨_,h⟩<;>rw[h]
 ·exact .inr (.inr rfl)
 ·exact .inr (.inl rfl)
 ·exact .inl rfl
theorem pe(row:List (List Int))(x:Rat):∀s∈sgX row x,dm s:=λs hs=>by obtain⟨f,_,rfl⟩:=Fo.mp hs;exact ib _
def ud(row:List (List Int))(R:Rat):Prop:=∃δ:Rat,0<δ/\∀x y,Bd R x->Bd R y->x<y->y-x<=δ->∀a r,row=a::r->Sta (pv a) x y->Al (sgR (pv a x)) (sgX r x) (sgX r y)
theorem vB{c:Int}(h:c≠0):sgR (c:Rat)≠0:=by
 rcases bS (c:Rat)with⟨_,e⟩ |⟨z,_⟩ |⟨_,e⟩
 ·rw[e];decide
 ·exact absurd (Ho.mp (by rw[z];rfl)) h
 ·rw[e];decide
theorem rd:∀{row:List (List Int)},SRow row->∀R:Rat,0<=R->ud row R/\ud row.tail R
 |_,.last h,R,_=>⟨⟨1,by grind,λx y _ _ _ _ a r e _=>by cases e;exact .nil⟩,⟨1,by grind,λx y _ _ _ _ a r e _=>by cases e⟩⟩
 |_,.two (c:=c) h,R,_=>by refine⟨⟨1,by grind,λx y _ _ _ _ a r e _=>?_⟩,⟨1,by grind,λx y _ _ _ _ a r e _=>by cases e;exact .nil⟩⟩;cases e;show Al _ [sgR (pv [c] x)] [sgR (pv [c] y)];rw[kA,kA];exact .stab (vB h) .nil
 |_,.cons (a:=a) (b:=b) (c:=c) (r:=r) (q:=q) (α:=α) (β:=β) hα hβ eq h,R,hR=>by
  obtain⟨⟨δ1,d1,l1⟩,⟨δ2,d2,l2⟩⟩:=rd h R hR;refine⟨?_,⟨δ1,d1,l1⟩⟩;obtain⟨A,B,k,nA,nB,hk,hAB⟩:=tN h rfl;obtain⟨δ3,κ,d3,hκ,l3⟩:=qr (dE b) (dE c) nA nB hk hAB hR;obtain⟨M,m0,m1,m2⟩:=dE b R hR;obtain⟨N,n0,n1,_⟩:=dE q R hR;have hMN:=FC n0 m0;have hT:0<N*M+1:=by grind
  have hβκ:=FU hβ hκ
  obtain⟨δ,hδ,g1,g2,g3,g4⟩:∃δ:Rat,0<δ/\δ<=δ1/\δ<=δ2/\δ<=δ3/\δ*(N*M+1)<=β*κ:=by
   have hw:=eH hβκ hT;have hw2:β*κ/(N*M+1)*(N*M+1)=β*κ:=FM (by grind)
   have two:∀u v:Rat,0<u->0<v->∃w:Rat,0<w/\w<=u/\w<=v:=λu v hu hv=>by
    rcases Gi (a:=u) (b:=v)with z |z
    ·exact⟨u,hu,Rat.le_refl,z⟩
    ·exact⟨v,hv,z,Rat.le_refl⟩
   obtain⟨u,hu,u1,u2⟩:=two δ1 δ2 d1 d2;obtain⟨v,hv,v1,v2⟩:=two u δ3 hu d3;obtain⟨w,hw',w1,w2⟩:=two v _ hv hw;refine⟨w,hw',by grind,by grind,by grind,?_⟩;have:=FR w2 (Fv hT)
   rwa [hw2]at this
  refine⟨δ,hδ,λx y hx hy hxy hd a' r' e sa=>?_⟩;cases e;show Al (sgR (pv a x)) (sgR (pv b x)::sgX (c::r) x) (sgR (pv b y)::sgX (c::r) y);by_cases sb:Sta (pv b) x y
  ·have t:=l1 x y hx hy hxy (by grind) b (c::r) rfl sb;rw[<- sb.1];exact .stab sb.2 t
  ·obtain⟨sc,c1,c2⟩:=l3 x y hx hy hxy (by grind) sb;obtain⟨b1,_⟩:=kK sb (m2 x y hx hy (by grind));have hyx:0<y-x:=by grind
   have hop:sgR (pv c x) = -sgR (pv a x):=by
    obtain⟨f1,f2⟩:=(n1 x hx).mul b1;have e1:=eq x
    have e2:N*(M*(y-x))<β*κ:=by have h1:(y-x)*(N*M+1)<=δ*(N*M+1):=FR hd (Fv hT);grind
    rcases c1 with z |z
    ·have h2:β*κ<=β*pv c x:=GS z (Fv hβ);have h3:α*pv a x<0:=by grind
     have h4:pv a x<0:=by
      rcases Gi (a:=0) (b:=pv a x)with w |w
      ·have:=FC (Fv hα) w;grind
      ·rcases bS (pv a x)with⟨w2,_⟩ |⟨w2,_⟩ |⟨w2,_⟩
       ·exact w2
       ·rw[w2]at h3;grind
       ·grind
     rcases bS (pv c x)with⟨w,_⟩ |⟨w,_⟩ |⟨_,w⟩
     ·grind
     ·grind
     ·rcases bS (pv a x)with⟨_,v⟩ |⟨v,_⟩ |⟨v,_⟩
      ·rw[w,v];decide
      ·grind
      ·grind
    ·have h2:β*pv c x<=β*(-κ):=GS z (Fv hβ);have h3:0<α*pv a x:=by grind
     have h4:0<pv a x:=by
      rcases bS (pv a x)with⟨w2,_⟩ |⟨w2,_⟩ |⟨w2,_⟩
      ·have:=FC (Fv hα) (show 0 <= -pv a x by grind);grind
      ·rw[w2]at h3;grind
      ·exact w2
     rcases bS (pv c x)with⟨_,w⟩ |⟨w,_⟩ |⟨w,_⟩
     ·rcases bS (pv a x)with⟨v,_⟩ |⟨v,_⟩ |⟨_,v⟩
      ·grind
      ·grind
      ·rw[w,v]
     ·grind
     ·grind
   have hop':sgR (pv c y) = -sgR (pv a x):=by rw[<- sc.1];exact hop
   have t:Al (sgR (pv c x)) (sgX r x) (sgX r y):=l2 x y hx hy hxy (by grind) c r rfl sc;rw[hop]at t;show Al _ (_::sgR (pv c x)::sgX r x) (_::sgR (pv c y)::sgX r y);rw[hop,hop'];exact .unst (ib _) (ib _) t
noncomputable def chg(f:Rat->Rat)(x y:Rat):Int:=if sgR (f x)≠0/\sgR (f y)≠sgR (f x)then 1 else 0
noncomputable def vrs(row:List (List Int))(x:Rat):Int:=vr 0 (sgX row x)
theorem ur{s:Int}(r:List Int):vr 0 (s::r)=vr s r:=by
 show(if s*0<0 then 1 else 0)+vr (if s=0 then 0 else s) r=_;rw[Fy,if_neg (by decide),Gv];split
 ·rename_i h;rw[h]
 ·rfl
theorem uW{F0 F1:List Int}{r:List (List Int)}(h:SRow (F0::F1::r)){γ:Rat}(hγ:0<γ)(hd:∀x,pv (slopeL F0) x=γ*pv F1 x){R:Rat}(hR:0<=R) :
 ∃δ:Rat,0<δ/\∀x y,Bd R x->Bd R y->x<y->y-x<=δ->vrs (F0::F1::r) x-vrs (F0::F1::r) y=chg (pv F0) x y:=by
 obtain⟨⟨δ1,d1,l1⟩,⟨δ2,d2,l2⟩⟩:=rd h R hR;obtain⟨A,B,k,nA,nB,hk,hAB⟩:=tN h rfl;obtain⟨δ3,κ,d3,hκ,l3⟩:=qr (dE F0) (dE F1) nA nB hk hAB hR;obtain⟨M,m0,m1⟩:=pZ F0 R hR;have hγκ:=FU hγ hκ
 obtain⟨δ,hδ,g1,g2,g3,g4⟩:∃δ:Rat,0<δ/\δ<=δ1/\δ<=δ2/\δ<=δ3/\δ*(M+1)<=γ*κ:=by
  have hT:0<M+1:=by grind
  have hw:=eH hγκ hT;have hw2:γ*κ/(M+1)*(M+1)=γ*κ:=FM (by grind)
  have two:∀u v:Rat,0<u->0<v->∃w:Rat,0<w/\w<=u/\w<=v:=λu v hu hv=>by
   rcases Gi (a:=u) (b:=v)with z |z
   ·exact⟨u,hu,Rat.le_refl,z⟩
   ·exact⟨v,hv,z,Rat.le_refl⟩
  obtain⟨u,hu,u1,u2⟩:=two δ1 δ2 d1 d2;obtain⟨v,hv,v1,v2⟩:=two u δ3 hu d3;obtain⟨w,hw',w1,w2⟩:=two v _ hv hw;refine⟨w,hw',by grind,by grind,by grind,?_⟩;have:=FR w2 (Fv hT)
  rwa [hw2]at this
 refine⟨δ,hδ,λx y hx hy hxy hyd=>?_⟩;have e0:∀z,vrs (F0::F1::r) z=vr (sgR (pv F0 z)) (sgX (F1::r) z):=λz=>ur _
 have nz:∀{v:Rat},sgR v≠0->sgR v=1\/sgR v = -1:=λ{v} hv=>by rcases ib v with z |z |z;exact .inl z;exact absurd z hv;exact .inr z
 rw[e0,e0];by_cases s0:Sta (pv F0) x y
 ·have t:=(l1 x y hx hy hxy (by grind) F0 (F1::r) rfl s0).vr (nz s0.2) (pe _ _);rw[<- s0.1,t];unfold chg;rw[if_neg (λz=>z.2 s0.1.symm)];omega
 ·obtain⟨s1,c1,c2⟩:=l3 x y hx hy hxy (by grind) s0;have t:=(l2 x y hx hy hxy (by grind) F1 r rfl s1).vr (nz s1.2) (pe _ _);have hyx:0<y-x:=by grind
  have hyy:0<(y-x)*(y-x):=FU hyx hyx;obtain⟨f1,f2⟩:=m1 x y hx hy (by grind)
  have small:M*((y-x)*(y-x))<(y-x)*(γ*κ):=by
   have h1:(y-x)*(M+1)<=γ*κ:=by have:=FR hyd (show 0<=M+1 by grind);grind
   have h2:(y-x)*((y-x)*(M+1))<=(y-x)*(γ*κ):=GS h1 (Fv hyx);grind
  rw[hd]at f1 f2;show vr (sgR (pv F0 x)) (sgR (pv F1 x)::sgX r x)-vr (sgR (pv F0 y)) (sgR (pv F1 y)::sgX r y)=_
  have hu:∀(b s:Int) (l:List Int),s≠0->vr b (s::l)=(if s*b<0 then 1 else 0)+vr s l:=λb s l hs=>by show _+vr (if s=0 then b else s) l=_;rw[if_neg hs]
  have s1':sgR (pv F1 y)=sgR (pv F1 x):=s1.1.symm;rw[s1',hu _ _ _ s1.2,hu _ _ _ s1.2,t];unfold chg;rcases c1 with z |z
  ·
   have h1:γ*κ<=γ*pv F1 x:=GS z (Fv hγ);have h2:(y-x)*(γ*κ)<=(y-x)*(γ*pv F1 x):=GS h1 (Fv hyx);have rise:pv F0 x<pv F0 y:=by grind
   have s1p:sgR (pv F1 x)=1:=by
    rcases bS (pv F1 x)with⟨w,_⟩ |⟨w,_⟩ |⟨_,w⟩
    ·grind
    ·grind
    ·exact w
   rw[s1p];rcases bS (pv F0 x)with⟨a1,a2⟩ |⟨a1,a2⟩ |⟨a1,a2⟩<;>rcases bS (pv F0 y)with⟨b1,b2⟩ |⟨b1,b2⟩ |⟨b1,b2⟩
   ·exact absurd ⟨by rw[a2,b2],by rw[a2];decide⟩ s0
   ·rw[a2,b2];simp
   ·rw[a2,b2];simp
   ·grind
   ·grind
   ·rw[a2,b2];simp
   ·grind
   ·grind
   ·exact absurd ⟨by rw[a2,b2],by rw[a2];decide⟩ s0
  ·have h1:γ*pv F1 x<=γ*(-κ):=GS z (Fv hγ);have h2:(y-x)*(γ*pv F1 x)<=(y-x)*(γ*(-κ)):=GS h1 (Fv hyx);have fall:pv F0 y<pv F0 x:=by grind
   have s1p:sgR (pv F1 x) = -1:=by
    rcases bS (pv F1 x)with⟨_,w⟩ |⟨w,_⟩ |⟨w,_⟩
    ·exact w
    ·grind
    ·grind
   rw[s1p];rcases bS (pv F0 x)with⟨a1,a2⟩ |⟨a1,a2⟩ |⟨a1,a2⟩<;>rcases bS (pv F0 y)with⟨b1,b2⟩ |⟨b1,b2⟩ |⟨b1,b2⟩
   ·exact absurd ⟨by rw[a2,b2],by rw[a2];decide⟩ s0
   ·grind
   ·grind
   ·rw[a2,b2];simp
   ·grind
   ·grind
   ·rw[a2,b2];simp
   ·rw[a2,b2];simp
   ·exact absurd ⟨by rw[a2,b2],by rw[a2];decide⟩ s0
structure Cut(s:Rat->Int):Prop where
 u:∀x,dm (s x)
 m:∀x y,x<y->s x<=0->s y = -1
noncomputable def cnt(S:List (Rat->Int))(x y:Rat):Int:=(S.map λs=>if 0<s x/\s y<=0 then(1:Int)else 0).sum
theorem BN(x y:Rat):cnt [] x y=0:=rfl
theorem fi(s:Rat->Int)(S:List (Rat->Int))(x y:Rat):cnt (s::S) x y=(if 0<s x/\s y<=0 then 1 else 0)+cnt S x y:=by unfold cnt;rw[FZ,List.sum_cons]
theorem tf{x y z:Rat}(hxy:x<y)(hyz:y<z):∀{S:List (Rat->Int)},(∀s∈S,Cut s)->cnt S x z=cnt S x y+cnt S y z
 | [],_=>rfl
 |s::S,h=>by
  have hs:=h s (Fx ..);have ih:=tf hxy hyz (S:=S) λt ht=>h t (Fs _ ht)
  rw[fi,fi,fi,ih]
  have e:(if 0<s x/\s z<=0 then(1:Int)else 0)=(if 0<s x/\s y<=0 then 1 else 0)+(if 0<s y/\s z<=0 then 1 else 0):=by
   by_cases hy:s y<=0
   ·have hz:=hs.m y z hyz hy;rw[if_neg (show ¬(0<s y/\s z<=0) by omega)];by_cases hx:0<s x
    ·rw[if_pos ⟨hx,by omega⟩,if_pos ⟨hx,hy⟩];rfl
    ·rw[if_neg (by omega),if_neg (by omega)];rfl
   ·have hx:0<s x:=by
     rcases G4 0 (s x)with q |q
     ·exact q
     ·have:=hs.m x y hxy q;omega
    rw[if_neg (show ¬(0<s x/\s y<=0) by omega)];by_cases hz:s z<=0
    ·rw[if_pos ⟨hx,hz⟩,if_pos ⟨by omega,hz⟩];rfl
    ·rw[if_neg (by omega),if_neg (by omega)];rfl
  rw[e];omega
noncomputable def cpr(x:Rat):List (Rat->Int)->Int
 | []=>1
 |s::S => -s x*cpr x S
theorem ja(x:Rat):∀a b,cpr x (a++b)=cpr x a*cpr x b
 | [],b=>by show _=1*_;rw[FJ];rfl
 |s::a,b=>by show _*cpr x (a++b)=_*_*_;rw[ja x a b,Gn]
def inC(s:Rat->Int)(x y:Rat):Prop:=0<=s x/\s y<=0
theorem zQ{s:Rat->Int}(h:Cut s){x y:Rat}(hxy:x<y)(hn:¬inC s x y):s x=s y/\(s x=1\/s x = -1):=by
 have h1:=h.u x;have h2:=h.u y;unfold inC at hn
 by_cases hx:s x<=0
 ·have:=h.m x y hxy hx;rcases h1 with a |a |a<;>omega
 ·rcases h1 with a |a |a
  ·rcases h2 with b |b |b<;>omega
  ·omega
  ·omega
theorem lg{x y:Rat}(hxy:x<y):∀{S:List (Rat->Int)},(∀s∈S,Cut s)->(∀s∈S,¬inC s x y)->cpr x S=cpr y S/\(cpr x S=1\/cpr x S = -1)/\cnt S x y=0
 | [],_,_=>⟨rfl,.inl rfl,rfl⟩
 |s::S,h,hn=>by
  obtain⟨i1,i2,i3⟩:=lg hxy (S:=S) (λt ht=>h t (Fs _ ht)) λt ht=>hn t (Fs _ ht)
  obtain⟨a1,a2⟩:=zQ (h s (Fx ..)) hxy (hn s (Fx ..));refine⟨by show -s x*cpr x S = -s y*cpr y S;rw[a1,i1],?_,?_⟩
  ·show -s x*cpr x S=1 \/ -s x*cpr x S = -1;rcases a2 with z |z<;>rcases i2 with w |w<;>rw[z,w]<;>decide
  ·rw[fi,i3,if_neg (by omega)];rfl
theorem mj(x y:Rat):∀a b,cnt (a++b) x y=cnt a x y+cnt b x y
 | [],b=>by rw[BN];simp
 |s::a,b=>by rw[List.cons_append,fi,fi,mj x y a b];omega
theorem BO{f:Rat->Rat}{S:List (Rat->Int)}{ε:Int}(hε:ε=1\/ε = -1)(hS:∀s∈S,Cut s){x y:Rat}(hxy:x<y)(hx:sgR (f x)=ε*cpr x S)(hy:sgR (f y)=ε*cpr y S)(hp:S.Pairwise λs t=>¬(inC s x y/\inC t x y)):chg f x y=cnt S x y:=by
 by_cases hall:∀s∈S,¬inC s x y
 ·obtain⟨k1,k2,k3⟩:=lg hxy hS hall;rw[k3];unfold chg;rw[if_neg];rintro⟨_,h2⟩;exact h2 (by rw[hx,hy,k1])
 ·obtain⟨s,hs,hin⟩:∃s,s∈S/\inC s x y:=by refine Classical.byContradiction λz=>hall λs hs hi=>z ⟨s,hs,hi⟩
  obtain⟨pre,post,rfl⟩:=List.append_of_mem hs
  have hno:∀t∈pre++post,¬inC t x y:=λt ht hi=>by
   rw[List.pairwise_append]at hp;rcases FY.mp ht with z |z
   ·exact hp.2.2 t z s (Fx ..) ⟨hi,hin⟩
   ·exact(Hy.mp hp.2.1).1 t z ⟨hin,hi⟩
  have hS':∀t∈pre++post,Cut t:=λt ht=>hS t (by
   rcases FY.mp ht with z |z
   ·exact GJ _ z
   ·exact FO _ (Fs _ z))
  obtain⟨k1,k2,k3⟩:=lg hxy hS' hno;have hc:=hS s hs
  have e1:∀z,cpr z (pre++s::post)=cpr z (pre++post) * -s z:=λz=>by rw[ja,ja];show cpr z pre*(-s z*cpr z post)=_;rw[FX (-s z),Gn]
  have e2:cnt (pre++s::post) x y=(if 0<s x/\s y<=0 then 1 else 0):=by rw[mj,fi];rw[mj]at k3;omega
  rw[e1]at hx hy;rw[<- k1]at hy;rw[e2];unfold inC at hin
  have h1:=hc.u x;have h2:=hc.u y;unfold chg;rw[hx,hy];generalize cpr x (pre++post)=c at *
  have hs0:s x=0->s y = -1:=λz=>hc.m x y hxy (by omega)
  rcases h1 with a |a |a
  ·rw[a];rcases h2 with b |b |b
   ·omega
   ·rw[b];rcases hε with rfl |rfl<;>rcases k2 with rfl |rfl<;>simp
   ·rw[b];rcases hε with rfl |rfl<;>rcases k2 with rfl |rfl<;>simp
  ·rw[a];simp
  ·omega
theorem t8(q:Rat):∃n:Nat,q<=(n:Rat):=by refine⟨q.ceil.toNat,Rat.le_trans (Rat.le_ceil (x:=q)) ?_⟩;have h:q.ceil<=(q.ceil.toNat:Int):=Int.self_le_toNat _;have h2:=Rat.intCast_le_intCast.mpr h;exact h2
theorem yJ(n:Nat):(n:Rat)<=2^n:=by
 induction n with
 |zero=>decide
 |succ n ih =>
  have h1:((1:Nat):Rat)<=2^n:=by
   have:(1:Nat)<=2^n:=Nat.pow_pos (by decide);have h2:((1:Nat):Rat)<=((2^n:Nat):Rat):=Rat.natCast_le_natCast.mpr this
   rwa [Rat.natCast_pow]at h2
  rw[Rat.pow_succ,Rat.natCast_add];grind
theorem mC{V:Rat->Int}{S:List (Rat->Int)}(hS:∀s∈S,Cut s){R δ:Rat}(hδ:0<δ)(h:∀x y,Bd R x->Bd R y->x<y->y-x<=δ->V x-V y=cnt S x y):∀(n:Nat) (x y:Rat),Bd R x->Bd R y->x<y->y-x<=2^n*δ->V x-V y=cnt S x y
 |0,x,y,hx,hy,hxy,hd=>h x y hx hy hxy (by rw[Rat.pow_zero]at hd;grind)
 |n+1,x,y,hx,hy,hxy,hd=>by
  have m1:x<(x+y)/2:=by grind
  have m2:(x+y)/2<y:=by grind
  have hm:Bd R ((x+y)/2):=by obtain⟨a,b⟩:=hx;obtain⟨c,d⟩:=hy;constructor<;>grind
  rw[Rat.pow_succ]at hd;have i1:=mC hS hδ h n x ((x+y)/2) hx hm m1 (by grind);have i2:=mC hS hδ h n ((x+y)/2) y hm hy m2 (by grind);rw[tf m1 m2 hS];omega
theorem uX{F0 F1:List Int}{r:List (List Int)}(h:SRow (F0::F1::r)){γ:Rat}(hγ:0<γ)(hd:∀x,pv (slopeL F0) x=γ*pv F1 x){S:List (Rat->Int)}(hS:∀s∈S,Cut s){ε:Int}(hε:ε=1\/ε = -1)(hf:∀x,sgR (pv F0 x)=ε*cpr x S)
 {δ0:Rat} (hδ0:0<δ0) (hp:∀x y,x<y->y-x<=δ0->S.Pairwise λs t=>¬(inC s x y/\inC t x y)) {x y:Rat} (hxy:x<y):vrs (F0::F1::r) x-vrs (F0::F1::r) y=cnt S x y:=by
 obtain⟨R,hR,hx,hy⟩:∃R:Rat,0<=R/\Bd R x/\Bd R y:=by
  have ab:∀v:Rat,∃w:Rat,0<=w/\Bd w v:=λv=>by
   rcases Gi (a:=0) (b:=v)with z |z
   ·exact⟨v,z,by grind,by grind⟩
   ·exact⟨-v,by grind,by grind,by grind⟩
  obtain⟨u,u0,u1⟩:=ab x;obtain⟨v,v0,v1⟩:=ab y;exact⟨u+v,by grind,u1.mono (by grind),v1.mono (by grind)⟩
 obtain⟨δ1,d1,l1⟩:=uW h hγ hd hR
 obtain⟨δ,hδ,g1,g2⟩:∃δ:Rat,0<δ/\δ<=δ0/\δ<=δ1:=by
  rcases Gi (a:=δ0) (b:=δ1)with z |z
  ·exact⟨δ0,hδ0,Rat.le_refl,z⟩
  ·exact⟨δ1,d1,z,Rat.le_refl⟩
 obtain⟨n,hn⟩:=t8 ((y-x)/δ);refine mC hS hδ (R:=R) (λx y hx hy hxy hdd=>?_) n x y hx hy hxy ?_
 ·rw[l1 x y hx hy hxy (by grind)];exact BO hε hS hxy (hf x) (hf y) (hp x y hxy (by grind))
 ·have h1:(y-x)/δ<=2^n:=Rat.le_trans hn (yJ n);have h2:=FR h1 (Fv hδ)
  rwa [FM (by grind)]at h2
theorem lF{n:Int}(hn:n≠0):(n:Rat)≠0:=λz=>hn (Ho.mp (show((n:Int):Rat)=((0:Int):Rat) by rw[z];rfl))
theorem qA(q:Rat):(q.num:Rat)=q*((q.den:Int):Rat):=by
 have hd:((q.den:Int):Rat)≠0:=lF (by have:=q.den_pos;omega)
 have hx:(q.num:Rat)/((q.den:Int):Rat)=q:=by have:=Rat.mkRat_self q;rw[Rat.mkRat_eq_div]at this;exact this
 have:=FM (a:=(q.num:Rat)) hd;rw[hx]at this;exact this.symm
theorem pN{t n:Int}(hn:0<n):((t:Rat)/(n:Rat)).num*n=t*(((t:Rat)/(n:Rat)).den:Int):=by
 have hn':(n:Rat)≠0:=lF (by omega);have hq:(t:Rat)/(n:Rat)*(n:Rat)=(t:Rat):=FM hn';generalize (t:Rat)/(n:Rat)=q at hq ⊢
 apply Ho.mp;rw[FK,FK,qA q,<- hq];grind
theorem cR{t n t' n':Int}(hn:0<n)(hn':0<n'):(t:Rat)/(n:Rat)<(t':Rat)/(n':Rat)↔t*n'<t'*n:=by
 have p1:(0:Rat)<(n:Rat):=FN.mpr hn;have p2:(0:Rat)<(n':Rat):=FN.mpr hn';have e1:(t:Rat)/(n:Rat)*(n:Rat)=(t:Rat):=FM (by grind);have e2:(t':Rat)/(n':Rat)*(n':Rat)=(t':Rat):=FM (by grind);generalize (t:Rat)/(n:Rat)=q at e1 ⊢
 generalize (t':Rat)/(n':Rat)=q' at e2 ⊢
 rw[<- FN,FK,FK,<- e1,<- e2];have p3:=FU p1 p2;have e3:q*(n:Rat)*(n':Rat)=q*((n:Rat)*(n':Rat)):=by grind
 have e4:q'*(n':Rat)*(n:Rat)=q'*((n:Rat)*(n':Rat)):=by grind
 rw[e3,e4];constructor
 ·intro h;exact Hq h p3
 ·intro h;refine GH.mp λz=>?_
  have:=FR z (Fv p3);grind
theorem ph{p v:Rat}(hp:0<p):sgR (p*v)=sgR v:=by
 rcases bS v with⟨a,b⟩ |⟨a,b⟩ |⟨a,b⟩
 ·have:p*v<0:=by have:=FU hp (show 0 < -v by grind);grind
  rcases bS (p*v)with⟨_,d⟩ |⟨c,d⟩ |⟨c,d⟩
  ·rw[b,d]
  ·grind
  ·grind
 ·rw[a];have:p*0=0:=by grind
  rw[this]
 ·have:=FU hp a;rcases bS (p*v)with⟨c,d⟩ |⟨c,d⟩ |⟨_,d⟩
  ·grind
  ·grind
  ·rw[b,d]
theorem vA(z:Int):sgR (z:Rat)=sg z:=by
 rcases bS (z:Rat)with⟨a,b⟩ |⟨a,b⟩ |⟨a,b⟩
 ·have:z<0:=FN.mp a;rw[b];unfold sg;rw[if_pos this]
 ·have:z=0:=Ho.mp a;rw[this];rfl
 ·have:0<z:=FN.mp a;rw[b];unfold sg;rw[if_neg (by omega),if_pos this]
theorem rN{t n:Int}(hn:0<n):∀l:List Int,(hv t n l:Rat)=(n:Rat)^l.length*pv l ((t:Rat)/(n:Rat))
 | []=>by show((0:Int):Rat)=_*0;grind
 |c::l=>by
  have hn':(n:Rat)≠0:=lF (by omega);have hq:(t:Rat)/(n:Rat)*(n:Rat)=(t:Rat):=FM hn';rw[cW,Gq,FK,FK,rN hn l,Rat.intCast_pow];show _=(n:Rat)^(l.length+1)*((c:Rat)+(t:Rat)/(n:Rat)*pv l ((t:Rat)/(n:Rat)));rw[Rat.pow_succ];generalize hqq:(t:Rat)/(n:Rat)=q at *
  rw[<- hq];grind
theorem dw{t n:Int}(hn:0<n)(l:List Int):sg (hv t n l)=sgR (pv l ((t:Rat)/(n:Rat))):=by rw[<- vA,rN hn];exact ph (Rat.pow_pos (FN.mpr hn))
def Cop2(a b:List Int):Prop:=∀d,d≠[]->Tr d->Dv d a->Dv d b->d.length<=1
theorem qz{one other:List Int}(ho:other≠[]):∀n,aF one other*cf one n=ao (aH one other) other n-(ai (aT [] (aj one other)):Int)*cf (nxt one other) n:=λn=>by
 have h1:=dN (a:=one) ho n;have e:nxt one other=ah (aT [] (aj one other)):=by unfold nxt rst;rw[if_neg ho]
 have h2:=congrArg (λl=>cf l n) (gv (l:=aT [] (aj one other)));simp only[bh]at h2
 have h3:cf (aT [] (aj one other)) n = -cf (aj one other) n:=by rw[g6 (dZ _ _),bh];omega
 rw[e,h2,h3,h1];omega
theorem nO(one other:List Int):Tr (nxt one other):=by unfold nxt;exact cZ (by unfold aT;exact bZ _)
theorem iD{one other:List Int}(ho:other≠[]):(nxt one other).length<other.length:=by
 have h1:=dg (a:=one) ho;unfold nxt rst;rw[if_neg ho,g6 (dZ _ _)]
 have h2:(ah (scL (-1) (aj one other))).length<=(scL (-1) (aj one other)).length:=by unfold ah;rw[Fk];exact Fl _
 rw[b6]at h2;omega
theorem ld{l:List Int}(h:l.length<=1)(hne:l≠[]):∃c,l=[c]:=List.length_eq_one_iff.mp (by have:=Fm.mpr hne;omega)
theorem kv:∀(n:Nat) (one other:List Int),other.length<=n->Tr one->one≠[]->Tr other->Cop2 one other->SRow (aO (n+1) one other)
 |0,one,other,hl,to,no,tt,hc=>by have e0:other=[]:=Hn (GR.mp hl);subst e0;have h1:=hc one no to (Dv.refl _) (Dv.nil _);obtain⟨c,rfl⟩:=ld h1 no;show SRow (if([c]:List Int)=[]then _ else[c]::aO 0 [] (nxt [c] []));rw[if_neg no];exact .last (tr_snoc (r:=[]) |>.mp to)
 |n+1,one,other,hl,to,no,tt,hc=>by
  have e:aO (n+1+1) one other=one::aO (n+1) other (nxt one other):=by show(if one=[]then _ else _)=_;rw[if_neg no]
  rw[e];by_cases ho:other=[]
  ·subst ho;have h1:=hc one no to (Dv.refl _) (Dv.nil _);obtain⟨c,rfl⟩:=ld h1 no;rw[fI];exact .last (tr_snoc (r:=[]) |>.mp to)
  have hs:=qz (one:=one) ho;have hlen:=iD (one:=one) ho;have tn:=nO one other;have fp:0<aF one other:=sN ho tt;by_cases hn:nxt one other=[]
  ·
   have hdv:Dv other one:=⟨aF one other,aH one other,by omega,λk=>by rw[hs k,hn,bT];omega⟩;have h1:=hc other ho tt hdv (Dv.refl _);obtain⟨c,rfl⟩:=ld h1 ho;rw[hn,wb ho (by omega)];exact .two (tr_snoc (r:=[]) |>.mp tt)
  ·have hc2:Cop2 other (nxt one other):=λd dn dt h1 h2=>by
    refine hc d dn dt ?_ h1;refine Dv.up (f:=aF one other) (q:=aH one other) (r:=scL (-(ai (aT [] (aj one other)):Int)) (nxt one other)) (by omega) (λk=>?_) h1 ?_
    ·rw[hs k,bh,Int.neg_mul];omega
    ·exact Dv.prop_right (x:=1) (y := -(ai (aT [] (aj one other)):Int)) (by decide) (λk=>by rw[bh];omega) h2
   have ih:=kv n other (nxt one other) (by omega) tt ho tn hc2;have e2:aO (n+1) other (nxt one other)=other::aO n (nxt one other) (nxt other (nxt one other)):=by show(if other=[]then _ else _)=_;rw[if_neg ho]
   have n1:0<n:=by have:=Fm.mpr hn;omega
   obtain⟨m,rfl⟩:∃m,n=m+1:=⟨n-1,by omega⟩;have e3:aO (m+1) (nxt one other) (nxt other (nxt one other))=nxt one other::aO m (nxt other (nxt one other)) (nxt (nxt one other) (nxt other (nxt one other))):=by show(if nxt one other=[]then _ else _)=_;rw[if_neg hn]
   rw[e2,e3]at ih ⊢
   have gp:0<(ai (aT [] (aj one other)):Int):=by
    rcases Nat.eq_zero_or_pos (ai (aT [] (aj one other)))with z |z
    ·exfalso;apply hn;refine kL tn λk=>?_
     have e:nxt one other=ah (aT [] (aj one other)):=by unfold nxt rst;rw[if_neg ho]
     rw[e];unfold ah;rw[z];unfold cf;simp[List.getD];cases(aT [] (aj one other))[k]? with
     |none=>rfl
     |some v=>simp
    ·omega
   refine .cons (q:=aH one other) (α:=(aF one other:Rat)) (β:=((ai (aT [] (aj one other)):Int):Rat)) (FN.mpr fp) (FN.mpr gp) (λx=>?_) ih;have h1:=gy (a:=one) (c:=scL (aF one other) one) (u:=aF one other) x λk=>bh _ _ _
   have h2:=p6 x (aH one other) other (ad (aH one other) other) (aB _ _);have h3:=iz (a:=ad (aH one other) other) (b:=nxt one other) (c:=scL (aF one other) one) (u:=1) (v := -(ai (aT [] (aj one other)):Int)) x λk=>by rw[bh,hs k,aB,Int.neg_mul];omega
   rw[<- h1,h3,h2,Rat.intCast_neg];show((1:Int):Rat)*_+_=_;grind
theorem kC{ss:List (List Int)}(h:∀s∈ss,Pri s):bH [1] ss=prd ss:=by unfold bH;rw[si,one_mul _ (gz ss λs hs=>(h s hs).pln).tr]
theorem fc{f:List Int}(h:FacG f):Pri (ar f):=by obtain⟨u,e,b,rfl,_,_,_,_,h5,_,h7⟩:=h;exact wn h5 h7
theorem sr:∀us:List (List Int×Nat),fP (λ_=>0) us=[1]
 | []=>rfl
 |p::us=>by rw[df,sr us];rfl
theorem eD{l:List Int}(h:Tr l)(hne:l≠[]):0<(ai l:Int)/\Tr (ah l)/\ah l≠[]/\∀n,cf l n=(ai l:Int)*cf (ah l) n:=by
 have e:=gv (l:=l)
 have ec:∀n,cf l n=(ai l:Int)*cf (ah l) n:=λn=>by have:=congrArg (λz=>cf z n) e;simp only[bh]at this;exact this.symm
 have hl:(ah l).length=l.length:=by unfold ah;rw[Fk]
 refine⟨?_,cZ h,λz=>by rw[z]at hl;exact hne (Hn hl.symm),ec⟩;rcases Nat.eq_zero_or_pos (ai l)with z |z
 ·exfalso;refine hne (kL h λk=>?_);rw[ec k,z];simp
 ·omega
theorem Cop2.shr{a b:List Int}(h:Cop2 a b)(ha:Tr a)(hna:a≠[])(hb:Tr b):Cop2 (ah a) (ah b):=λd dn dt h1 h2=>by
 obtain⟨_,_,_,ea⟩:=eD ha hna;refine h d dn dt (Dv.prop_right (x:=1) (y:=(ai a:Int)) (by decide) (λn=>by rw[ea n];omega) h1) ?_;by_cases hnb:b=[]
 ·rw[hnb];exact Dv.nil _
 ·obtain⟨_,_,_,eb⟩:=eD hb hnb;exact Dv.prop_right (x:=1) (y:=(ai b:Int)) (by decide) (λn=>by rw[eb n];omega) h2
noncomputable def sdR(l:List Int)(x:Rat):Int:=aU l x.num x.den
theorem bL(x:Rat):0<(x.den:Int):=by have:=x.den_pos;omega
theorem ic(l:List Int){t n:Int}(hn:0<n):sdR l ((t:Rat)/(n:Rat))=aU l t n:=by unfold sdR;exact vh l (bL _) hn (pN hn)
theorem fG{l:List Int}(h:Spt l):Cut (sdR l):=by
 refine⟨λx=>?_,λx y hxy hs=>?_⟩
 ·rcases o6 l x.num x.den with z |z |z
  ·exact .inl z
  ·exact .inr (.inl z)
  ·exact .inr (.inr z)
 ·exact vg h (bL x) (bL y) ((Rat.lt_iff x y).mp hxy) hs
theorem mh(x:Rat):∀ls:List (List Int),cpr x (ls.map sdR)=spr x.num x.den ls
 | []=>rfl
 |l::ls=>by show -sdR l x*_ = -aU l x.num x.den*_;rw[mh x ls];rfl
theorem f9(x:Rat):(x.num:Rat)/((x.den:Int):Rat)=x:=by have:=Rat.mkRat_self x;rw[Rat.mkRat_eq_div]at this;exact this
theorem t9{l l':List Int}(hl:Spt l)(hl':Spt l')(h:ul l l'){x y:Rat}(hxy:x<y)(hd:y-x<=1/2^200):¬(inC (sdR l) x y/\inC (sdR l') x y):=by
 rintro⟨h1,h2⟩;have hD:(0:Rat)<2^200:=Rat.pow_pos (by decide);have hDi:((2^200:Int):Rat)=2^200:=Rat.intCast_pow 2 200;have f1:=Rat.floor_le (x*2^200);have f2:=Rat.lt_floor_add_one (x*2^200);rw[Gq]at f2
 have hd2:(y-x)*2^200<=1:=by
  have:=FR hd (Fv hD)
  rwa [FM (by grind)]at this
 have key:∀k:List Int,Spt k->inC (sdR k) x y->inS k ((x*2^200).floor-1) ((x*2^200).floor-1+128) (2^200):=λk hk hi=>by
  have hc:=fG hk
  have eA:((((x*2^200).floor-1:Int)):Rat)/((2^200:Int):Rat)*2^200=((x*2^200).floor:Rat)-1:=by rw[hDi,FM (by grind),Hr];rfl
  have eB:((((x*2^200).floor-1+128:Int)):Rat)/((2^200:Int):Rat)*2^200=((x*2^200).floor:Rat)-1+128:=by rw[hDi,FM (by grind),Gq,Hr];rfl
  constructor
  ·rw[<- ic k (by decide)];generalize ((((x*2^200).floor-1:Int)):Rat)/((2^200:Int):Rat)=a at *
   have hax:a<x:=by
    refine GH.mp λz=>?_
    have:=FR z (Fv hD);grind
   rcases G4 0 (sdR k a)with w |w
   ·exact w
   ·have h3:=hc.m a x hax w;have h4:=hi.1;omega
  ·rw[<- ic k (by decide)];generalize ((((x*2^200).floor-1+128:Int)):Rat)/((2^200:Int):Rat)=b at *
   have hby:y<b:=by
    refine GH.mp λz=>?_
    have:=FR z (Fv hD);have e1:((1:Int):Rat)=1:=rfl;grind
   have h3:=hc.m y b hby hi.2;omega
 exact h _ _ _ (Gs _) rfl (key l hl h1) (key l' hl' h2)
noncomputable def sgv(row:List (List Int))(t n:Int):List Int:=row.map λf=>sg (hv t n f)
theorem o8{t n:Int}(hn:0<n)(row:List (List Int)):sgv row t n=sgX row ((t:Rat)/(n:Rat)):=by unfold sgv sgX;exact GF λf _=>dw hn f
theorem mQ(v:Rat):∃w:Rat,0<=w/\Bd w v:=by
 rcases Gi (a:=0) (b:=v)with z |z
 ·exact⟨v,z,by grind,by grind⟩
 ·exact⟨-v,by grind,by grind,by grind⟩
theorem lV(u b:Int)(x:Rat):((b*x.num-u*(x.den:Int):Int):Rat)=((b:Rat)*x-(u:Rat))*((x.den:Int):Rat):=by rw[Hr,FK,FK,qA x];grind
theorem yE(u b:Int)(x:Rat):b*x.num-u*(x.den:Int)<0↔(b:Rat)*x-(u:Rat)<0:=by
 have hd:(0:Rat)<((x.den:Int):Rat):=FN.mpr (bL x);rw[<- FN,lV];constructor
 ·intro h;refine GH.mp λz=>?_
  have:=FC z (Fv hd);have e:((0:Int):Rat)=0:=rfl;grind
 ·intro h;have:=FU (show 0 < -((b:Rat)*x-(u:Rat)) by grind) hd;have e:((0:Int):Rat)=0:=rfl;grind
theorem oa(u e b:Int)(x:Rat):((b*x.num-u*(x.den:Int))*(b*x.num-u*(x.den:Int))<e*(x.den:Int)*(x.den:Int)↔((b:Rat)*x-(u:Rat))*((b:Rat)*x-(u:Rat))<(e:Rat))/\(e*(x.den:Int)*(x.den:Int)<(b*x.num-u*(x.den:Int))*(b*x.num-u*(x.den:Int))↔(e:Rat)<((b:Rat)*x-(u:Rat))*((b:Rat)*x-(u:Rat))):=by
 have hd:(0:Rat)<((x.den:Int):Rat):=FN.mpr (bL x);have hdd:=FU hd hd;have e1:(((b*x.num-u*(x.den:Int))*(b*x.num-u*(x.den:Int)):Int):Rat)=((b:Rat)*x-(u:Rat))*((b:Rat)*x-(u:Rat))*(((x.den:Int):Rat)*((x.den:Int):Rat)):=by rw[FK,lV];grind
 have e2:((e*(x.den:Int)*(x.den:Int):Int):Rat)=(e:Rat)*(((x.den:Int):Rat)*((x.den:Int):Rat)):=by rw[FK,FK];grind
 have key:∀p q:Rat,(p*(((x.den:Int):Rat)*((x.den:Int):Rat))<q*(((x.den:Int):Rat)*((x.den:Int):Rat)))↔p<q:=λp q=>⟨λh=>GH.mp λz=>by
  have:=FR z (Fv hdd)
  grind,λh=>Hq h hdd⟩
 constructor
 ·rw[<- FN,e1,e2,key]
 ·rw[<- FN,e1,e2,key]
theorem nH{u e b:Int}(x:Rat):(0<sdR [u,e,b,1] x↔(b:Rat)*x-(u:Rat)<0\/((b:Rat)*x-(u:Rat))*((b:Rat)*x-(u:Rat))<(e:Rat)):=by have h:sdR [u,e,b,1] x=aX (e*(x.den:Int)*(x.den:Int)) (b*x.num-u*(x.den:Int)):=rfl;rw[h,<- yE,<- (oa u e b x).1];rcases bP (e*(x.den:Int)*(x.den:Int)) (b*x.num-u*(x.den:Int))with⟨z,w⟩ |⟨z,w⟩ |⟨z,w⟩<;>rw[z]<;>omega
theorem nI{u e b:Int}(x:Rat):(0<sdR [u,e,b,-1] x↔(b:Rat)*x-(u:Rat)<=0/\(e:Rat)<((b:Rat)*x-(u:Rat))*((b:Rat)*x-(u:Rat))):=by
 have h:sdR [u,e,b,-1] x=0-aX (e*(x.den:Int)*(x.den:Int)) (0-(b*x.num-u*(x.den:Int))):=rfl;have e1:(0-(b*x.num-u*(x.den:Int)))*(0-(b*x.num-u*(x.den:Int)))=(b*x.num-u*(x.den:Int))*(b*x.num-u*(x.den:Int)):=by grind
 have hle:(b:Rat)*x-(u:Rat)<=0↔0<=0-(b*x.num-u*(x.den:Int)):=by
  have hd:(0:Rat)<((x.den:Int):Rat):=FN.mpr (bL x);have e3:=lV u b x;constructor
  ·intro h
   have:¬(0<b*x.num-u*(x.den:Int)):=λz=>by have z':=FN.mpr z;rw[e3]at z';have:=FC (show 0 <= -((b:Rat)*x-(u:Rat)) by grind) (Fv hd);have e:((0:Int):Rat)=0:=rfl;grind
   omega
  ·intro h;refine Gj.mp λz=>?_
   have:=FU z hd;rw[<- e3]at this;have:=FN.mp (show((0:Int):Rat)<_ from this);omega
 rw[h,hle,<- (oa u e b x).2];rcases bP (e*(x.den:Int)*(x.den:Int)) (0-(b*x.num-u*(x.den:Int)))with⟨z,w⟩ |⟨z,w⟩ |⟨z,w⟩<;>rw[z]<;>rw[e1]at w<;>omega
structure Two(u e b x y x' y':Rat):Prop where
 xp:b*x-u<0\/(b*x-u)*(b*x-u)<e
 yp:0<=b*y-u/\e<=(b*y-u)*(b*y-u)
 xm:b*x'-u<=0/\e<(b*x'-u)*(b*x'-u)
 ym:0<b*y'-u\/(b*y'-u)*(b*y'-u)<=e
theorem vW{a c:Rat}(hc:0<=c)(h:a*a<c*c):a<c:=GH.mp λz=>by have:=FC (show 0<=a-c by grind) (show 0<=a+c by grind);grind
theorem vX{a c:Rat}(hc:0<=c)(h:a*a<=c*c):a<=c:=Gj.mp λz=>by have:=FU (show 0<a-c by grind) (show 0<a+c by grind);grind
theorem Two.sum{u e b x y x' y':Rat}(h:Two u e b x y x' y'):2*u<=b*(y+y')/\b*(x+x')<2*u:=by
 obtain⟨xp,yp,xm,ym⟩:=h;constructor
 ·rcases ym with z |z
  ·grind
  ·have : -(b*y'-u)<=b*y-u:=vX yp.1 (by grind);grind
 ·rcases xp with z |z
  ·grind
  ·have:b*x-u < -(b*x'-u):=vW (by grind) (by grind);grind
noncomputable def ev(t:Int):List Int->Int
 | []=>0
 |v::l=>v+t*ev t l
noncomputable def nrm(m a b c:Int):Int:=a*a*a+m*(b*b*b)+m*m*(c*c*c)-3*m*(a*b*c)
theorem kH(m a b c:Int):nrm m (-a) (-b) (-c) = -nrm m a b c:=by unfold nrm;grind
theorem yw(m g a b c:Int):nrm m (g*a) (g*b) (g*c)=g*g*g*nrm m a b c:=by unfold nrm;grind
theorem qB(m a:Int):nrm m a 0 0=a*a*a:=by unfold nrm;grind
theorem yy(A B C:Rat):(A+B+C)*((A-B)*(A-B)+(B-C)*(B-C)+(C-A)*(C-A))=2*(A*A*A+B*B*B+C*C*C-3*(A*B*C)):=by grind
theorem rsq(x:Rat):0<=x*x:=by
 rcases Gi (a:=0) (b:=x)with y |y
 ·exact FC y y
 ·have:0 <= -x:=by grind
  have:=FC this this;grind
theorem wK{x y:Rat}(hy:0<=y)(h:0<x*y):0<x:=GH.mp λz=>by have:=FC (show 0 <= -x by grind) hy;grind
theorem rle{a b:Int}(h:a<=b):(a:Rat)<=(b:Rat):=Rat.intCast_le_intCast.mpr h
theorem kI{m a b c:Int}(h:0<nrm m a b c):∃ε:Rat,0<ε/\∀Z:Rat,Bd ε (Z*Z*Z-(m:Rat))->0<(a:Rat)+b*Z+c*(Z*Z):=by
 obtain⟨p,p0,hp⟩:=mQ ((b:Rat)*b*b-3*((a:Rat)*b*c));obtain⟨r,r0,hr⟩:=mQ ((c:Rat)*c*c);obtain⟨μ,μ0,hμ⟩:=mQ (2*(m:Rat))
 have K0:0<=p+(μ+1)*r:=by have:=FC (show 0<=μ+1 by grind) r0;grind
 have hn:(1:Rat)<=(a:Rat)*a*a+m*((b:Rat)*b*b)+m*m*((c:Rat)*c*c)-3*m*((a:Rat)*b*c):=by
  have h1:(1:Int)<=nrm m a b c:=by omega
  have h2:=rle h1;unfold nrm at h2
  simp only[Hr,Gq,FK]at h2;exact h2
 obtain⟨K,eK⟩:∃K,p+(μ+1)*r=K:=⟨_,rfl⟩;rw[eK]at K0;have k1:0<2*(K+1):=by grind
 have k2:1/(2*(K+1))*(2*(K+1))=1:=FM (by grind);have e0:0<1/(2*(K+1)):=by rw[Rat.div_def,Rat.one_mul];exact Rat.inv_pos.mpr k1
 generalize 1/(2*(K+1))=ε at k2 e0
 have eK0:0<=ε*K:=FC (Fv e0) K0;have e1:ε<=1/2:=by grind
 have e2:ε*K<=1/2:=by grind
 refine⟨ε,e0,λZ hZ=>?_⟩;have d1:Bd (1:Rat) (Z*Z*Z-(m:Rat)):=hZ.mono (by grind);have d2:=hμ.add d1;have d3:=d2.mul hr;have d4:=hp.add d3;rw[eK]at d4;have d5:=hZ.mul d4;have d6:=d5.1;refine wK (y:=((a:Rat)-b*Z)*((a:Rat)-b*Z)+((b:Rat)*Z-c*(Z*Z))*((b:Rat)*Z-c*(Z*Z))+((c:Rat)*(Z*Z)-a)*((c:Rat)*(Z*Z)-a)) ?_ ?_
 ·have:=rsq ((a:Rat)-b*Z);have:=rsq ((b:Rat)*Z-c*(Z*Z));have:=rsq ((c:Rat)*(Z*Z)-a);grind
 ·rw[yy];have e3:(a:Rat)*a*a+(b:Rat)*Z*((b:Rat)*Z)*((b:Rat)*Z)+(c:Rat)*(Z*Z)*((c:Rat)*(Z*Z))*((c:Rat)*(Z*Z))-3*((a:Rat)*((b:Rat)*Z)*((c:Rat)*(Z*Z)))=((a:Rat)*a*a+m*((b:Rat)*b*b)+m*m*((c:Rat)*c*c)-3*m*((a:Rat)*b*c))+(Z*Z*Z-(m:Rat))*((b:Rat)*b*b-3*((a:Rat)*b*c)+(2*(m:Rat)+(Z*Z*Z-(m:Rat)))*((c:Rat)*c*c)):=by grind
  rw[e3];generalize (Z*Z*Z-(m:Rat))*((b:Rat)*b*b-3*((a:Rat)*b*c)+(2*(m:Rat)+(Z*Z*Z-(m:Rat)))*((c:Rat)*c*c))=D at d6 ⊢
  generalize (a:Rat)*a*a+m*((b:Rat)*b*b)+m*m*((c:Rat)*c*c)-3*m*((a:Rat)*b*c)=N at hn ⊢
  grind
theorem By(X:Nat):∃k:Nat,k*k*k<=X/\X<(k+1)*(k+1)*(k+1):=by
 induction X with
 |zero=>exact⟨0,by decide,by decide⟩
 |succ X ih =>
  obtain⟨k,h1,h2⟩:=ih;by_cases h:(k+1)*(k+1)*(k+1)<=X+1
  ·refine⟨k+1,h,?_⟩;have e:(k+1+1)*(k+1+1)*(k+1+1)=(k+1)*(k+1)*(k+1)+3*((k+1)*(k+1))+3*(k+1)+1:=by grind
   omega
  ·exact⟨k,by omega,by omega⟩
theorem Bw{m:Nat}(hm:0<m){ε:Rat}(hε:0<ε):∃Z:Rat,0<=Z/\Bd ε (Z*Z*Z-((m:Int):Rat)):=by
 obtain⟨n0,hn0⟩:=t8 (6*((m:Rat)*(m:Rat))/ε)
 obtain⟨n,hn,n1⟩:∃n:Nat,6*((m:Rat)*(m:Rat))<=ε*(n:Rat)/\1<=n:=by
  refine⟨n0+1,?_,by omega⟩;have e:6*((m:Rat)*(m:Rat))/ε*ε=6*((m:Rat)*(m:Rat)):=FM (by grind);have h1:=FR hn0 (Fv hε);rw[e]at h1;have h2:((n0+1:Nat):Rat)=(n0:Rat)+1:=by simp
  rw[h2];grind
 obtain⟨k,k1,k2⟩:=By (m*(n*n*n))
 have kq:k<=m*n:=Nat.not_lt.mp λz=>by
  have h1:(m*n+1)*(m*n+1)*(m*n+1)<=k*k*k:=Hl (Hl z z) z
  have h2:m*(n*n*n)<=m*n*(m*n)*(m*n):=by
   have:m*(n*n*n)*1<=m*(n*n*n)*(m*m):=G6 _ (Nat.mul_pos hm hm);have e:m*n*(m*n)*(m*n)=m*(n*n*n)*(m*m):=by grind
   omega
  have h3:m*n*(m*n)*(m*n)<(m*n+1)*(m*n+1)*(m*n+1):=by
   have e:(m*n+1)*(m*n+1)*(m*n+1)=m*n*(m*n)*(m*n)+3*(m*n*(m*n))+3*(m*n)+1:=by grind
   omega
  omega
 have gap:m*(n*n*n)<=k*k*k+6*(m*n*(m*n)):=by
  have e:(k+1)*(k+1)*(k+1)=k*k*k+3*(k*k)+3*k+1:=by grind
  have h1:k*k<=m*n*(m*n):=Hl kq kq;have h2:m*n*1<=m*n*(m*n):=G6 _ (Nat.mul_pos hm n1);omega
 have np:(0:Rat)<(n:Rat):=by have:=rle (show(1:Int)<=((n:Nat):Int) by omega);have e:(((n:Nat):Int):Rat)=(n:Rat):=rfl;grind
 have c1:(k:Rat)*k*k<=(m:Rat)*((n:Rat)*n*n):=by have:=rle (show((k*k*k:Nat):Int)<=((m*(n*n*n):Nat):Int) by omega);simp only[Hk,FK]at this;exact this
 have c2:(m:Rat)*((n:Rat)*n*n)<=(k:Rat)*k*k+6*((m:Rat)*n*((m:Rat)*n)):=by have:=rle (show((m*(n*n*n):Nat):Int)<=((k*k*k+6*(m*n*(m*n)):Nat):Int) by omega);simp only[Hk,Int.natCast_add,FK,Gq]at this;exact this
 have ez:(k:Rat)/(n:Rat)*(n:Rat)=(k:Rat):=FM (by grind)
 have z0:0<=(k:Rat)/(n:Rat):=by rw[Rat.div_def];refine FC ?_ (Fv (Rat.inv_pos.mpr np));exact rle (show(0:Int)<=((k:Nat):Int) by omega)
 have em:(((m:Nat):Int):Rat)=(m:Rat):=rfl;rw[em];generalize (k:Rat)/(n:Rat)=Z at ez z0
 refine⟨Z,z0,?_⟩;have n3:0<(n:Rat)*n*n:=FU (FU np np) np;have e3:Z*Z*Z*((n:Rat)*n*n)=(k:Rat)*k*k:=by rw[<- ez];grind
 have h6:6*((m:Rat)*n*((m:Rat)*n))<=ε*((n:Rat)*n*n):=by have:=FR hn (Fv (FU np np));grind
 constructor
 ·refine Gj.mp λz=>?_
  have:=Hq z n3;grind
 ·refine Gj.mp λz=>?_
  have:=Hq z n3;have:=FU hε n3;grind
def NCb(m:Int):Prop:=0<m/\∀a b c:Int,nrm m a b c=0->a=0/\b=0/\c=0
theorem yA{m:Int}(hm:NCb m){a b c a' b' c':Int}(h:0<nrm m a b c)(h':0<nrm m a' b' c'):0<nrm m (a+a') (b+b') (c+c'):=by
 obtain⟨ε1,p1,q1⟩:=kI h;obtain⟨ε2,p2,q2⟩:=kI h'
 have near:∀{x y z:Int},nrm m x y z<0->∃ε:Rat,0<ε/\∀Z:Rat,Bd ε (Z*Z*Z-(m:Rat))->(x:Rat)+y*Z+z*(Z*Z)<0:=λ{x y z} hn=>by obtain⟨ε,p,q⟩:=kI (m:=m) (a := -x) (b := -y) (c := -z) (by rw[kH];omega);refine⟨ε,p,λZ hZ=>?_⟩;have:=q Z hZ;simp only[Rat.intCast_neg]at this;grind
 have two:∀u v:Rat,0<u->0<v->∃w:Rat,0<w/\w<=u/\w<=v:=λu v hu hv=>by
  rcases Gi (a:=u) (b:=v)with z |z
  ·exact⟨u,hu,by grind,z⟩
  ·exact⟨v,hv,z,by grind⟩
 rcases Int.lt_trichotomy 0 (nrm m (a+a') (b+b') (c+c'))with z |z |z
 ·exact z
 ·obtain⟨z1,z2,z3⟩:=hm.2 _ _ _ z.symm;have e1:a' = -a:=by omega
  have e2:b' = -b:=by omega
  have e3:c' = -c:=by omega
  rw[e1,e2,e3,kH]at h';omega
 ·obtain⟨ε3,p3,q3⟩:=near z;obtain⟨w1,w0,w2,w3⟩:=two ε1 ε2 p1 p2;obtain⟨w,wp,w4,w5⟩:=two w1 ε3 w0 p3;obtain⟨M,eM⟩:∃M:Nat,m=(M:Int):=⟨m.toNat,by have:=hm.1;omega⟩;subst eM;obtain⟨Z,_,hZ⟩:=Bw (m:=M) (by have:=hm.1;omega) wp;have r1:=q1 Z (hZ.mono (by grind));have r2:=q2 Z (hZ.mono (by grind));have r3:=q3 Z (hZ.mono w5);simp only[Gq]at r3;grind
theorem lZ{p n:Int}(hp:0<p)(h:∀r:Int,0<=r->r<p->p∣n*(r*r*r)->r=0){x:Int}(hx:p∣n*(x*x*x)):p∣x:=by
 have r0:=Int.emod_nonneg x (show p≠0 by omega);have r1:=Hz x hp;have e:=Int.mul_ediv_add_emod x p;refine Int.dvd_of_emod_eq_zero (h _ r0 r1 ?_);generalize x%p=r at *
 generalize x/p=k at *
 have e2:n*(r*r*r)=n*(x*x*x)-p*(n*k*(x*x+x*r+r*r)):=by rw[<- e];grind
 rw[e2];exact Int.dvd_sub hx (Int.dvd_mul_right _ _)
theorem yz{p n:Int}(hp:1<p)(h1:∀x:Int,p∣1*(x*x*x)->p∣x)(h2:∀x:Int,p∣n*(x*x*x)->p∣x)(h3:∀x:Int,p∣n*n*(x*x*x)->p∣x):∀(N:Nat) (a b c:Int),a.natAbs+b.natAbs+c.natAbs<=N->nrm (p*n) a b c=0->a=0/\b=0/\c=0:=by
 intro N
 induction N with
 |zero=>intro a b c hl _;omega
 |succ N ih =>
  intro a b c hl h0;unfold nrm at h0
  obtain⟨a1,rfl⟩:=h1 a ⟨-(n*(b*b*b)+p*n*n*(c*c*c)-3*n*(a*b*c)),by grind⟩;have q1:p*(p*p*(a1*a1*a1)+n*(b*b*b)+p*n*n*(c*c*c)-3*p*n*(a1*b*c))=p*0:=by grind
  have q1':=G3 (show p≠0 by omega) q1;obtain⟨b1,rfl⟩:=h2 b ⟨-(p*(a1*a1*a1)+n*n*(c*c*c)-3*n*(a1*b*c)),by grind⟩;have q2:p*(p*(a1*a1*a1)+p*p*n*(b1*b1*b1)+n*n*(c*c*c)-3*p*n*(a1*b1*c))=p*0:=by grind
  have q2':=G3 (show p≠0 by omega) q2;obtain⟨c1,rfl⟩:=h3 c ⟨-(a1*a1*a1+p*n*(b1*b1*b1)-3*n*(a1*b1*c)),by grind⟩;have q3:p*nrm (p*n) a1 b1 c1=p*0:=by unfold nrm;grind
  have q3':=G3 (show p≠0 by omega) q3;by_cases hz:a1=0/\b1=0/\c1=0
  ·obtain⟨rfl,rfl,rfl⟩:=hz;simp
  ·have le:∀x:Int,(p*x).natAbs=p.natAbs*x.natAbs:=λx=>FP _ _
   rw[le,le,le]at hl;have hp2:2<=p.natAbs:=by omega
   have m1:=Gp a1.natAbs hp2;have m2:=Gp b1.natAbs hp2;have m3:=Gp c1.natAbs hp2;exact absurd (ih a1 b1 c1 (by omega) q3') hz
theorem fY{p n m:Int}(e:m=p*n)(m0:0<m)(hp:1<p)(h1:∀r:Int,0<=r->r<p->p∣1*(r*r*r)->r=0)(h2:∀r:Int,0<=r->r<p->p∣n*(r*r*r)->r=0)(h3:∀r:Int,0<=r->r<p->p∣n*n*(r*r*r)->r=0):NCb m:=by subst e;exact⟨m0,λa b c h=>yz hp (λx=>lZ (by omega) h1) (λx=>lZ (by omega) h2) (λx=>lZ (by omega) h3) _ a b c (Fl _) h⟩
theorem yI:NCb 4:=by
 refine⟨by decide,λa b c h=>?_⟩;have h2:NCb 2:=fY (p:=2) (n:=1) rfl (by decide) (by decide) (λr h0 h1=>by rcases(show r=0\/r=1 by omega)with rfl |rfl<;>decide) (λr h0 h1=>by rcases(show r=0\/r=1 by omega)with rfl |rfl<;>decide) (λr h0 h1=>by rcases(show r=0\/r=1 by omega)with rfl |rfl<;>decide);have e:nrm 2 a (2*c) b=nrm 4 a b c:=by unfold nrm;grind
 have:=h2.2 a (2*c) b (by rw[e];exact h);omega
theorem yH{m:Int}(h1:2<=m)(h2:m<=7):NCb m:=by
 rcases(show m=2\/m=3\/m=4\/m=5\/m=6\/m=7 by omega)with rfl |rfl |rfl |rfl |rfl |rfl
 ·exact fY (p:=2) (n:=1) rfl (by decide) (by decide) (λr h0 h1=>by rcases(show r=0\/r=1 by omega)with rfl |rfl<;>decide) (λr h0 h1=>by rcases(show r=0\/r=1 by omega)with rfl |rfl<;>decide) (λr h0 h1=>by rcases(show r=0\/r=1 by omega)with rfl |rfl<;>decide)
 ·exact fY (p:=3) (n:=1) rfl (by decide) (by decide) (λr h0 h1=>by rcases(show r=0\/r=1\/r=2 by omega)with rfl |rfl |rfl<;>decide) (λr h0 h1=>by rcases(show r=0\/r=1\/r=2 by omega)with rfl |rfl |rfl<;>decide) (λr h0 h1=>by rcases(show r=0\/r=1\/r=2 by omega)with rfl |rfl |rfl<;>decide)
 ·exact yI
 ·have k:∀r:Int,0<=r->r<5->(5:Int)∣1*(r*r*r)->r=0:=λr h0 h1=>by rcases(show r=0\/r=1\/r=2\/r=3\/r=4 by omega)with rfl |rfl |rfl |rfl |rfl<;>decide
  exact fY (p:=5) (n:=1) rfl (by decide) (by decide) k k k
 ·exact fY (p:=2) (n:=3) rfl (by decide) (by decide) (λr h0 h1=>by rcases(show r=0\/r=1 by omega)with rfl |rfl<;>decide) (λr h0 h1=>by rcases(show r=0\/r=1 by omega)with rfl |rfl<;>decide) (λr h0 h1=>by rcases(show r=0\/r=1 by omega)with rfl |rfl<;>decide)
 ·have k:∀r:Int,0<=r->r<7->(7:Int)∣1*(r*r*r)->r=0:=λr h0 h1=>by rcases(show r=0\/r=1\/r=2\/r=3\/r=4\/r=5\/r=6 by omega)with rfl |rfl |rfl |rfl |rfl |rfl |rfl<;>decide
  exact fY (p:=7) (n:=1) rfl (by decide) (by decide) k k k
noncomputable def aM(m a b c t n:Int):Int:=nrm m (a*n-t) (b*n) (c*n)
theorem fx{m a b c t n:Int}(hm:NCb m)(hbc:¬(b=0/\c=0))(hn:0<n):aM m a b c t n≠0:=λz=>by
 obtain⟨_,h1,h2⟩:=hm.2 _ _ _ z;rcases FH.mp h1 with y |y
 ·rcases FH.mp h2 with y' |y'
  ·exact hbc ⟨y,y'⟩
  ·omega
 ·omega
theorem i9{x:Int}(h:0<x):0<x*x*x:=Fz (Fz h h) h
theorem qC{m g a b c:Int}(hg:0<g):(0<nrm m (g*a) (g*b) (g*c)↔0<nrm m a b c):=by
 rw[yw];have:=i9 hg;constructor
 ·intro h;exact Int.not_le.mp λz=>by have:=Int.mul_nonpos_of_nonneg_of_nonpos (Fq this) z;omega
 ·intro h;exact Fz this h
theorem jn{m a b c t n t' n':Int}(hm:NCb m)(hn:0<n)(hn':0<n')(hle:t'*n<=t*n')(h:0<aM m a b c t n):0<aM m a b c t' n':=by
 unfold aM at *
 rw[<- qC (g:=n') hn']at h;rw[<- qC (g:=n) hn];rcases Int.lt_or_eq_of_le hle with z |z
 ·have r:0<nrm m (t*n'-t'*n) 0 0:=by rw[qB];exact i9 (by omega)
  have s:=yA hm h r;have e1:n'*(a*n-t)+(t*n'-t'*n)=n*(a*n'-t'):=by grind
  have e2:n'*(b*n)+0=n*(b*n'):=by grind
  have e3:n'*(c*n)+0=n*(c*n'):=by grind
  rwa [e1,e2,e3]at s
 ·have e1:n*(a*n'-t')=n'*(a*n-t):=by grind
  have e2:n*(b*n')=n'*(b*n):=by grind
  have e3:n*(c*n')=n'*(c*n):=by grind
  rw[e1,e2,e3];exact h
structure Tri where
 a:Int
 b:Int
 c:Int
noncomputable def Tri.mul(m:Int)(x y:Tri):Tri:=⟨x.a*y.a+m*(x.b*y.c+x.c*y.b),x.a*y.b+x.b*y.a+m*(x.c*y.c),x.a*y.c+x.b*y.b+x.c*y.a⟩
noncomputable def Tri.nrm(m:Int)(x:Tri):Int:=RM.nrm m x.a x.b x.c
theorem yx(m:Int)(x y:Tri):(x.mul m y).nrm m=x.nrm m*y.nrm m:=by obtain⟨a,b,c⟩:=x;obtain⟨d,e,f⟩:=y;show RM.nrm m (a*d+m*(b*f+c*e)) (a*e+b*d+m*(c*f)) (a*f+b*e+c*d)=RM.nrm m a b c*RM.nrm m d e f;unfold RM.nrm;grind
noncomputable def Tri.lin(x y:Int)(u v:Tri):Tri:=⟨x*u.a+y*v.a,x*u.b+y*v.b,x*u.c+y*v.c⟩
noncomputable def evC(m:Int)(g:Tri):List Int->Tri
 | []=>⟨0,0,0⟩
 |v::l=>⟨v+(g.mul m (evC m g l)).a,(g.mul m (evC m g l)).b,(g.mul m (evC m g l)).c⟩
theorem Tri.ext'{x y:Tri}(h1:x.a=y.a)(h2:x.b=y.b)(h3:x.c=y.c):x=y:=by cases x;cases y;subst h1 h2 h3;rfl
theorem mn(l:List Int)(k:Nat):cf l.tail k=cf l (k+1):=by
 cases l with
 |nil=>rw[List.tail_nil,bT,bT]
 |cons v l=>rfl
theorem lT(m:Int)(g:Tri)(l:List Int):evC m g l=⟨cf l 0+(g.mul m (evC m g l.tail)).a,(g.mul m (evC m g l.tail)).b,(g.mul m (evC m g l.tail)).c⟩:=by
 cases l with
 |nil =>show(⟨0,0,0⟩:Tri)=_;rw[bT];refine Tri.ext' ?_ ?_ ?_<;>(show(0:Int)=_;unfold Tri.mul evC;simp)
 |cons v l=>rfl
theorem sC{m x y:Int}{g:Tri}:∀(n:Nat) (a b c:List Int),a.length<=n->b.length<=n->c.length<=n->(∀k,cf c k=x*cf a k+y*cf b k)->evC m g c=Tri.lin x y (evC m g a) (evC m g b)
 |0,a,b,c,ha,hb,hc,_=>by rw[Gc.mp (GR.mp ha),Gc.mp (GR.mp hb),Gc.mp (GR.mp hc)];refine Tri.ext' ?_ ?_ ?_<;>(show(0:Int)=x*0+y*0;simp)
 |n+1,a,b,c,ha,hb,hc,h=>by
  have ih:=sC (m:=m) (g:=g) (x:=x) (y:=y) n a.tail b.tail c.tail (by rw[List.length_tail];omega) (by rw[List.length_tail];omega) (by rw[List.length_tail];omega) λk=>by rw[mn,mn,mn,h]
  rw[lT m g a,lT m g b,lT m g c,ih,h 0];generalize evC m g a.tail=A;generalize evC m g b.tail=B;refine Tri.ext' ?_ ?_ ?_
  ·show x*cf a 0+y*cf b 0+(g.a*(x*A.a+y*B.a)+m*(g.b*(x*A.c+y*B.c)+g.c*(x*A.b+y*B.b)))=x*(cf a 0+(g.a*A.a+m*(g.b*A.c+g.c*A.b)))+y*(cf b 0+(g.a*B.a+m*(g.b*B.c+g.c*B.b)));grind
  ·show g.a*(x*A.b+y*B.b)+g.b*(x*A.a+y*B.a)+m*(g.c*(x*A.c+y*B.c))=x*(g.a*A.b+g.b*A.a+m*(g.c*A.c))+y*(g.a*B.b+g.b*B.a+m*(g.c*B.c));grind
  ·show g.a*(x*A.c+y*B.c)+g.b*(x*A.b+y*B.b)+g.c*(x*A.a+y*B.a)=x*(g.a*A.c+g.b*A.b+g.c*A.a)+y*(g.a*B.c+g.b*B.b+g.c*B.a);grind
theorem i6{m x y:Int}{g:Tri}{a b c:List Int}(h:∀k,cf c k=x*cf a k+y*cf b k):evC m g c=Tri.lin x y (evC m g a) (evC m g b) :=
 sC (max a.length (max b.length c.length)) a b c (by omega) (by omega) (by omega) h
theorem iZ(m:Int)(g:Tri):∀a b:List Int,evC m g (ad a b)=(evC m g a).mul m (evC m g b)
 | [],b=>by
  have:ad [] b=[]:=by unfold ad;rw[if_pos (.inl rfl)]
  rw[this];refine Tri.ext' ?_ ?_ ?_<;>(show(0:Int)=_;unfold Tri.mul evC;simp)
 |x::a,b=>by
  have e:∀k,cf (ad (x::a) b) k=x*cf b k+1*cf (0::ad a b) k:=λk=>by
   rw[aB,cy,gN,FJ]
   congr 1
   unfold up;split
   ·rfl
   ·rw[aB]
  rw[i6 e];have e2:evC m g (0::ad a b)=⟨0+(g.mul m (evC m g (ad a b))).a,(g.mul m (evC m g (ad a b))).b,(g.mul m (evC m g (ad a b))).c⟩:=rfl;have e3:evC m g (x::a)=⟨x+(g.mul m (evC m g a)).a,(g.mul m (evC m g a)).b,(g.mul m (evC m g a)).c⟩:=rfl;rw[e2,e3,iZ m g a b];generalize evC m g a=A;generalize evC m g b=B;refine Tri.ext' ?_ ?_ ?_<;>(simp only[Tri.lin,Tri.mul];grind)
noncomputable def aL(m a b c:Int):List Int:=[-nrm m a b c,3*(a*a)-3*m*(b*c),-3*a,1]
theorem sD(m a b c:Int):evC m ⟨a,b,c⟩ (aL m a b c)=⟨0,0,0⟩:=by refine Tri.ext' ?_ ?_ ?_<;>(simp only[evC,aL,Tri.mul,nrm];grind)
theorem uF{m:Int}(hm:NCb m){x y:Tri}(h:x.mul m y=⟨0,0,0⟩):x=⟨0,0,0⟩\/y=⟨0,0,0⟩:=by
 have e:=yx m x y;rw[h]at e;have e0:Tri.nrm m ⟨0,0,0⟩=0:=by show nrm m 0 0 0=0;unfold nrm;simp
 rw[e0]at e;rcases FH.mp e.symm with z |z
 ·obtain⟨h1,h2,h3⟩:=hm.2 _ _ _ z;exact .inl (Tri.ext' h1 h2 h3)
 ·obtain⟨h1,h2,h3⟩:=hm.2 _ _ _ z;exact .inr (Tri.ext' h1 h2 h3)
theorem zP{m a b c:Int}(hm:NCb m)(hbc:¬(b=0/\c=0)){l:List Int}(hl:l.length<=3)(h:evC m ⟨a,b,c⟩ l=⟨0,0,0⟩):∀k,cf l k=0:=by
 have key:∀r0 r1 r2:Int,evC m ⟨a,b,c⟩ [r0,r1,r2]=⟨0,0,0⟩->r0=0/\r1=0/\r2=0:=λr0 r1 r2 h=>by
  have ha:=congrArg Tri.a h;have hb:=congrArg Tri.b h;have hc:=congrArg Tri.c h;simp only[evC,Tri.mul]at ha hb hc;have e1:r2*(m*(c*c*c)-b*b*b)=0:=by grind
  have e2:r2=0:=by
   rcases FH.mp e1 with z |z
   ·exact z
   ·have:nrm m b (-c) 0=0:=by unfold nrm;grind
    obtain⟨y1,y2,_⟩:=hm.2 _ _ _ this;exact absurd ⟨y1,by omega⟩ hbc
  subst e2;have e3:r1*b=0:=by grind
  have e4:r1*c=0:=by grind
  have e5:r1=0:=by
   rcases FH.mp e3 with z |z
   ·exact z
   ·rcases FH.mp e4 with z' |z'
    ·exact z'
    ·exact absurd ⟨z,z'⟩ hbc
  subst e5;refine⟨by grind,rfl,rfl⟩
 have e:evC m ⟨a,b,c⟩ [cf l 0,cf l 1,cf l 2]=evC m ⟨a,b,c⟩ l:=by
  have:=i6 (m:=m) (g:=⟨a,b,c⟩) (x:=1) (y:=0) (a:=l) (b:=[]) (c:=[cf l 0,cf l 1,cf l 2]) (λk=>by
   rw[bT];rcases k with _ |_ |_ |k
   ·show cf l 0=1*cf l 0+0*0;omega
   ·show cf l 1=1*cf l 1+0*0;omega
   ·show cf l 2=1*cf l 2+0*0;omega
   ·rw[aN (by simp),aN (by omega)];simp)
  rw[this];refine Tri.ext' ?_ ?_ ?_<;>(simp only[Tri.lin,evC];omega)
 obtain⟨z0,z1,z2⟩:=key _ _ _ (by rw[e];exact h);intro k;rcases k with _ |_ |_ |k
 ·exact z0
 ·exact z1
 ·exact z2
 ·exact aN (by omega)
theorem ma(m a b c:Int):Tr (aL m a b c):=(tr_snoc (r:=[-nrm m a b c,3*(a*a)-3*m*(b*c),-3*a])).mpr (by decide)
theorem fg(m a b c:Int):Pln (aL m a b c):=by refine⟨ma m a b c,by unfold aL;simp,?_,by show(0:Int)<1;decide⟩;show Nat.gcd (Nat.gcd (Nat.gcd (Nat.gcd 0 _) _) _) (1:Int).natAbs=1;exact Nat.gcd_one_right _
theorem mf{m a b c:Int}(hm:NCb m)(hbc:¬(b=0/\c=0)){f:List Int}:Dv (aL m a b c) f↔evC m ⟨a,b,c⟩ f=⟨0,0,0⟩:=by
 have hne:aL m a b c≠[]:=(fg m a b c).ne;constructor
 ·rintro⟨k,q,k0,e⟩;have h1:evC m ⟨a,b,c⟩ (ad q (aL m a b c))=Tri.lin k 0 (evC m ⟨a,b,c⟩ f) (evC m ⟨a,b,c⟩ []):=i6 λn=>by rw[aB,<- e,bT];simp
  rw[iZ,sD]at h1;generalize evC m ⟨a,b,c⟩ q=X at h1
  generalize evC m ⟨a,b,c⟩ f=Y at h1 ⊢
  have ha:=congrArg Tri.a h1;have hb:=congrArg Tri.b h1;have hc:=congrArg Tri.c h1;simp only[Tri.mul,Tri.lin,evC]at ha hb hc;have z:∀y:Int,k*y=0->y=0:=λy hy=>(FH.mp hy).resolve_left k0
  exact Tri.ext' (z _ (by grind)) (z _ (by grind)) (z _ (by grind))
 ·intro h;have e:=λn=>dN (a:=f) (b:=aL m a b c) hne n
  have f0:=gM (a:=f) hne (ma m a b c);have lr:=dg (a:=f) hne;have h1:evC m ⟨a,b,c⟩ (aj f (aL m a b c))=Tri.lin (aF f (aL m a b c)) (-1) (evC m ⟨a,b,c⟩ f) (evC m ⟨a,b,c⟩ (ad (aH f (aL m a b c)) (aL m a b c))):=i6 λn=>by rw[aB,e];omega
  rw[iZ,sD,h]at h1
  have h2:evC m ⟨a,b,c⟩ (aj f (aL m a b c))=⟨0,0,0⟩:=by rw[h1];refine Tri.ext' ?_ ?_ ?_<;>(simp only[Tri.lin,Tri.mul];grind)
  have z:=zP hm hbc (by have:(aL m a b c).length=4:=rfl;omega) h2;exact⟨_,aH f (aL m a b c),f0,λn=>by rw[e,z n];omega⟩
theorem BA{m a b c:Int}(hm:NCb m)(hbc:¬(b=0/\c=0)):Pri (aL m a b c):=by refine⟨fg m a b c,by show 2<=4;decide,λf g h=>?_⟩;rw[mf hm hbc,iZ]at h;rw[mf hm hbc,mf hm hbc];exact uF hm h
theorem me(m a b c t n:Int):hv t n (aL m a b c) = -(n*aM m a b c t n):=by simp only[aL,hv,aM,nrm,FI,List.length_nil];grind
def OneSg(p:List Int)(l1 l2 h1 h2:Int):Prop:=∃s:Int,(s=1\/s = -1)/\∀t n,0<n->l1*n<=t*l2->t*h2<=h1*n->sg (hv t n p)=s
theorem xu(l1 l2 h1 h2:Int):OneSg [1] l1 l2 h1 h2:=⟨1,.inl rfl,λt n hn _ _=>by
 have:hv t n [1]=n:=by simp[hv,Gg]
 rw[this];unfold sg;rw[if_neg (by omega),if_pos hn]⟩
theorem jG{n:Int}(h:0<n):sg n=1:=by unfold sg;rw[if_neg (by omega),if_pos h]
theorem jI{t n:Int}(hn:0<n){a b:List Int}(ha:a≠[])(hb:b≠[]):sg (hv t n (ad a b))=sg (hv t n a)*sg (hv t n b):=by rw[<- fF,<- iT t n hb ha,fF,jG hn,FJ]
theorem OneSg.mul{p q:List Int}{l1 l2 h1 h2:Int}(hp:OneSg p l1 l2 h1 h2)(hq:OneSg q l1 l2 h1 h2)(pn:p≠[])(qn:q≠[]):OneSg (ad p q) l1 l2 h1 h2:=by obtain⟨s,s1,hs⟩:=hp;obtain⟨r,r1,hr⟩:=hq;refine⟨s*r,by rcases s1 with rfl |rfl<;>rcases r1 with rfl |rfl<;>simp,λt n hn a b=>?_⟩;rw[jI hn pn qn,hs t n hn a b,hr t n hn a b]
theorem qy{l1 l2 h1 h2:Int}:∀ps:List (List Int),(∀p∈ps,p≠[]/\OneSg p l1 l2 h1 h2)->OneSg (prd ps) l1 l2 h1 h2/\prd ps≠[]
 | [],_=>⟨xu _ _ _ _,by show([1]:List Int)≠[];simp⟩
 |p::ps,h=>by
  obtain⟨i1,i2⟩:=qy ps λx hx=>h x (Fs _ hx)
  obtain⟨j1,j2⟩:=h p (Fx ..);exact⟨j2.mul i1 j1 i2,iF j1 i2⟩
structure CbN(m a b c:Int)(rs:List (List Int))(kp:List Int)(l1 l2 h1 h2:Int):Prop where
 nc:NCb m
 bc:¬(b=0/\c=0)
 is:kp=ad (aL m a b c) (prd rs)
 rs:∀p∈rs,Pri p/\p.length<=3/\OneSg p l1 l2 h1 h2
 l2p:0<l2
 h2p:0<h2
theorem CbN.sign{m a b c:Int}{rs:List (List Int)}{kp:List Int}{l1 l2 h1 h2:Int}(N:CbN m a b c rs kp l1 l2 h1 h2):∃s:Int,(s=1\/s = -1)/\∀t n,0<n->l1*n<=t*l2->t*h2<=h1*n->sg (hv t n kp) = -sg (aM m a b c t n)*s:=by
 obtain⟨⟨s,s1,hs⟩,pn⟩:=qy rs λp hp=>⟨(N.rs p hp).1.pln.ne,(N.rs p hp).2.2⟩
 refine⟨s,s1,λt n hn x y=>?_⟩;rw[N.is,jI hn (fg m a b c).ne pn,hs t n hn x y,me,jF,fF,jG hn,FJ]
structure CubOk(a b c m:Int):Prop where
 a9 : -9<=a/\a<=9
 b3 : -3<=b/\b<=3
 c3 : -3<=c/\c<=3
 m2:2<=m
 m7:m<=7
 bc:¬(b=0/\c=0)
theorem CubOk.nc{a b c m:Int}(h:CubOk a b c m):NCb m:=yH h.m2 h.m7
noncomputable def hfS(m a b c:Int)(s:Int×Int×Int):Int×Int×Int:=if aM m a b c (s.1+s.2.1) (2*s.2.2)<=0 then(2*s.1,s.1+s.2.1,2*s.2.2)else(s.1+s.2.1,2*s.2.1,2*s.2.2)
structure SpI(m a b c:Int)(s:Int×Int×Int)(j:Nat):Prop where
 n:s.2.2=2^j
 w:s.2.1=s.1+128
 l : -64*s.2.2<=s.1
 h:s.2.1<=64*s.2.2
 lp:0<aM m a b c s.1 s.2.2
 hn:aM m a b c s.2.1 s.2.2<0
theorem gS(m a b c t n:Int):aM m a b c (2*t) (2*n)=8*aM m a b c t n:=by unfold aM nrm;grind
theorem sT{b:Int}(h : -3<=b/\b<=3) : -27<=b*b*b/\b*b*b<=27:=by
 have:b = -3\/b = -2\/b = -1\/b=0\/b=1\/b=2\/b=3:=by omega
 rcases this with rfl |rfl |rfl |rfl |rfl |rfl |rfl<;>decide
theorem bU{x y:Int}{p q:Nat}(hx:x.natAbs<=p)(hy:y.natAbs<=q):(x*y).natAbs<=p*q:=by rw[FP];exact Hl hx hy
theorem CubOk.small{a b c m:Int}(h:CubOk a b c m):(m*(b*b*b)).natAbs<=7*27/\(m*m*(c*c*c)).natAbs<=7*7*27/\(3*m*(b*c)).natAbs<=3*7*(3*3):=by obtain⟨a9,b3,c3,m2,m7,_⟩:=h;have q1:=sT b3;have q2:=sT c3;exact⟨bU (by omega) (by omega),bU (bU (by omega) (by omega)) (by omega),bU (bU (by decide) (by omega)) (bU (by omega) (by omega))⟩
theorem kJ(m x b c:Int):nrm m x b c=x*x*x+m*(b*b*b)+m*m*(c*c*c)-3*m*(b*c)*x:=by unfold nrm;grind
theorem qD{a b c m x:Int}(h:CubOk a b c m)(h1:55<=x)(h2:x<=73):0<nrm m x b c:=by obtain⟨s1,s2,s3⟩:=h.small;have q1:55*55<=x*x:=GQ h1 h1 (by decide) (by omega);have q2:55*55*55<=x*x*x:=GQ q1 h1 (by decide) (by omega);have q3:(3*m*(b*c)*x).natAbs<=3*7*(3*3)*73:=bU s3 (by omega);rw[kJ];omega
theorem CubOk.neg{a b c m:Int}(h:CubOk a b c m):CubOk (-a) (-b) (-c) m:=⟨by have:=h.a9;omega,by have:=h.b3;omega,by have:=h.c3;omega,h.m2,h.m7,λz=>h.bc ⟨by omega,by omega⟩⟩
theorem SpI.first{a b c m:Int}(h:CubOk a b c m):SpI m a b c (-64,64,1) 0:=by
 have ha:=h.a9;refine⟨rfl,rfl,by decide,by decide,?_,?_⟩
 ·show 0<nrm m (a*1 - -64) (b*1) (c*1);rw[FT,FT,FT];exact qD h (by omega) (by omega)
 ·show nrm m (a*1-64) (b*1) (c*1)<0;rw[FT,FT,FT];have:=qD (x:=64-a) h.neg (by omega) (by omega);have e:=kH m (a-64) b c;rw[show -(a-64)=64-a by omega]at e;omega
theorem SpI.half{a b c m:Int}(h:CubOk a b c m){s:Int×Int×Int}{j:Nat}(S:SpI m a b c s j):SpI m a b c (hfS m a b c s) (j+1):=by
 obtain⟨n,w,l,hh,lp,hn⟩:=S;have hn0:0<s.2.2:=by rw[n];exact Int.pow_pos (by decide)
 have ne:=fx (t:=s.1+s.2.1) h.nc h.bc (show 0<2*s.2.2 by omega) (a:=a);have e2:2*s.2.2=2^(j+1):=by rw[n,Gg,FX]
 unfold hfS;split
 ·rename_i z
  exact⟨e2,by show s.1+s.2.1=2*s.1+128;omega,by show -64*(2*s.2.2)<=2*s.1;omega,by show s.1+s.2.1<=64*(2*s.2.2);omega,by show 0<aM m a b c (2*s.1) (2*s.2.2);rw[gS];omega,by show aM m a b c (s.1+s.2.1) (2*s.2.2)<0;omega⟩
 ·rename_i z
  exact⟨e2,by show 2*s.2.1=s.1+s.2.1+128;omega,by show -64*(2*s.2.2)<=s.1+s.2.1;omega,by show 2*s.2.1<=64*(2*s.2.2);omega,by show 0<aM m a b c (s.1+s.2.1) (2*s.2.2);omega,by show aM m a b c (2*s.2.1) (2*s.2.2)<0;rw[gS];omega⟩
theorem SpI.pos{a b c m:Int}{s:Int×Int×Int}{j:Nat}(S:SpI m a b c s j):0<s.2.2:=by rw[S.n];exact Int.pow_pos (by decide)
def InS(s t:Int×Int×Int):Prop:=s.1*t.2.2<=t.1*s.2.2/\t.2.1*s.2.2<=s.2.1*t.2.2
theorem InS.refl(s:Int×Int×Int):InS s s:=⟨Gs _,Gs _⟩
theorem rj{x y p q r s:Int}(hq:0<q)(hp:0<=p)(hs:0<=s)(h1:x*q<=y*p)(h2:y*s<=r*q):x*s<=r*p:=by
 refine Int.le_of_mul_le_mul_right (a:=q) ?_ hq;have a1:=Gh h1 hs;have a2:=Gh h2 hp;have e1:x*s*q=x*q*s:=by grind
 have e2:y*p*s=y*s*p:=by grind
 have e3:r*q*p=r*p*q:=by grind
 omega
theorem InS.trans{s t u:Int×Int×Int}(ps:0<s.2.2)(pt:0<t.2.2)(pu:0<u.2.2)(h1:InS s t)(h2:InS t u):InS s u :=
 ⟨rj pt (Fq ps) (Fq pu) h1.1 h2.1,rj pt (Fq pu) (Fq ps) h2.2 h1.2⟩
theorem SpI.few{a b c m:Int}(h:CubOk a b c m){s:Int×Int×Int}{j:Nat}(S:SpI m a b c s j){q:Int}(h1:s.1<=q*s.2.2)(h2:q*s.2.2<=s.2.1):j<=21:=by
 have p:=S.pos;obtain⟨en,w,l,hh,lp,hn⟩:=S;obtain⟨s1,s2,s3⟩:=h.small;have ha:=h.a9;generalize s.2.2=n at *
 generalize s.2.1=hi at *
 generalize s.1=lo at *
 have lip:∀t,-64*n<=t->t<=64*n->(t-q*n).natAbs<=128->(aM m a b c t n-aM m a b c (q*n) n).natAbs<=128*(16176*(n.natAbs*n.natAbs)):=λt t1 t2 t3=>by
  have e:aM m a b c t n-aM m a b c (q*n) n=(t-q*n)*(3*m*(b*c)*(n*n)-((a*n-t)*(a*n-t)+(a*n-t)*(a*n-q*n)+(a*n-q*n)*(a*n-q*n))):=by unfold aM nrm;grind
  have an:(a*n).natAbs<=9*n.natAbs:=bU (by omega) (Fl _);have x1:(a*n-t).natAbs<=73*n.natAbs:=by omega
  have x2:(a*n-q*n).natAbs<=73*n.natAbs:=by omega
  have z0:(n*n).natAbs<=n.natAbs*n.natAbs:=bU (Fl _) (Fl _);have y1:=bU x1 x1;have y2:=bU x1 x2;have y3:=bU x2 x2;have y4:=bU s3 z0;have z1:73*n.natAbs*(73*n.natAbs)=5329*(n.natAbs*n.natAbs):=by grind
  rw[z1]at y1 y2 y3;rw[e];refine bU t3 ?_;have u1:=G5 (3*m*(b*c)*(n*n)) ((a*n-t)*(a*n-t)+(a*n-t)*(a*n-q*n)+(a*n-q*n)*(a*n-q*n));have u2:=Int.natAbs_add_le ((a*n-t)*(a*n-t)+(a*n-t)*(a*n-q*n)) ((a*n-q*n)*(a*n-q*n));have u3:=Int.natAbs_add_le ((a*n-t)*(a*n-t)) ((a*n-t)*(a*n-q*n));generalize (3*m*(b*c)*(n*n)-((a*n-t)*(a*n-t)+(a*n-t)*(a*n-q*n)+(a*n-q*n)*(a*n-q*n))).natAbs=v1 at *
  generalize ((a*n-t)*(a*n-t)+(a*n-t)*(a*n-q*n)+(a*n-q*n)*(a*n-q*n)).natAbs=v2 at *
  generalize ((a*n-t)*(a*n-t)+(a*n-t)*(a*n-q*n)).natAbs=v3 at *
  generalize ((a*n-t)*(a*n-t)).natAbs=v4 at *
  generalize ((a*n-t)*(a*n-q*n)).natAbs=v5 at *
  generalize ((a*n-q*n)*(a*n-q*n)).natAbs=v6 at *
  generalize (3*m*(b*c)*(n*n)).natAbs=v7 at *
  generalize n.natAbs*n.natAbs=v8 at *
  clear e an x1 x2 z0 z1 t1 t2 t3 s1 s2 s3 lp hn w l hh h1 h2 p ha en;omega
 have L1:=lip lo l (by omega) (by omega);have L2:=lip hi (by omega) hh (by omega);have eq:aM m a b c (q*n) n=n*n*n*nrm m (a-q) b c:=by unfold aM nrm;grind
 have nz:nrm m (a-q) b c≠0:=λz=>h.bc (let r:=(h.nc).2 _ _ _ z;⟨r.2.1,r.2.2⟩)
 have p3:0<n*n*n:=Fz (Fz p p) p
 have big:n*n*n<=aM m a b c (q*n) n\/aM m a b c (q*n) n <= -(n*n*n):=by
  rw[eq];rcases GG nz with z |z
  ·right;have:=HG (show nrm m (a-q) b c <= -1 by omega) (Fq p3);omega
  ·left;have:=HG (show 1<=nrm m (a-q) b c by omega) (Fq p3);omega
 have nn:(n.natAbs*n.natAbs:Nat)=((n*n).natAbs):=(FP n n).symm;have nn2:((n*n).natAbs:Int)=n*n:=Int.natAbs_of_nonneg (Fq (Fz p p));rw[nn]at L1 L2
 have fin:n*n*n<=2070528*(n*n):=by
  rcases big with z |z
  ·generalize aM m a b c hi n=W at *
   generalize aM m a b c (q*n) n=V at *
   clear L1 lip eq nz nn;generalize n*n*n=N3 at *
   generalize n*n=N2 at *
   omega
  ·generalize aM m a b c lo n=W at *
   generalize aM m a b c (q*n) n=V at *
   clear L2 lip eq nz nn;generalize n*n*n=N3 at *
   generalize n*n=N2 at *
   omega
 have fin2:n<=2070528:=Int.le_of_mul_le_mul_right (a:=n*n) (by rw[FX n (n*n)];exact fin) (Fz p p);refine Gd λz=>?_
 have g1:(2:Int)^21<=2^j:=by have:=Hu (n:=2) (by decide) (GI z);have e:=Int.ofNat_le.mpr this;rw[Int.natCast_pow,Int.natCast_pow]at e;exact e
 have g2:(2:Int)^21=2097152:=by decide
 omega
def FL(l:List Int):Prop:=(∃q:Int,-21<=q/\q<=21/\l=[q,0,1])\/∃k:Int,1<=k/\k<=9/\l=[0,-k,1]
theorem FL.fac{l:List Int}(h:FL l):FacG l:=by
 rcases h with⟨q,h1,h2,rfl⟩ |⟨k,h1,h2,rfl⟩
 ·exact⟨q,0,1,rfl,by omega,by omega,by decide,by decide,by decide,by decide,.inl (Gs _)⟩
 ·exact⟨0,-k,1,rfl,by decide,by decide,by omega,by omega,by decide,by decide,.inl (by omega)⟩
theorem xv(t:Int):ar [t,0,1]=[-t,1]:=by
 have hr:aA t 0 1=[-t,1]:=by unfold aA;rw[if_pos rfl]
 show aI (aA t 0 1)=_;rw[hr];refine Pln.plain ⟨(tr_snoc (r:=[-t])).mpr (by decide),by simp,?_,(by decide:(0:Int)<1)⟩;show ai [-t,1]=1;unfold ai;rw[lK,lK,rY];exact Nat.gcd_one_right _
theorem FL.spots{l x:List Int}(h:FL l)(hx:x∈spF l):∃q:Int,-21<=q/\q<=21/\l=[q,0,1]/\x=[q,0,1,1]:=by
 rcases h with⟨q,h1,h2,rfl⟩ |⟨k,h1,h2,rfl⟩
 ·have:spF [q,0,1]=[[q,0,1,1]]:=by show(if(0:Int)<=0 then _ else[])++(if(0:Int)<0 then _ else[])=_;rw[if_pos (by decide),if_neg (by decide)];rfl
  rw[this]at hx;exact⟨q,h1,h2,rfl,Fu.mp hx⟩
 ·have:spF [0,-k,1]=[]:=by show(if 0 <= -k then _ else[])++(if 0 < -k then _ else[])=[];rw[if_neg (by omega),if_neg (by omega)];rfl
  rw[this]at hx;cases hx
noncomputable def cdR(m a b c:Int)(x:Rat):Int:=sg (aM m a b c x.num x.den)
theorem uq{m a b c t n t' n':Int}(hm:NCb m)(hn:0<n)(hn':0<n')(e:t*n'=t'*n):0<aM m a b c t n↔0<aM m a b c t' n' :=
 ⟨jn hm hn hn' (Int.le_of_eq e.symm),jn hm hn' hn (Int.le_of_eq e)⟩
theorem vy{x y:Int}(hx:x≠0)(hy:y≠0)(h:0<x↔0<y):sg x=sg y:=by
 rcases GG hx with z |z
 ·have:y<0:=by
   rcases GG hy with w |w
   ·exact w
   ·exact absurd (h.mpr w) (by omega)
  unfold sg;rw[if_pos z,if_pos this]
 ·have:=h.mp z;unfold sg;rw[if_neg (by omega),if_pos z,if_neg (by omega),if_pos this]
theorem mz{m a b c t n:Int}(hm:NCb m)(hbc:¬(b=0/\c=0))(hn:0<n):cdR m a b c ((t:Rat)/(n:Rat))=sg (aM m a b c t n):=by unfold cdR;exact vy (fx hm hbc (bL _)) (fx hm hbc hn) (uq hm (bL _) hn (pN hn))
theorem vv(x:Int):dm (sg x):=by unfold dm sg;split<;>(try split)<;>omega
theorem mB{m a b c:Int}(hm:NCb m)(hbc:¬(b=0/\c=0)):Cut (cdR m a b c):=by
 refine⟨λx=>vv _,λx y hxy h=>?_⟩;have hx:=fx (a:=a) (t:=x.num) hm hbc (bL x);have hy:=fx (a:=a) (t:=y.num) hm hbc (bL y)
 have x0:aM m a b c x.num x.den<0:=by
  rcases GG hx with z |z
  ·exact z
  ·exfalso;unfold cdR sg at h
   rw[if_neg (by omega),if_pos z]at h;exact absurd h (by decide)
 have hle:x.num*(y.den:Int)<=y.num*(x.den:Int):=by have:=(cR (bL x) (bL y) (t:=x.num) (t':=y.num)).mp (by rw[f9,f9];exact hxy);omega
 have y0:aM m a b c y.num y.den<0:=by
  rcases GG hy with z |z
  ·exact z
  ·exact absurd (jn hm (bL y) (bL x) hle z) (by omega)
 unfold cdR sg;rw[if_pos y0]
theorem md(m a b c:Int)(x:Rat):sgR (pv (aL m a b c) x) = -cdR m a b c x:=by have h:=dw (t:=x.num) (bL x) (aL m a b c);rw[f9]at h;rw[<- h,me,jF,fF,jG (bL x),FJ];rfl
noncomputable def nA(p0 p1 p2 u e d:Int):Int:=u*u*u+p2*d*(u*u)+p1*(d*d)*u+p0*(d*d*d)+e*(3*u+p2*d)
noncomputable def nB(p1 p2 u e d:Int):Int:=e+3*(u*u)+2*p2*d*u+p1*(d*d)
theorem BF(m a b c t n:Int):n*(t*t*t + -3*a*n*(t*t)+(3*(a*a)-3*m*(b*c))*(n*n)*t + -nrm m a b c*(n*n*n)) = -(n*aM m a b c t n):=by rw[<- me];simp[hv,aL];grind
theorem BB{m a b c:Int}(hm:NCb m)(hbc:¬(b=0/\c=0)){u e d:Int}(hd:0<d)(he:0<=e)(ns:NS e):nA (-nrm m a b c) (3*(a*a)-3*m*(b*c)) (-3*a) u e d*nA (-nrm m a b c) (3*(a*a)-3*m*(b*c)) (-3*a) u e d-e*(nB (3*(a*a)-3*m*(b*c)) (-3*a) u e d*nB (3*(a*a)-3*m*(b*c)) (-3*a) u e d)≠0:=λz=>by
 have key:∀t:Int,t*t*t + -3*a*d*(t*t)+(3*(a*a)-3*m*(b*c))*(d*d)*t + -nrm m a b c*(d*d*d)≠0:=λt h=>by
  have:=BF m a b c t d;rw[h,Fy]at this;have w:=fx (a:=a) (t:=t) hm hbc hd;have:d*aM m a b c t d=0:=by omega
  rcases FH.mp this with y |y
  ·omega
  ·exact w y
 generalize -nrm m a b c=p0 at z key
 generalize 3*(a*a)-3*m*(b*c)=p1 at z key
 generalize -3*a=p2 at z key
 have AB:nA p0 p1 p2 u e d=0/\(e=0\/nB p1 p2 u e d=0):=by
  by_cases e0:e=0
  ·rw[e0,FV,Int.sub_zero]at z;rw[e0];exact⟨by rcases FH.mp z with y |y<;>exact y,.inl rfl⟩
  ·by_cases b0:nB p1 p2 u e d=0
   ·rw[b0,Fy,Fy,Int.sub_zero]at z;exact⟨by rcases FH.mp z with y |y<;>exact y,.inr b0⟩
   ·refine(ns.no e0 b0 (y:=nA p0 p1 p2 u e d) ?_).elim;generalize nA p0 p1 p2 u e d=A at *
    generalize nB p1 p2 u e d=B at *
    grind
 obtain⟨hA,h |h⟩:=AB
 ·refine key u ?_;unfold nA at hA
  rw[h,FV,Gf]at hA;exact hA
 ·refine key (u-(3*u+p2*d)) ?_;unfold nA at hA
  unfold nB at h
  grind
theorem yD{p0 p1 p2 u e d:Int}(b0:Bd 16384 (p0:Rat))(b1:Bd 16384 (p1:Rat))(b2:Bd 16384 (p2:Rat))(bu:Bd 11 (u:Rat))(be:Bd 36 (e:Rat))(bd:Bd 3 (d:Rat)){v κ:Rat}(hv:Bd 70 v)(hp:Bd κ ((p0:Rat)+v*(p1+v*(p2+v))))(hδ:Bd κ (((d:Rat)*v-u)*((d:Rat)*v-u)-e))(hκ:1000000000000000000000000000000*κ<1)
 (hN:nA p0 p1 p2 u e d*nA p0 p1 p2 u e d-e*(nB p1 p2 u e d*nB p1 p2 u e d)≠0):False:=by
 have eA:((nA p0 p1 p2 u e d:Int):Rat)=(u:Rat)*u*u+p2*d*(u*u)+p1*(d*d)*u+p0*(d*d*d)+e*(3*u+p2*d):=by unfold nA;simp only[Gq,FK];rfl
 have eB:((nB p1 p2 u e d:Int):Rat)=(e:Rat)+3*(u*u)+2*p2*d*u+p1*(d*d):=by unfold nB;simp only[Gq,FK];rfl
 have eN:((nA p0 p1 p2 u e d*nA p0 p1 p2 u e d-e*(nB p1 p2 u e d*nB p1 p2 u e d):Int):Rat)=(nA p0 p1 p2 u e d:Rat)*nA p0 p1 p2 u e d-e*((nB p1 p2 u e d:Rat)*nB p1 p2 u e d):=by simp only[Hr,FK]
 have n1:(1:Rat)<=((nA p0 p1 p2 u e d*nA p0 p1 p2 u e d-e*(nB p1 p2 u e d*nB p1 p2 u e d):Int):Rat)\/((nA p0 p1 p2 u e d*nA p0 p1 p2 u e d-e*(nB p1 p2 u e d*nB p1 p2 u e d):Int):Rat) <= -1:=by
  generalize nA p0 p1 p2 u e d*nA p0 p1 p2 u e d-e*(nB p1 p2 u e d*nB p1 p2 u e d)=N at hN
  rcases GG hN with z |z
  ·right;have:=rle (a:=N) (b := -1) (by omega);exact this
  ·left;have:=rle (a:=1) (b:=N) (by omega);exact this
 rw[eN]at n1;generalize (nA p0 p1 p2 u e d:Rat)=A at *
 generalize (nB p1 p2 u e d:Rat)=B at *
 clear eN hN;generalize (p0:Rat)=q0 at *
 generalize (p1:Rat)=q1 at *
 generalize (p2:Rat)=q2 at *
 generalize (u:Rat)=U at *
 generalize (e:Rat)=E at *
 generalize (d:Rat)=D at *
 have k0:0<=κ:=by obtain⟨h1,h2⟩:=hp;grind
 have bY:Bd 300 (D*v-U):=by have h1:=bd.mul hv;obtain⟨h2,h3⟩:=h1;obtain⟨h4,h5⟩:=bu;exact⟨by grind,by grind⟩
 have b33:Bd 33 (3*U):=by obtain⟨h4,h5⟩:=bu;exact⟨by grind,by grind⟩
 have bC:Bd 60000 (3*U+q2*D):=(b33.add (b2.mul bd)).mono (by grind);have bYC:Bd 70000 (D*v-U+(3*U+q2*D)):=(bY.add bC).mono (by grind);have bDDD:Bd 27 (D*D*D):=((bd.mul bd).mul bd).mono (by grind);have bDD:Bd 9 (D*D):=(bd.mul bd).mono (by grind);have bUU:Bd 121 (U*U):=(bu.mul bu).mono (by grind)
 have bA:Bd 20000000 A:=by rw[eA];exact(((((bUU.mul bu).add ((b2.mul bd).mul bUU)).add ((b1.mul bDD).mul bu)).add (b0.mul bDDD)).add (be.mul bC)).mono (by grind)
 have bB:Bd 2000000 B:=by rw[eB];have c3:Bd 3 (3:Rat):=⟨by grind,by grind⟩;have c2:Bd 2 (2:Rat):=⟨by grind,by grind⟩;exact(((be.add (c3.mul bUU)).add (((c2.mul b2).mul bd).mul bu)).add (b1.mul bDD)).mono (by grind)
 have eps:A+B*(D*v-U)=D*D*D*(q0+v*(q1+v*(q2+v)))-((D*v-U)*(D*v-U)-E)*(D*v-U+(3*U+q2*D)):=by rw[eA,eB];grind
 have bneg:Bd (70000*κ) (-(((D*v-U)*(D*v-U)-E)*(D*v-U+(3*U+q2*D)))):=by obtain⟨h1,h2⟩:=hδ.mul bYC;exact⟨by grind,by grind⟩
 have bE:Bd (100000*κ) (A+B*(D*v-U)):=by rw[eps];have h1:=(bDDD.mul hp).add bneg;rw[show ∀a b:Rat,a-b=a + -b fromλa b=>by grind];exact h1.mono (by grind)
 have bM:Bd 1000000000 (A-B*(D*v-U)):=by obtain⟨h1,h2⟩:=bB.mul bY;obtain⟨h3,h4⟩:=bA;exact⟨by grind,by grind⟩
 have e2:A*A-E*(B*B)=(A+B*(D*v-U))*(A-B*(D*v-U))+B*B*((D*v-U)*(D*v-U)-E):=by grind
 have fin:=(bE.mul bM).add ((bB.mul bB).mul hδ);rw[<- e2]at fin;obtain⟨f1,f2⟩:=fin;rcases n1 with z |z<;>grind
theorem BC{m a b c:Int}(h:CubOk a b c m){u e d s:Int}(hu : -11<=u/\u<=11)(he:0<=e)(he':e<36)(hd:1<=d/\d<=3)(ns:NS e)(hs:s=1\/s = -1/\0<e){x y:Rat}(hxy:x<y)(hw:1000000000000000000000000000000000000000000*(y-x)<=1)(bx:Bd 68 x)
 (h1:0<=cdR m a b c x) (h1':cdR m a b c y<=0) (h2:0<sdR [u,e,d,s] x) (h2':sdR [u,e,d,s] y<=0):False:=by
 have cb:∀q∈aL m a b c,q.natAbs<16384:=λq hq=>by
  obtain⟨s1,s2,s3⟩:=h.small;have a9:=h.a9;have q1:(a*a).natAbs<=9*9:=bU (by omega) (by omega);have q2:(a*a*a).natAbs<=9*9*9:=bU q1 (by omega);have q3:(3*m*(b*c)*a).natAbs<=3*7*(3*3)*9:=bU s3 (by omega);have en:=kJ m a b c;simp only[aL,Ft,G7,or_false]at hq;rcases hq with rfl |rfl |rfl |rfl
  ·rw[en];omega
  ·omega
  ·omega
  ·decide
 have toB:∀{q:Int} {M:Int},-M<=q->q<=M->Bd (M:Rat) (q:Rat):=λ{q M} l r=>⟨by have:=rle l;rw[Rat.intCast_neg]at this;exact this,rle r⟩
 have B0:Bd 16384 ((-nrm m a b c:Int):Rat):=toB (M:=16384) (by have:=cb (-nrm m a b c) (by simp[aL]);omega) (by have:=cb (-nrm m a b c) (by simp[aL]);omega);have B1:Bd 16384 ((3*(a*a)-3*m*(b*c):Int):Rat):=toB (M:=16384) (by have:=cb (3*(a*a)-3*m*(b*c)) (by simp[aL]);omega) (by have:=cb (3*(a*a)-3*m*(b*c)) (by simp[aL]);omega);have B2:Bd 16384 ((-3*a:Int):Rat):=toB (M:=16384) (by have:=cb (-3*a) (by simp[aL]);omega) (by have:=cb (-3*a) (by simp[aL]);omega);have N:=BB (u:=u) (e:=e) (a:=a) h.nc h.bc (show 0<d by omega) he ns
 have pvx:∀v:Rat,pv (aL m a b c) v=((-nrm m a b c:Int):Rat)+v*(((3*(a*a)-3*m*(b*c):Int):Rat)+v*(((-3*a:Int):Rat)+v)):=λv=>by show((-nrm m a b c:Int):Rat)+v*(((3*(a*a)-3*m*(b*c):Int):Rat)+v*(((-3*a:Int):Rat)+v*(((1:Int):Rat)+v*0)))=_;rw[show((1:Int):Rat)+v*0=1 by grind,Rat.mul_one]
 have s1:pv (aL m a b c) x<=0:=by
  have:=md m a b c x;rcases bS (pv (aL m a b c) x)with⟨z,_⟩ |⟨z,_⟩ |⟨_,z⟩
  ·grind
  ·grind
  ·omega
 have s2:0<=pv (aL m a b c) y:=by
  have:=md m a b c y;rcases bS (pv (aL m a b c) y)with⟨_,z⟩ |⟨z,_⟩ |⟨z,_⟩
  ·omega
  ·grind
  ·grind
 rw[pvx]at s1 s2;have BU:Bd 11 (u:Rat):=toB (M:=11) hu.1 hu.2;have BE:Bd 36 (e:Rat):=toB (M:=36) (by omega) (by omega);have BD:Bd 3 (d:Rat):=toB (M:=3) (by omega) hd.2;have d1:(1:Rat)<=(d:Rat):=rle (a:=1) (b:=d) hd.1;have e0:(0:Rat)<=(e:Rat):=rle (a:=0) (b:=e) he;generalize -nrm m a b c=p0 at *
 generalize 3*(a*a)-3*m*(b*c)=p1 at *
 generalize -3*a=p2 at *
 have by':Bd 70 y:=by obtain⟨l,r⟩:=bx;exact⟨by grind,by grind⟩
 have bx':Bd 70 x:=bx.mono (by grind);have near:∀{v κ:Rat},Bd 70 v->Bd κ ((p0:Rat)+v*(p1+v*(p2+v)))->Bd κ (((d:Rat)*v-u)*((d:Rat)*v-u)-e)->1000000000000000000000000000000*κ<1->False:=λhv hp hδ hκ=>yD B0 B1 B2 BU BE BD hv hp hδ hκ N
 generalize (p0:Rat)=q0 at *
 generalize (p1:Rat)=q1 at *
 generalize (p2:Rat)=q2 at *
 have bK:Bd 10000000 (y*y+x*y+x*x+q2*(x+y)+q1):=((((by'.mul by').add (bx'.mul by')).add (bx'.mul bx')).add (B2.mul (bx'.add by')) |>.add B1).mono (by grind);have ed:(q0+y*(q1+y*(q2+y)))-(q0+x*(q1+x*(q2+x)))=(y-x)*(y*y+x*y+x*x+q2*(x+y)+q1):=by grind
 have bw:Bd (y-x) (y-x):=⟨by grind,by grind⟩;have bdf:=bw.mul bK;rw[<- ed]at bdf;have kap:1000000000000000000000000000000*((y-x)*10000000)<1:=by grind
 have bpx:Bd ((y-x)*10000000) (q0+x*(q1+x*(q2+x))):=by obtain⟨l,r⟩:=bdf;exact⟨by grind,by grind⟩
 have bpy:Bd ((y-x)*10000000) (q0+y*(q1+y*(q2+y))):=by obtain⟨l,r⟩:=bdf;exact⟨by grind,by grind⟩
 clear bdf ed bK s1 s2 B0 B1 B2 N;have eY:(d:Rat)*y-u=((d:Rat)*x-u)+d*(y-x):=by grind
 have bYx:Bd 300 ((d:Rat)*x-u):=by obtain⟨l,r⟩:=BD.mul bx';obtain⟨l2,r2⟩:=BU;exact⟨by grind,by grind⟩
 have bYy:Bd 300 ((d:Rat)*y-u):=by obtain⟨l,r⟩:=BD.mul by';obtain⟨l2,r2⟩:=BU;exact⟨by grind,by grind⟩
 have bη:Bd (3*(y-x)) ((d:Rat)*(y-x)):=BD.mul bw;have η0:0<(d:Rat)*(y-x):=FU (by grind) (by grind);rcases hs with rfl |⟨rfl,ep⟩
 ·have hy:¬((d:Rat)*y-u<0\/((d:Rat)*y-u)*((d:Rat)*y-u)<e):=λz=>by have:=(nH (u:=u) (e:=e) (b:=d) y).mpr z;omega
  have hx:=(nH (u:=u) (e:=e) (b:=d) x).mp h2;refine near by' bpy ?_ kap;generalize (d:Rat)*y-u=Y' at *
  generalize (d:Rat)*x-u=Y at *
  generalize (d:Rat)*(y-x)=η at *
  generalize (e:Rat)=E at *
  have y0:0<=Y':=by grind
  have y1:E<=Y'*Y':=by grind
  have b1:=bη.mul bYy;have b2:=bη.mul bYx;refine⟨by grind,?_⟩;rcases hx with z |z
  ·have:Y'*Y'<=η*Y':=FR (by grind) y0;obtain⟨_,r⟩:=b1;grind
  ·have:Y'*Y'-Y*Y=η*Y'+η*Y:=by rw[eY];grind
   obtain⟨_,r⟩:=b1;obtain⟨_,r2⟩:=b2;grind
 ·have hx:=(nI (u:=u) (e:=e) (b:=d) x).mp h2
  have hy:¬((d:Rat)*y-u<=0/\(e:Rat)<((d:Rat)*y-u)*((d:Rat)*y-u)):=λz=>by have:=(nI (u:=u) (e:=e) (b:=d) y).mpr z;omega
  refine near bx' bpx ?_ kap;generalize (d:Rat)*y-u=Y' at *
  generalize (d:Rat)*x-u=Y at *
  generalize (d:Rat)*(y-x)=η at *
  generalize (e:Rat)=E at *
  obtain⟨x0,x1⟩:=hx;have b1:=bη.mul bYy;have b2:=bη.mul bYx;refine⟨by grind,?_⟩;by_cases z:Y'<=0
  ·have z2:Y'*Y'<=E:=by
    rcases Gi (a:=Y'*Y') (b:=E)with w |w
    ·exact w
    ·grind
   have:Y*Y-Y'*Y' = -(η*Y')-η*Y:=by rw[eY];grind
   obtain⟨l,_⟩:=b1;obtain⟨l2,_⟩:=b2;grind
  ·have z':0<Y':=by grind
   have h3:0 <= -Y:=by grind
   have h4 : -Y * -Y<=η * -Y:=FR (by grind) h3;obtain⟨l2,_⟩:=b2;grind
noncomputable def d9(ps:List (List Int)):List (List Int×Nat):=ps.map λp=>(p,1)
theorem uv{ps:List (List Int)}(hp:∀p∈ps,Pri p)(hn:ps.Nodup):Use (d9 ps):=by
 refine⟨λp h=>?_,λp h=>?_,?_⟩
 ·obtain⟨f,hf,rfl⟩:=Fo.mp h;exact hp f hf
 ·obtain⟨f,hf,rfl⟩:=Fo.mp h;exact Fl _
 ·unfold d9;rw[Go];show(ps.map id).Nodup;rw[List.map_id];exact hn
theorem uu{c:Int}{ps:List (List Int)}:whl c (d9 ps)=ad [c] (prd ps):=by
 unfold whl
 congr 1
 have e1:fP id (d9 ps)=flt (d9 ps):=f8 _ λp hp=>by obtain⟨f,hf,rfl⟩:=Fo.mp hp;rfl
 rw[e1,sk]
 congr 1
 unfold d9;rw[Go];show ps.map id=ps;exact List.map_id _
theorem uw{ps:List (List Int)}:mor (d9 ps) 1=[1]:=by unfold mor;rw[f8 (h:=λ_=>0) _ λp hp=>by obtain⟨f,hf,rfl⟩:=Fo.mp hp;rfl];exact sr _
theorem qg{c:Int}{ps:List (List Int)}(hp:∀p∈ps,Pri p)(hn:ps.Nodup)(hc:c≠0)(hl:(ad [c] (prd ps)).length<=20):Cop2 (ad [c] (prd ps)) (slopeL (ad [c] (prd ps))):=λd dn dt h1 h2=>by
 have U:=uv hp hn;have ew:=uu (c:=c) (ps:=ps);obtain⟨tw,nw,_⟩:=nC U hc;have hcom:=um U hc (by rw[ew];exact hl);rw[uw]at hcom;rw[<- ew]at h1 h2 hl;have h3:=(sY (by rw[e8];omega) tw (gj tw)).all d h1 h2;rw[hcom]at h3;rcases Nat.lt_or_ge 1 d.length with z |z
 ·have:=Dv.short dn dt ((tr_snoc (r:=[])).mpr (by decide)) (show([1]:List Int).length<d.length from z) h3;cases this
 ·exact z
structure Cts(P:List Int)(S:List (Rat->Int)):Prop where
 tr:Tr P
 ne:P≠[]
 cop:Cop2 P (slopeL P)
 cut:∀s∈S,Cut s
 sg:∃ε:Int,(ε=1\/ε = -1)/\∀x,sgR (pv P x)=ε*cpr x S
 ap:∀x y:Rat,x<y->y-x<=1/2^200->S.Pairwise λs t=>¬(inC s x y/\inC t x y)
theorem Cts.row{P:List Int}{S:List (Rat->Int)}(C:Cts P S)(hs:slopeL P≠[]){N:Nat}(hN:P.length<=N+1){t n t' n':Int}(hn:0<n)(hn':0<n')(hlt:t*n'<t'*n) :
 vr 0 (sgv (aO (N+1) (ah P) (ah (slopeL P))) t n)-vr 0 (sgv (aO (N+1) (ah P) (ah (slopeL P))) t' n')=cnt S ((t:Rat)/(n:Rat)) ((t':Rat)/(n':Rat)):=by
 obtain⟨tP,nP,cop,hS,⟨ε,hε,hf⟩,hp⟩:=C;have tS:=gj tP;obtain⟨g0,t0,n0,e0⟩:=eD tP nP;have copS:=cop.shr tP nP tS;have lS:(ah (slopeL P)).length=P.length-1:=by unfold ah;rw[Fk,e8]
 have hst:=kv N (ah P) (ah (slopeL P)) (by omega) t0 n0 (cZ tS) copS;obtain⟨g1,t1,n1,e1⟩:=eD tS hs
 have hN1:1<=N:=by have:=Fm.mpr n1;omega
 obtain⟨M,rfl⟩:∃M,N=M+1:=⟨N-1,by omega⟩
 have er:aO (M+1+1) (ah P) (ah (slopeL P))=ah P::ah (slopeL P)::aO M (nxt (ah P) (ah (slopeL P))) (nxt (ah (slopeL P)) (nxt (ah P) (ah (slopeL P)))):=by show(if ah P=[]then _ else ah P::(if ah (slopeL P)=[]then _ else _))=_;rw[if_neg n0,if_neg n1]
 rw[er]at hst ⊢;have g0':(0:Rat)<((ai P:Int):Rat):=FN.mpr g0;have g1':(0:Rat)<((ai (slopeL P):Int):Rat):=FN.mpr g1
 have hd:∀x,pv (slopeL (ah P)) x=((ai (slopeL P):Int):Rat)/((ai P:Int):Rat)*pv (ah (slopeL P)) x:=λx=>by
  have h1:=gy (a:=slopeL (ah P)) (c:=slopeL P) (u:=(ai P:Int)) x λk=>by rw[dj,dj,e0 (k+1)];grind
  have h2:=gy (a:=ah (slopeL P)) (c:=slopeL P) (u:=(ai (slopeL P):Int)) x e1;have h3:((ai (slopeL P):Int):Rat)/((ai P:Int):Rat)*((ai P:Int):Rat)=((ai (slopeL P):Int):Rat):=FM (by grind);rw[h1]at h2
  have h4:((ai P:Int):Rat)*pv (slopeL (ah P)) x=((ai P:Int):Rat)*(((ai (slopeL P):Int):Rat)/((ai P:Int):Rat)*pv (ah (slopeL P)) x):=by
   rw[h2];generalize ((ai (slopeL P):Int):Rat)/((ai P:Int):Rat)=w at *
   rw[<- h3];grind
  generalize pv (slopeL (ah P)) x=u at *
  generalize ((ai (slopeL P):Int):Rat)/((ai P:Int):Rat)*pv (ah (slopeL P)) x=v at *
  have h5:((ai P:Int):Rat)*(u-v)=0:=by grind
  rcases Rat.mul_eq_zero.mp h5 with z |z
  ·grind
  ·grind
 have hf':∀x,sgR (pv (ah P) x)=ε*cpr x S:=λx=>by rw[<- hf,gy (a:=ah P) (c:=P) (u:=(ai P:Int)) x e0,ph g0']
 have:=uX hst (eH g1' g0') hd hS hε hf' (eH (by decide) (Rat.pow_pos (by decide))) hp ((cR hn hn').mpr hlt);rw[o8 hn,o8 hn'];exact this
theorem BG{m a b c:Int}(h:CubOk a b c m){u e d s:Int}(hu : -11<=u/\u<=11)(he:0<=e)(he':e<36)(hd:1<=d/\d<=3)(ns:NS e)(hs:s=1\/s = -1/\0<e){x y:Rat}(hxy:x<y)(hw:y-x<=1/2^200):¬(inC (cdR m a b c) x y/\inC (sdR [u,e,d,s]) x y):=by
 rintro⟨⟨h1,h1'⟩,h2,h2'⟩;have cc:=mB (a:=a) h.nc h.bc
 have cs:Cut (sdR [u,e,d,s]):=by
  refine fG (eC (f:=[u,e,d]) rfl hd.1 ?_).1;unfold spF;rcases hs with rfl |⟨rfl,ep⟩
  ·exact GJ _ (by show _∈if 0<=e then _ else _;rw[if_pos he];exact Fu.mpr rfl)
  ·exact FO _ (by show _∈if 0<e then _ else _;rw[if_pos ep];exact Fu.mpr rfl)
 have F:=SpI.first h
 have l64:cdR m a b c (-64)=1:=by have:=mz (a:=a) (t := -64) (n:=1) h.nc h.bc (by decide);rw[show((-64:Int):Rat)/((1:Int):Rat) = -64 by decide +kernel]at this;rw[this];have:0<aM m a b c (-64) 1:=F.lp;unfold sg;rw[if_neg (by omega),if_pos this]
 have r64:cdR m a b c 64 = -1:=by have:=mz (a:=a) (t:=64) (n:=1) h.nc h.bc (by decide);rw[show((64:Int):Rat)/((1:Int):Rat)=64 by decide +kernel]at this;rw[this];have:aM m a b c 64 1<0:=F.hn;unfold sg;rw[if_pos this]
 have x64:x<=64:=Gj.mp λz=>by have:=cc.m 64 x z (by omega);omega
 have y64 : -64<=y:=Gj.mp λz=>by have:=cc.m y (-64) z (by omega);omega
 have hw':1000000000000000000000000000000000000000000000*(y-x)<=1:=by
  have:(1:Rat)/2^200<=1/1000000000000000000000000000000000000000000000:=by decide +kernel
  grind
 have z1:0<sdR [u,e,d,s] (x-(y-x)):=by
  rcases cs.u (x-(y-x))with z |z |z
  ·omega
  ·have:=cs.m (x-(y-x)) x (by grind) (by omega);omega
  ·have:=cs.m (x-(y-x)) x (by grind) (by omega);omega
 have z2:0<=cdR m a b c (x-(y-x)):=by
  rcases cc.u (x-(y-x))with z |z |z
  ·omega
  ·omega
  ·have:=cc.m (x-(y-x)) x (by grind) (by omega);omega
 exact BC h hu he he' hd ns hs (x:=x-(y-x)) (y:=y) (by grind) (by grind) ⟨by grind,by grind⟩ z2 h1' z1 h2'
def Fac11(f:List Int):Prop:=∃u e b:Int,f=[u,e,b] /\ -11<=u/\u<=11 /\ -36<e/\e<36/\1<=b/\b<=3/\NS e
theorem Fac11.g{f:List Int}(h:Fac11 f):FacG f:=by obtain⟨u,e,b,rfl,h1,h2,h3,h4,h5,h6,h7⟩:=h;exact⟨u,e,b,rfl,by omega,by omega,by omega,by omega,h5,by omega,h7⟩
theorem Bz{m a b c:Int}(h:CubOk a b c m){f l:List Int}(hf:Fac11 f)(hl:l∈spF f){x y:Rat}(hxy:x<y)(hw:y-x<=1/2^200):¬(inC (cdR m a b c) x y/\inC (sdR l) x y):=by obtain⟨u,e,b',rfl,h1,h2,h3,h4,h5,h6,h7⟩:=hf;obtain⟨_,s,rfl,he,hs⟩:=eC rfl h5 hl;exact BG h ⟨h1,h2⟩ he h4 ⟨h5,h6⟩ h7 hs hxy hw
theorem vn{f:List Int}(h:FacG f):(ar f).length<=3:=by obtain⟨u,e,b,rfl,_⟩:=h;show(aI (aA u e b)).length<=3;rw[plain_len];unfold aA;split<;>simp
theorem Bs{m a b c:Int}(h:CubOk a b c m){fs:List (List Int)}(hF:∀f∈fs,Fac11 f)(hn:(fs.map ar).Nodup){P:List Int}(hP:P=ad (aL m a b c) (prd (fs.map ar)))(hl:P.length<=20):Cts P (cdR m a b c::(spots fs).map sdR):=by
 have hFG:∀f∈fs,FacG f:=λf hf=>(hF f hf).g
 have hFQ:∀f∈fs,fw f:=λf hf=>(hFG f hf).q
 have pri:∀p∈aL m a b c::fs.map ar,Pri p:=λp hp=>by
  rcases Ft.mp hp with rfl |hp
  ·exact BA h.nc h.bc
  ·obtain⟨f,hf,rfl⟩:=Fo.mp hp;exact fc (hFG f hf)
 have nd:(aL m a b c::fs.map ar).Nodup:=GL.mpr ⟨λz=>by
  obtain⟨f,hf,e⟩:=Fo.mp z;have:=vn (hFG f hf);rw[e]at this
  exact absurd this (by show ¬(4<=3);decide),hn⟩
 have pl:Pln (prd (fs.map ar)):=gz _ λs hs=>by obtain⟨f,hf,rfl⟩:=Fo.mp hs;exact(fc (hFG f hf)).pln
 have tP:Tr P:=by rw[hP];exact eo (ma m a b c) pl.tr
 have e1:ad [1] P=P:=one_mul P tP;have eP:P=ad [1] (prd (aL m a b c::fs.map ar)):=by rw[<- e1,hP];rfl
 have nP:P≠[]:=by rw[hP];intro z;have:=congrArg List.length z;rw[bN (fg m a b c).ne pl.ne]at this;have h4:(aL m a b c).length=4:=rfl;rw[h4]at this;have:4+(prd (fs.map ar)).length-1=0:=this;omega
 have cop:=qg (c:=1) pri nd (by decide) (by rw[<- eP];exact hl);rw[<- eP]at cop;refine⟨tP,nP,cop,λs hs=>?_,⟨1,.inl rfl,λx=>?_⟩,λx y hxy hw=>?_⟩
 ·rcases Ft.mp hs with rfl |hs
  ·exact mB h.nc h.bc
  ·obtain⟨l,hl,rfl⟩:=Fo.mp hs;exact fG (fB hFQ hl)
 ·have h1:=jI (t:=x.num) (bL x) (fg m a b c).ne pl.ne;rw[<- hP,dw (bL x),dw (bL x),dw (bL x),f9,md]at h1;have h2:=qc (t:=x.num) (n:=x.den) (c:=1) (bL x) hFQ;rw[kC λs hs=>by obtain⟨f,hf,rfl⟩:=Fo.mp hs;exact fc (hFG f hf),one_mul _ pl.tr,dw (bL x),f9,<- mh]at h2;rw[h1,h2];simp only[cpr];rw[show sg 1=1 from rfl,FJ,FJ]
 ·refine Hy.mpr ⟨λt ht=>?_,?_⟩
  ·obtain⟨l,hl,rfl⟩:=Fo.mp ht;obtain⟨f,hf,hm⟩:=List.mem_flatMap.mp hl;exact Bz h (hF f hf) hm hxy hw
  ·rw[Hm];exact(og hFG hn).imp_of_mem λ{l l'} hl hl' h=>t9 (fB hFQ hl) (fB hFQ hl') h hxy hw
theorem Br{fs:List (List Int)}(hF:∀f∈fs,FacG f)(hn:(fs.map ar).Nodup){P:List Int}(hP:P=prd (fs.map ar))(hl:P.length<=20):Cts P ((spots fs).map sdR):=by
 have hFQ:∀f∈fs,fw f:=λf hf=>(hF f hf).q
 have pri:∀p∈fs.map ar,Pri p:=λp hp=>by obtain⟨f,hf,rfl⟩:=Fo.mp hp;exact fc (hF f hf)
 have pl:Pln (prd (fs.map ar)):=gz _ λs hs=>(pri s hs).pln
 have e1:ad [1] P=P:=one_mul P (by rw[hP];exact pl.tr);have eP:P=ad [1] (prd (fs.map ar)):=by rw[<- e1,hP]
 have cop:=qg (c:=1) pri hn (by decide) (by rw[<- eP];exact hl);rw[<- eP]at cop;refine⟨by rw[hP];exact pl.tr,by rw[hP];exact pl.ne,cop,λs hs=>?_,⟨1,.inl rfl,λx=>?_⟩,λx y hxy hw=>?_⟩
 ·obtain⟨l,hl,rfl⟩:=Fo.mp hs;exact fG (fB hFQ hl)
 ·have h2:=qc (t:=x.num) (n:=x.den) (c:=1) (bL x) hFQ;rw[kC pri,one_mul _ pl.tr,dw (bL x),f9,<- mh,<- hP]at h2;rw[h2];rfl
 ·rw[Hm];exact(og hF hn).imp_of_mem λ{l l'} hl hl' h=>t9 (fB hFQ hl) (fB hFQ hl') h hxy hw
noncomputable def bV(l:List Int)(t n:Int):Int:=if l.length=5 then aM (cf l 3) (cf l 0) (cf l 1) (cf l 2) t n else aU l t n
noncomputable def bX(l:List Int)(x:Rat):Int:=if l.length=5 then cdR (cf l 3) (cf l 0) (cf l 1) (cf l 2) x else sdR l x
def SpK(l:List Int):Prop:=(∃a b c m:Int,l=[a,b,c,m,0]/\CubOk a b c m)\/(∃a:Int,l=[a,0,0,2,0] /\ -9<=a/\a<=9)\/∃u e b s:Int,l=[u,e,b,s] /\ -11<=u/\u<=11/\0<=e/\e<36/\1<=b/\b<=3/\(s=1\/s = -1/\0<e)
theorem oh{u e b s:Int}(he:0<=e)(hb:1<=b)(hs:s=1\/s = -1/\0<e):Spt [u,e,b,s]:=by
 refine(eC (f:=[u,e,b]) rfl hb ?_).1;unfold spF;rcases hs with rfl |⟨rfl,ep⟩
 ·exact GJ _ (by show _∈if 0<=e then _ else _;rw[if_pos he];exact Fu.mpr rfl)
 ·exact FO _ (by show _∈if 0<e then _ else _;rw[if_pos ep];exact Fu.mpr rfl)
theorem yB(x:Int):nrm 2 x 0 0=x*x*x:=qB 2 x
theorem gR(a t n:Int):bV [a,0,0,2,0] t n=(a*n-t)*(a*n-t)*(a*n-t):=by show nrm 2 (a*n-t) (0*n) (0*n)=_;rw[FV,yB]
theorem jJ(x:Int):sg (x*x*x)=sg x:=by
 rcases Int.lt_trichotomy x 0 with h |h |h
 ·have h1:0<x*x:=Int.mul_pos_of_neg_of_neg h h;have h2:x*x*x<0:=HF h1 h;unfold sg;rw[if_pos h2,if_pos h]
 ·rw[h];rfl
 ·have h2:0<x*x*x:=i9 h;unfold sg;rw[if_neg (by omega),if_pos h2,if_neg (by omega),if_pos h]
theorem o5(a t n:Int):aU [a,0,1,1] t n=sg (a*n-t):=by
 have e:aU [a,0,1,1] t n=aX (0*n*n) (1*t-a*n):=rfl;rw[e,FV,FV,FJ];rcases Int.lt_trichotomy (a*n-t) 0 with h |h |h
 ·have h1:0<(t-a*n)*(t-a*n):=Fz (by omega) (by omega);unfold aX sg;rw[if_neg (by omega),if_pos h1,if_pos h];rfl
 ·have h1:t-a*n=0:=by omega
  rw[h1,h];rfl
 ·unfold aX sg;rw[if_pos (.inl (by omega)),if_neg (by omega),if_pos h]
theorem lY(a:Int):bX [a,0,0,2,0]=sdR [a,0,1,1]:=funext λx=>by show sg (bV [a,0,0,2,0] x.num x.den)=aU [a,0,1,1] x.num x.den;rw[gR,jJ,o5]
theorem SpK.cut{l:List Int}(h:SpK l):Cut (bX l):=by
 rcases h with⟨a,b,c,m,rfl,hC⟩ |⟨a,rfl,_⟩ |⟨u,e,b,s,rfl,_,_,he,_,hb,_,hs⟩
 ·exact mB hC.nc hC.bc
 ·rw[lY];exact fG (oh (by decide) (by decide) (.inl rfl))
 ·exact fG (oh he hb hs)
theorem vw(l:List Int)(t n:Int):sg (aU l t n)=aU l t n:=by rcases o6 l t n with h |h |h<;>rw[h]<;>rfl
theorem SpK.div{l:List Int}(h:SpK l){t n:Int}(hn:0<n):bX l ((t:Rat)/(n:Rat))=sg (bV l t n):=by
 rcases h with⟨a,b,c,m,rfl,hC⟩ |⟨a,rfl,_⟩ |⟨u,e,b,s,rfl,_,_,he,_,hb,_,hs⟩
 ·exact mz hC.nc hC.bc hn
 ·rw[lY,ic _ hn,o5,gR,jJ]
 ·show sdR [u,e,b,s] _=sg (aU [u,e,b,s] t n);rw[ic _ hn,vw]
theorem SpK.first{l:List Int}(h:SpK l):0<bV l (-64) 1/\bV l 64 1<=0:=by
 rcases h with⟨a,b,c,m,rfl,hC⟩ |⟨a,rfl,h1,h2⟩ |⟨u,e,b,s,rfl,h1,h2,he,he',hb,hb',hs⟩
 ·have F:=SpI.first hC;exact⟨F.lp,Fq F.hn⟩
 ·rw[gR,gR];refine⟨i9 (by omega),?_⟩;have h3:=jJ (a*1-64);have h4:sg (a*1-64) = -1:=by unfold sg;rw[if_pos (by omega)]
  rw[h4]at h3;unfold sg at h3
  generalize (a*1-64)*(a*1-64)*(a*1-64)=X at h3
  split at h3
  ·omega
  ·split at h3<;>omega
 ·have q:∀x:Int,50<=x->e<x*x:=λx hx=>by have:=GQ hx hx (by decide) (by omega);omega
  show 0<aU [u,e,b,s] (-64) 1/\aU [u,e,b,s] 64 1<=0;rcases hs with rfl |⟨rfl,ep⟩
  ·have e1:aU [u,e,b,1] (-64) 1=aX (e*1*1) (b * -64-u*1):=rfl;have e2:aU [u,e,b,1] 64 1=aX (e*1*1) (b*64-u*1):=rfl;rw[e1,e2,FT,FT,FT];rcases bP e (b * -64-u)with⟨z,_⟩ |⟨z,y,_⟩ |⟨z,y,_⟩<;>rcases bP e (b*64-u)with⟨w,v⟩ |⟨w,_⟩ |⟨w,_⟩<;>rw[z,w]<;>try omega
   have:=q (b*64-u) (by omega);omega
  ·have e1:aU [u,e,b,-1] (-64) 1=0-aX (e*1*1) (0-(b * -64-u*1)):=rfl;have e2:aU [u,e,b,-1] 64 1=0-aX (e*1*1) (0-(b*64-u*1)):=rfl;rw[e1,e2,FT,FT,FT];have:=q (0-(b * -64-u)) (by omega);rcases bP e (0-(b * -64-u))with⟨z,y⟩ |⟨z,_,y⟩ |⟨z,_,y⟩<;>rcases bP e (0-(b*64-u))with⟨w,_⟩ |⟨w,v,_⟩ |⟨w,v,_⟩<;>rw[z,w]<;>omega
theorem nD{l:List Int}(h:SpK l)(t n:Int):(0<bV l (2*t) (2*n)↔0<bV l t n)/\(bV l (2*t) (2*n)<=0↔bV l t n<=0):=by
 rcases h with⟨a,b,c,m,rfl,hC⟩ |⟨a,rfl,_⟩ |⟨u,e,b,s,rfl,_⟩
 rotate_left
 ·show(0<aM 2 a 0 0 (2*t) (2*n)↔0<aM 2 a 0 0 t n)/\(aM 2 a 0 0 (2*t) (2*n)<=0↔aM 2 a 0 0 t n<=0);rw[gS];omega
 rotate_left
 ·show(0<aM m a b c (2*t) (2*n)↔0<aM m a b c t n)/\(aM m a b c (2*t) (2*n)<=0↔aM m a b c t n<=0);rw[gS];omega
 ·show(0<aU [u,e,b,s] (2*t) (2*n)↔0<aU [u,e,b,s] t n)/\(aU [u,e,b,s] (2*t) (2*n)<=0↔aU [u,e,b,s] t n<=0);rw[jC _ (by decide)];exact⟨Iff.rfl,Iff.rfl⟩
noncomputable def hfG(l:List Int)(s:Int×Int×Int):Int×Int×Int:=if bV l (s.1+s.2.1) (2*s.2.2)<=0 then(2*s.1,s.1+s.2.1,2*s.2.2)else(s.1+s.2.1,2*s.2.1,2*s.2.2)
noncomputable def itG(l:List Int):Nat->Int×Int×Int
 |0=>(-64,64,1)
 |j+1=>hfG l (itG l j)
structure SpG(l:List Int)(s:Int×Int×Int)(j:Nat):Prop where
 n:s.2.2=2^j
 w:s.2.1=s.1+128
 lo : -64*s.2.2<=s.1
 hi:s.2.1<=64*s.2.2
 lp:0<bV l s.1 s.2.2
 hn:bV l s.2.1 s.2.2<=0
theorem SpG.pos{l:List Int}{s:Int×Int×Int}{j:Nat}(S:SpG l s j):0<s.2.2:=by rw[S.n];exact Int.pow_pos (by decide)
theorem SpG.half{l:List Int}(h:SpK l){s:Int×Int×Int}{j:Nat}(S:SpG l s j):SpG l (hfG l s) (j+1):=by
 have p:=S.pos;obtain⟨n,w,l',hh,lp,hn⟩:=S;have e2:2*s.2.2=2^(j+1):=by rw[n,Gg,FX]
 unfold hfG;split
 ·next z=>exact⟨e2,by show s.1+s.2.1=2*s.1+128;omega,by show -64*(2*s.2.2)<=2*s.1;omega,by show s.1+s.2.1<=64*(2*s.2.2);omega,(nD h _ _).1.mpr lp,z⟩
 ·next z=>exact⟨e2,by show 2*s.2.1=s.1+s.2.1+128;omega,by show -64*(2*s.2.2)<=s.1+s.2.1;omega,by show 2*s.2.1<=64*(2*s.2.2);omega,by show 0<bV l (s.1+s.2.1) (2*s.2.2);omega,(nD h _ _).2.mpr hn⟩
theorem f6{l:List Int}(h:SpK l):∀j,SpG l (itG l j) j
 |0=>⟨rfl,rfl,by show(-64:Int)*1 <= -64;decide,by show(64:Int)<=64*1;decide,h.first.1,h.first.2⟩
 |j+1=>(f6 h j).half h
theorem c0{x:Int}:(0<=sg x↔0<=x)/\(sg x<=0↔x<=0)/\(0<sg x↔0<x):=by
 unfold sg;split
 ·omega
 ·split<;>omega
def RS(x y:Rat)(l l':List Int):Prop:=¬(inC (bX l) x y/\inC (bX l') x y)
theorem vY{x y:Rat}{ls:List (List Int)}(h:(ls.map bX).Pairwise λs t=>¬(inC s x y/\inC t x y)){l l':List Int}(hl:l∈ls)(hl':l'∈ls)(ne:l'≠l):RS x y l l':=by
 rw[Hm]at h
 induction h with
 |nil=>cases hl
 | @cons a t ha _ ih =>
  rcases Ft.mp hl with e |h1
  ·rcases Ft.mp hl' with e' |h2
   ·exact absurd (e'.trans e.symm) ne
   ·rw[e];exact ha l' h2
  ·rcases Ft.mp hl' with e' |h2
   ·rw[e'];exactλz=>ha l h1 ⟨z.2,z.1⟩
   ·exact ih h1 h2
theorem SpG.thin{l:List Int}{s:Int×Int×Int}{j:Nat}(S:SpG l s j)(hj:207<=j):((s.1:Rat)/(s.2.2:Rat))<((s.2.1:Rat)/(s.2.2:Rat))/\((s.2.1:Rat)/(s.2.2:Rat))-((s.1:Rat)/(s.2.2:Rat))<=1/2^200:=by
 have p:=S.pos;have w:=S.w;refine⟨(cR p p).mpr (Gy (by omega) p),?_⟩;have pr:(0:Rat)<(s.2.2:Rat):=FN.mpr p;have hw:(s.2.1:Rat)=(s.1:Rat)+128:=by rw[w,Gq];rfl
 have e1:((s.2.1:Rat)/(s.2.2:Rat))-((s.1:Rat)/(s.2.2:Rat))=128/(s.2.2:Rat):=by rw[hw,Rat.div_def,Rat.div_def,Rat.div_def];grind
 rw[e1]
 have n1:(2:Int)^207<=s.2.2:=by
  rw[S.n];have:(2:Nat)^207<=2^j:=Hu (by decide) hj;have e:∀k:Nat,((2:Int)^k)=((2^k:Nat):Int):=λk=>by rw[Int.natCast_pow];rfl
  rw[e,e];exact Int.ofNat_le.mpr this
 have n2:(128*2^200:Rat)<=(s.2.2:Rat):=by
  have:=rle n1;have e:(((2:Int)^207:Int):Rat)=128*2^200:=by decide +kernel
  rw[e]at this;exact this
 have q:(0:Rat)<2^200:=Rat.pow_pos (by decide);generalize (2:Rat)^200=B at q n2 ⊢
 generalize (s.2.2:Rat)=N at pr n2 ⊢
 have h1:128/N*N=128:=FM (by grind);have h2:1/B*B=1:=FM (by grind);generalize 128/N=x at h1 ⊢
 generalize 1/B=y at h2 ⊢
 refine Gj.mp λz=>?_
 have y0:0<y:=GH.mp λw=>by have:=FR w (Fv q);grind
 have h3:y*N<x*N:=Hq z pr;have h4:128*B*y<=N*y:=FR n2 (Fv y0);have h5:128*B*y=128:=by rw[show 128*B*y=128*(y*B) by grind,h2];grind
 rw[h5,show N*y=y*N by grind]at h4;grind
theorem lH{l:List Int}(h:SpK l){t n t' n':Int}(hn:0<n)(hn':0<n'):inC (bX l) ((t:Rat)/(n:Rat)) ((t':Rat)/(n':Rat))↔0<=bV l t n/\bV l t' n'<=0:=by unfold inC;rw[h.div hn,h.div hn',c0.1,c0.2.1]
structure Fel(P:List Int)(ls:List (List Int)):Prop where
 ct:Cts P (ls.map bX)
 sp:∀l∈ls,SpK l
def cO(ls:List (List Int))(l:List Int)(s:Int×Int×Int):Prop:=∀x∈ls,x≠l->¬(0<=bV x s.1 s.2.2/\bV x s.2.1 s.2.2<=0)
theorem Fel.far{P:List Int}{ls:List (List Int)}(F:Fel P ls){l:List Int}(hl:l∈ls){s:Int×Int×Int}{j:Nat}(S:SpG l s j)(hj:207<=j):cO ls l s:=λx hx ne z=>by obtain⟨t1,t2⟩:=S.thin hj;have p:=S.pos;exact vY (F.ct.ap _ _ t1 t2) hl hx ne ⟨(lH (F.sp l hl) p p).mpr ⟨Fq S.lp,S.hn⟩,(lH (F.sp x hx) p p).mpr z⟩
theorem nZ{α:Type}[DecidableEq α]{f:α->Int}{l:α}:∀{ls:List α},l∈ls->ls.Pairwise (λa b=>¬(a=l/\b=l))->(∀x∈ls,x≠l->f x=0)->f l=1->(ls.map f).sum=1
 | [],h,_,_,_=>by cases h
 |a::t,h,hp,h0,h1=>by
  obtain⟨p1,p2⟩:=Hy.mp hp;rw[FZ,List.sum_cons];by_cases e:a=l
  ·have:(t.map f).sum=0:=by
    have z:∀x∈t,f x=0:=λx hx=>h0 x (Fs _ hx) λy=>p1 x hx ⟨e,y⟩
    clear p1 p2 hp h h0
    induction t with
    |nil=>rfl
    |cons b t ih=>rw[FZ,List.sum_cons,z b (Fx ..),ih λx hx=>z x (Fs _ hx)];rfl
   rw[this,e,h1];rfl
  ·rw[h0 a (Fx ..) e,nZ ((Ft.mp h).resolve_left (Ne.symm e)) p2 (λx hx=>h0 x (Fs _ hx)) h1];rfl
theorem Fel.one{P:List Int}{ls:List (List Int)}(F:Fel P ls){l:List Int}(hl:l∈ls){s:Int×Int×Int}{j:Nat}(S:SpG l s j)(hA:cO ls l s):cnt (ls.map bX) ((s.1:Rat)/(s.2.2:Rat)) ((s.2.1:Rat)/(s.2.2:Rat))=1:=by
 have p:=S.pos;have G:=f6 (F.sp l hl) 207;obtain⟨t1,t2⟩:=G.thin (Fl _);have pw:=F.ct.ap _ _ t1 t2;rw[Hm]at pw;have inl:=(lH (F.sp l hl) (t:=(itG l 207).1) (t':=(itG l 207).2.1) G.pos G.pos).mpr ⟨Fq G.lp,G.hn⟩;unfold cnt;rw[Go];have pw2:ls.Pairwise (λa b=>¬(a=l/\b=l)):=pw.imp λ{a b} h z=>h (by rw[z.1,z.2];exact⟨inl,inl⟩)
 refine nZ hl pw2 (λx hx ne=>?_) ?_
 ·show(if 0<bX x _/\bX x _<=0 then(1:Int)else 0)=0;rw[(F.sp x hx).div p,(F.sp x hx).div p];exact if_neg λz=>hA x hx ne ⟨Fq (c0.2.2.mp z.1),c0.2.1.mp z.2⟩
 ·show(if 0<bX l _/\bX l _<=0 then(1:Int)else 0)=1;rw[(F.sp l hl).div p,(F.sp l hl).div p];exact if_pos ⟨c0.2.2.mpr S.lp,c0.2.1.mpr S.hn⟩
theorem InG{l:List Int}{s:Int×Int×Int}{j:Nat}(S:SpG l s j):InS s (hfG l s):=by
 have p:=S.pos;have w:=S.w;unfold hfG InS;split
 ·refine⟨by show s.1*(2*s.2.2)<=2*s.1*s.2.2;exact Int.le_of_eq (by grind),?_⟩;show(s.1+s.2.1)*s.2.2<=s.2.1*(2*s.2.2);have:=Gh (show s.1+s.2.1<=s.2.1*2 by omega) (Fq p);rw[Gn]at this;exact this
 ·refine⟨?_,by show 2*s.2.1*s.2.2<=s.2.1*(2*s.2.2);exact Int.le_of_eq (by grind)⟩;show s.1*(2*s.2.2)<=(s.1+s.2.1)*s.2.2;have:=Gh (show s.1*2<=s.1+s.2.1 by omega) (Fq p);rw[Gn]at this;exact this
theorem Fel.half{P:List Int}{ls:List (List Int)}(F:Fel P ls){l:List Int}{s:Int×Int×Int}{j:Nat}(hl:l∈ls)(S:SpG l s j)(hA:cO ls l s):cO ls l (hfG l s):=λx hx ne z=>by
 have p:=S.pos;have S2:=S.half (F.sp l hl);have p2:=S2.pos;have I:=InG S;have C:=(F.sp x hx).cut;refine hA x hx ne ?_;have q1:=(F.sp x hx).div (t:=s.1) p;have q2:=(F.sp x hx).div (t:=(hfG l s).1) p2;have q3:=(F.sp x hx).div (t:=s.2.1) p;have q4:=(F.sp x hx).div (t:=(hfG l s).2.1) p2;have z1:=c0.1.mpr z.1;have z2:=c0.2.1.mpr z.2;rw[<- q2]at z1;rw[<- q4]at z2;constructor
 ·rw[<- c0.1,<- q1];rcases G4 (s.1*(hfG l s).2.2) ((hfG l s).1*s.2.2)with y |y
  ·have lt:=(cR p p2).mpr y;rcases G4 (bX x ((s.1:Rat)/(s.2.2:Rat))) 0 with w |w
   ·have:=C.m _ _ lt (by omega);omega
   ·exact w
  ·have e:s.1*(hfG l s).2.2=(hfG l s).1*s.2.2:=Int.le_antisymm I.1 y;have:((s.1:Rat)/(s.2.2:Rat))=(((hfG l s).1:Rat)/((hfG l s).2.2:Rat)):=Rat.le_antisymm (Gj.mp λw=>absurd ((cR p2 p).mp w) (by omega)) (Gj.mp λw=>absurd ((cR p p2).mp w) (by omega));rw[this];exact z1
 ·rw[<- c0.2.1,<- q3];rcases G4 ((hfG l s).2.1*s.2.2) (s.2.1*(hfG l s).2.2)with y |y
  ·have lt:=(cR p2 p).mpr y;have:=C.m _ _ lt z2;omega
  ·have e:(hfG l s).2.1*s.2.2=s.2.1*(hfG l s).2.2:=Int.le_antisymm I.2 y;have:(((hfG l s).2.1:Rat)/((hfG l s).2.2:Rat))=((s.2.1:Rat)/(s.2.2:Rat)):=Rat.le_antisymm (Gj.mp λw=>absurd ((cR p p2).mp w) (by omega)) (Gj.mp λw=>absurd ((cR p2 p).mp w) (by omega));rw[<- this];exact z2
theorem dvd_cf{m:Nat}{l:List Int}:m∣ai l↔∀k,m∣(cf l k).natAbs:=by
 rw[dvd_gcdL];constructor
 ·intro h k;by_cases hk:k<l.length
  ·rw[bO hk];exact h _ (Gb hk)
  ·rw[aN (Gd hk)];exact Nat.dvd_zero _
 ·intro h v hv;obtain⟨k,hk,rfl⟩:=Gu hv;have:=h k;rw[bO hk]at this;exact this
theorem AM{l r:List Int}(h:∀k,(cf l k).natAbs=(cf r k).natAbs):ai l=ai r :=
 Nat.dvd_antisymm (dvd_cf.mpr λk=>by rw[<- h k];exact dvd_cf.mp (Gx _) k) (dvd_cf.mpr λk=>by rw[h k];exact dvd_cf.mp (Gx _) k)
theorem jc(a b:List Int)(k:Nat):cf (aT a b) k=cf a k-cf b k:=by
 rw[<- n5,di,d7];split
 ·rfl
 ·next h=>rw[aN (l:=a) (by omega),aN (l:=b) (by omega)];rfl
theorem mr(l:List Int)(k:Nat):cf (aT [] l) k = -cf l k:=by rw[jc,show cf [] k=0 from aN (Fn _)];omega
theorem rW(l:List Int):ai (aT [] l)=ai l:=AM λk=>by rw[mr];omega
theorem o7{l:List Int}(h:ai l=1):ah l=l:=by
 have e:=gv (l:=l);rw[h]at e
 have:scL ((1:Nat):Int) (ah l)=ah l:=by unfold scL;rw[show(λx:Int=>((1:Nat):Int)*x)=id from funext λx=>FJ x];exact List.map_id _
 rw[this]at e;exact e
theorem wE{l:List Int}(h:Tr l)(hne:l≠[]):ai (ah l)=1:=by
 obtain⟨p,_⟩:=eD h hne;have e:=iW (ai l:Int) (ah l);rw[gv,FQ]at e;have p':0<ai l:=by omega
 exact Nat.eq_of_mul_eq_mul_left p' (by rw[<- e,Nat.mul_one])
structure LnkF(one other:List Int):Prop where
 f:0<aF one other
 g:0<(ai (aj one other):Int)
 tq:Tr (aH one other)
 eq:∀n,aF one other*cf one n=ao (aH one other) other n-(ai (aj one other):Int)*cf (nxt one other) n
 sh:ah (nxt one other)=nxt one other
 tn:Tr (nxt one other)
 ln:(nxt one other).length<other.length
theorem zz{one other:List Int}(t1:Tr one)(t2:Tr other)(ho:other≠[])(hn:nxt one other≠[]):LnkF one other:=by
 have er:rst one other=aj one other:=by unfold rst;rw[if_neg ho]
 have ex:nxt one other=ah (aT [] (aj one other)):=by unfold nxt;rw[er]
 have ts:Tr (aT [] (aj one other)):=by unfold aT;exact bZ _
 have ns:aT [] (aj one other)≠[]:=λz=>hn (by rw[ex,z];rfl)
 have g:=(eD ts ns).1;have sc:=qz (one:=one) ho;rw[rW]at g sc;exact⟨sN ho t2,g,sI ho t1 t2,sc,by rw[ex];exact o7 (wE ts ns),nO one other,iD ho⟩
theorem dR(c:Int)(l:List Int)(n:Nat):cf (ad [c] l) n=c*cf l n:=by rw[aB];unfold ao;show sm [c] l n 0+tm [c] l n 0=_;unfold sm tm;rw[if_pos (Fn _),ml,GO,Gv]
theorem nM{c:Int}(h:c≠0):Tr [c]:=(tr_snoc (r:=[])).mpr h
theorem LnkF.sub{one other:List Int}(L:LnkF one other)(t1:Tr one):ad [aF one other] one=aT (ad (aH one other) other) (ad [(ai (aj one other):Int)] (nxt one other)):=by
 have f:=L.f;refine dM (eo (nM (by omega)) t1) (by unfold aT;exact bZ _) λk=>?_
 rw[dR,jc,dR,aB,L.eq k]
theorem LnkF.add{one other:List Int}(L:LnkF one other)(t1:Tr one):ad [aF one other] one=jg (ad (aH one other) other) (ad [0-(ai (aj one other):Int)] (nxt one other)):=by
 have f:=L.f;refine dM (eo (nM (by omega)) t1) (by unfold jg;exact bZ _) λk=>?_
 have e:cf (jg (ad (aH one other) other) (ad [0-(ai (aj one other):Int)] (nxt one other))) k=cf (ad (aH one other) other) k+cf (ad [0-(ai (aj one other):Int)] (nxt one other)) k:=by unfold jg;rw[di,fm,FJ]
 rw[e,dR,dR,aB,L.eq k,Gz,Int.neg_mul];exact Int.sub_eq_add_neg
theorem wR{l:List Int}(h:Pln l):ah l=l:=o7 h.prim
end RM
open PySem.W in
local macro_rules | `(tactic|walk_at "comp_ok")=>`(tactic|exact⟨by with_unfolding_all rfl,by decide +kernel,rfl,by decide +kernel,by repeat' (first |exact List.forall_mem_nil _ |refine List.forall_mem_cons.2 ⟨rfl,?_⟩),by rfl,by repeat' (first |exact .nil |refine .cons ⟨rfl,by first |exact Or.inl rfl |exact Or.inr rfl,rfl⟩ ?_)⟩)
namespace R83
open PySem L2 RM
noncomputable def top(i:Nat):Stmt:=PySem.Challenge.pw_rootspan_k83_looker_refuses.main.body.getD i (.Pass ⟨0,0,0,0⟩)
abbrev jQ:Stmt:=top 5
abbrev jP:Stmt:=top 6
abbrev jK:Stmt:=top 7
abbrev fH:Stmt:=rJ (top 8) 0
abbrev ku:Stmt:=rJ (top 8) 5
abbrev jR:Stmt:=top 10
abbrev jU:Stmt:=top 11
abbrev jM:Stmt:=top 12
abbrev jW:Stmt:=top 13
abbrev jS:Stmt:=top 14
abbrev jN:Stmt:=top 15
abbrev ie:Stmt:=top 16
abbrev jL:Stmt:=top 17
abbrev jO:Stmt:=top 18
abbrev jX:Stmt:=top 20
abbrev jV:Stmt:=top 21
abbrev jT:Stmt:=top 23
abbrev ij:Stmt:=top 24
abbrev ig:Stmt:=top 25
abbrev kr:Stmt:=top 27
abbrev jY:Stmt:=top 28
abbrev j0:Stmt:=top 29
abbrev kg:Stmt:=top 30
abbrev kj:Stmt:=top 31
abbrev j8:Stmt:=top 32
abbrev il:Stmt:=top 33
abbrev ke:Stmt:=top 34
abbrev km:Stmt:=top 35
abbrev j9:Stmt:=top 36
abbrev io:Stmt:=top 37
abbrev kd:Stmt:=top 38
abbrev j3:Stmt:=top 39
abbrev j7:Stmt:=top 40
abbrev ka:Stmt:=top 41
abbrev kf:Stmt:=top 42
abbrev kn:Stmt:=top 43
abbrev ko:Stmt:=top 44
abbrev jZ:Stmt:=top 45
abbrev ip:Stmt:=top 46
abbrev im:Stmt:=top 47
abbrev iq:Stmt:=top 48
abbrev ki:Stmt:=top 49
abbrev j6:Stmt:=top 50
abbrev kh:Stmt:=top 51
abbrev j4:Stmt:=top 52
abbrev j5:Stmt:=top 53
abbrev kt:Stmt:=top 54
abbrev ii:Stmt:=top 55
theorem scM{N P:List Str}{sc:Scope}(a:sc.kind=.function:=by rfl)(b:sc.isCoroutine=false:=by rfl)(c:sc.isGenerator=false:=by rfl)(e:N.Nodup:=by decide +kernel)(f:N.take P.length=P:=by rfl)(g:∀x∈P,sc.names.lookup x=some .local\/sc.names.lookup x=some .cell:=by decide +kernel)(h:∀y∈sc.names,y.2≠.free:=by decide +kernel):FnScope N P sc:=⟨a,b,c,e,f,g,h⟩
theorem sc_shared:FnScope ["row","divisor","value"] ["row"] (ax jQ):=scM
theorem sc_shared_by_two:FnScope ["one","other","greater","less","rest"] ["one","other"] (ax jP):=scM
theorem vG:FnScope ["value"] ["value"] (ax jK):=scM
theorem sc_Ratio___init__:FnScope ["self","top","bottom","divisor"] ["self","top","bottom"] (ax fH):=scM
theorem vS:FnScope ["self","other"] ["self","other"] (ax ku):=scM
theorem sc_poly:FnScope ["row","length"] ["row"] (ax jR):=scM
theorem vM:FnScope ["row"] ["row"] (ax jU):=scM
theorem sc_taken:FnScope ["first","second","length"] ["first","second"] (ax jM):=scM
theorem vO:FnScope ["row","place"] ["row","place"] (ax jW):=scM
theorem sc_multiplied:FnScope ["first","second","product","j","one","k","other"] ["first","second"] (ax jS):=scM
theorem vH:FnScope ["row"] ["row"] (ax jN):=scM
theorem sc_shrunk:FnScope ["row","divisor"] ["row"] (ax ie):=scM
theorem sc_value_parts:FnScope ["row","top","bottom","above","below","value"] ["row","top","bottom"] (ax jL):=scM
theorem vI:FnScope ["row","ratio"] ["row","ratio"] (ax jO):=scM
theorem sc_changes:FnScope ["row","ratio","many","before","polynomial","sign"] ["row","ratio"] (ax jX):=scM
theorem vN:FnScope ["row","low","high"] ["row","low","high"] (ax jV):=scM
theorem vK:FnScope ["polynomial","low","high","paper"] ["polynomial","low","high","paper"] (ax jT):=scM
theorem vL:FnScope ["polynomial","row","links"] ["polynomial","row","links"] (ax ij):=scM
theorem vJ:FnScope ["row","k","link"] ["row","k","link"] (ax ig):=scM
theorem vR:FnScope ["_law_script","_law_k"] ["_law_script","_law_k"] (ax kr):=scM
theorem vP:FnScope ["_law_cell","_law_most"] ["_law_cell","_law_most"] (ax jY):=scM
theorem sc__law_trim:FnScope ["_law_row","_law_size"] ["_law_row"] (ax j0):=scM
theorem sc__law_mul:FnScope ["_law_kp","_law_kq","_law_made","_law_i","_law_one","_law_j","_law_other"] ["_law_kp","_law_kq"] (ax kg):=scM
theorem sc__law_gcd:FnScope ["_law_a","_law_b","_law_rest"] ["_law_a","_law_b"] (ax kj):=scM
theorem sc__law_shared:FnScope ["_law_kp","_law_most","_law_one"] ["_law_kp"] (ax j8):=scM
theorem sc__law_shrunk:FnScope ["_law_kp","_law_most","_law_one"] ["_law_kp"] (ax il):=scM
theorem sc__law_plain:FnScope ["_law_kp","_law_made"] ["_law_kp"] (ax ke):=scM
theorem sc__law_factor_by:FnScope ["_law_cell","_law_most","_law_u","_law_b","_law_n","_law_e"] ["_law_cell","_law_most"] (ax km):=scM
theorem sc__law_shape:FnScope ["_law_factor","_law_u","_law_b"] ["_law_factor"] (ax j9):=scM
theorem sc__law_factors_by:FnScope ["_law_drawn","_law_most","_law_room","_law_made","_law_shapes","_law_cell","_law_one","_law_shape_here"] ["_law_drawn","_law_most","_law_room"] (ax io):=scM
theorem sc__law_product:FnScope ["_law_factors","_law_made","_law_one"] ["_law_factors"] (ax kd):=scM
theorem vQ:FnScope ["_law_square","_law_due"] ["_law_square","_law_due"] (ax j3):=scM
theorem sc__law_side:FnScope ["_law_spot","_law_top","_law_bottom","_law_due","_law_square"] ["_law_spot","_law_top","_law_bottom"] (ax j7):=scM
theorem sc__law_roots_of:FnScope ["_law_factors","_law_made","_law_one"] ["_law_factors"] (ax ka):=scM
theorem sc__law_norm:FnScope ["_law_a","_law_b","_law_c","_law_m","_law_cubes"] ["_law_a","_law_b","_law_c","_law_m"] (ax kf):=scM
theorem sc__law_cube_shape:FnScope ["_law_cube","_law_a","_law_b","_law_c","_law_m"] ["_law_cube"] (ax kn):=scM
theorem sc__law_cube_by:FnScope ["_law_cell","_law_other","_law_m","_law_a","_law_b","_law_c"] ["_law_cell","_law_other","_law_m"] (ax ko):=scM
theorem sc__law_way:FnScope ["_law_spot","_law_top","_law_bottom","_law_first","_law_second"] ["_law_spot","_law_top","_law_bottom"] (ax jZ):=scM
theorem sc__law_divided:FnScope ["_law_kp","_law_kq","_law_factor","_law_k","_law_rest","_law_quotient","_law_j","_law_one"] ["_law_kp","_law_kq"] (ax ip):=scM
theorem sc__law_paper:FnScope ["_law_kp","_law_row","_law_links","_law_told","_law_divisor"] ["_law_kp"] (ax im):=scM
theorem sc__law_alone:FnScope ["_law_spots","_law_spot","_law_span_here","_law_other","_law_low","_law_high"] ["_law_spots","_law_spot","_law_span_here"] (ax iq):=scM
theorem sc__law_half:FnScope ["_law_span_here","_law_spot","_law_middle"] ["_law_span_here","_law_spot"] (ax ki):=scM
theorem sc__law_span:FnScope ["_law_spots","_law_spot","_law_more_here","_law_span_here","_law_k"] ["_law_spots","_law_spot","_law_more_here"] (ax j6):=scM
theorem sc__law_more:FnScope ["_law_kp","_law_place","_law_many","_law_made"] ["_law_kp","_law_place","_law_many"] (ax kh):=scM
theorem sc__law_spoilt_row:FnScope ["_law_row","_law_cell","_law_many","_law_made","_law_at"] ["_law_row","_law_cell","_law_many"] (ax j4):=scM
theorem sc__law_spoilt_links:FnScope ["_law_links","_law_way_here","_law_cell","_law_many","_law_made","_law_at","_law_link"] ["_law_links","_law_way_here","_law_cell","_law_many"] (ax j5):=scM
theorem sc__law_asked:FnScope ["_law_kp","_law_low","_law_high","_law_row","_law_links","_law_bottom","_law_paper_here"] ["_law_kp","_law_low","_law_high","_law_row","_law_links","_law_bottom"] (ax kt):=scM
theorem sc_law:FnScope ["_law_script","_law_cube","_law_factors","_law_kp","_law_span_here","_law_paper_here","_law_row","_law_links","_law_cell","_law_many","_law_way_here","_law_found","_law_turn"] ["_law_script"] (ax ii):=scM
structure Txt(K:PySem.W.Frag)(mg:Str->Option Value):Prop where
 abs_:mg "abs"=none
 len_:mg "len"=none
 max_:mg "max"=none
 range_:mg "range"=none
 enumerate_:mg "enumerate"=none
 reversed_:mg "reversed"=none
 all_:mg "all"=none
 int_:mg "int"=none
 list_:mg "list"=none
 isinstance_:mg "isinstance"=none
 bool_:mg "bool"=none
def g8(K:PySem.W.Frag):Sp:=λvs H Q _=>∃(a:Addr) (ns:List Int),vs=[.ref a]/\SqL K H a (ns.map V.int)/\ns.length<=63/\∀H',Q (.bl true) H'
section
variable {P:Program}{w:World}{K:PySem.W.Frag}{mg:Str->Option Value}{base:Heap}
theorem wg(n:Nat):(List.replicate n [V.int 0]).flatten=(List.replicate n (0:Int)).map V.int:=by
 induction n with
 |zero=>rfl
 |succ n ih=>rw[GD,Ha,ih,GD];rfl
theorem db{n j:Nat}{i:Int}(e:i=j)(h:j<n):ixN n i=some j:=by subst e;unfold ixN;rw[if_pos (GZ _),if_pos (by omega)];simp
theorem gG(l:List Int)(j:Nat)(x:Int):(l.map V.int).set j (.int x)=(l.set j x).map V.int:=by rw[List.map_set]
theorem fu{l:List Int}{j:Nat}{i:Int}(e:i=j)(h:j<l.length):atI (l.map V.int) i=some (.int (cf l j)):=by subst e;exact fv (by rw[List.getElem?_map,de h];rfl)
def SameB(p:Addr)(H H':Hp):Prop:=∀b o,b≠p->H b=some o->H' b=some o
theorem SameB.refl(p:Addr)(H:Hp):SameB p H H:=λ_ _ _ h=>h
theorem SameB.then_new{p q:Addr}{H H1:Hp}{o:HO}(s:SameB p H H1)(h:H1 q=none):SameB p H (upd H1 q o):=λb u n e=>by rw[upd_ne (aK (s b u n e) h)];exact s b u n e
theorem SameB.then_upd{p:Addr}{H H1:Hp}{o:HO}(s:SameB p H H1):SameB p H (upd H1 p o):=λb u n e=>by rw[upd_ne n];exact s b u n e
def AllB(k:Nat)(l:List Int):Prop:=∀x∈l,Bits k x
theorem AllB.cf{k:Nat}{l:List Int}(h:AllB k l)(n:Nat):Bits k (cf l n):=by
 by_cases hn:n<l.length
 ·rw[bO hn];exact h _ (Gb hn)
 ·rw[aN (Gd hn)];exact Bits.zero
theorem bW{H H2:Hp}{p:Addr}{o:HO}(s:Same H H2)(hp:H p=none):Same H (upd H2 p o):=λb u e=>by rw[upd_ne (aK e hp)];exact s b u e
theorem yU(l:List Int)(x:Int):l.map V.int++[V.int x]=(l++[x]).map V.int:=by rw[FD];rfl
noncomputable def cj(ms:List Int)(lo hi:Option Int):List Int:=(ms.drop (HT.sIx ms.length 0 lo)).take (HT.sIx ms.length ms.length hi-HT.sIx ms.length 0 lo)
theorem sR(ms:List Int)(lo hi:Option Int):cN (ms.map V.int) lo hi=(cj ms lo hi).map V.int:=by unfold cN cj;rw[Fk,<- List.map_drop,<- List.map_take]
theorem Bu{ms:List Int}{lo hi:Option Int}{x:Int}(h:x∈cj ms lo hi):x∈ms:=List.mem_of_mem_drop (HC h)
theorem Bv(ms:List Int)(lo hi:Option Int):(cj ms lo hi).length<=ms.length:=by unfold cj;rw[FE,GV];omega
theorem AllB.cut{k:Nat}{ms:List Int}{lo hi:Option Int}(h:AllB k ms):AllB k (cj ms lo hi):=λx hx=>h x (Bu hx)
theorem AllB.app{k:Nat}{l r:List Int}(h1:AllB k l)(h2:AllB k r):AllB k (l++r):=λx hx=>(FY.mp hx).elim (h1 x) (h2 x)
theorem AllB.zeros{k n:Nat}:AllB k (List.replicate n 0):=λx hx=>by rw[List.eq_of_mem_replicate hx];exact Bits.zero
theorem AllB.mono{j k:Nat}{l:List Int}(h:AllB j l)(hk:j<=k:=by decide):AllB k l:=λx hx=>(h x hx).mono hk
theorem AllB.nil{k:Nat}:AllB k []:=λ_ h=>nomatch h
theorem AllB.snoc{k:Nat}{l:List Int}{x:Int}(h:AllB k l)(hx:Bits k x):AllB k (l++[x]):=h.app λy hy=>by rw[Fu.mp hy];exact hx
theorem yQ{l:List Int}{x:Int}(h:x∈trim l):x∈l:=by
 unfold trim at h
 rw[List.mem_reverse]at h;exact List.mem_reverse.mp ((List.dropWhile_sublist _).subset h)
theorem AllB.trim{k:Nat}{l:List Int}(h:AllB k l):AllB k (trim l):=λx hx=>h x (yQ hx)
theorem cX{l:List Int}{i:Nat}{x:V}(h:(l.map V.int)[i]?=some x):∃c,l[i]?=some c/\x=.int c/\c∈l/\l.take (i+1)=l.take i++[c]:=by
 rw[List.getElem?_map]at h;cases e:l[i]? with
 |none=>rw[e]at h;cases h
 |some c=>rw[e]at h;exact⟨c,rfl,(Option.some.inj h).symm,List.mem_of_getElem? e,by rw[Ge,e];rfl⟩
def mkL(H:Hp)(Q:VK)(r:List Int):Prop:=∀(p:Addr) (H':Hp),Same H H'->H p=none->H' p=some (.lst (r.map V.int))->Q (.ref p) H'
def gq(K:PySem.W.Frag):Sp:=λvs H Q _=>∃(a:Addr) (ns:List Int),vs=[.ref a]/\SqL K H a (ns.map V.int)/\mkL H Q (trim ns)
def hG(K:PySem.W.Frag):Sp:=λvs H Q _=>∃(a:Addr) (ns:List Int) (k:Nat),vs=[.ref a,.int k]/\SqL K H a (ns.map V.int)/\Q (.int (ns.getD k 0)) H
def oT(K:PySem.W.Frag)(g:List Int->List Int->List Int):Sp:=λvs H Q _=>∃(a b:Addr) (xs ys:List Int),vs=[.ref a,.ref b]/\SqL K H a (xs.map V.int)/\SqL K H b (ys.map V.int)/\xs.length<=1000000/\ys.length<=1000000/\mkL H Q (g xs ys)
theorem yT(i j:Nat):(if((j:Nat):Int)>((i:Nat):Int)then((j:Nat):Int)else((i:Nat):Int))=((max i j:Nat):Int):=by split<;>omega
theorem oU{n:Nat}(h:n<=sizeLine) : -(2^62)<=((n:Nat):Int)/\((n:Nat):Int)<2^62:=by have:=sizeLine_eq;omega
def RwH(H:Hp)(ps:List Addr)(xss:List (List Int)):Prop:=ps.length=xss.length/\∀(i:Nat) (p:Addr) (xs:List Int),ps[i]?=some p->xss[i]?=some xs->H p=some (.lst (xs.map V.int))
theorem RwH.nil{H:Hp}:RwH H [] []:=⟨rfl,λi p xs h=>by simp at h⟩
theorem RwH.same{H H':Hp}{ps:List Addr}{xss:List (List Int)}(h:RwH H ps xss)(s:Same H H'):RwH H' ps xss:=⟨h.1,λi p xs a b=>s _ _ (h.2 i p xs a b)⟩
theorem RwH.rws{H:Hp}{ps:List Addr}{xss:List (List Int)}(h:RwH H ps xss):Rws K H ps xss:=⟨h.1,λi p xs a b=>SqL.of (h.2 i p xs a b)⟩
theorem RwH.snoc{H:Hp}{ps:List Addr}{xss:List (List Int)}{p:Addr}{xs:List Int}(h:RwH H ps xss)(hp:H p=some (.lst (xs.map V.int))):RwH H (ps++[p]) (xss++[xs]):=by
 refine⟨by rw[Fp,Fp,h.1];rfl,λi q ys a b=>?_⟩;by_cases hi:i<ps.length
 ·rw[List.getElem?_append_left hi]at a;rw[List.getElem?_append_left (by rw[<- h.1];exact hi)]at b;exact h.2 i q ys a b
 ·rw[List.getElem?_append_right (by omega)]at a;rw[List.getElem?_append_right (by rw[<- h.1];omega),<- h.1]at b;by_cases h0:i-ps.length=0
  ·rw[h0]at a b;obtain rfl:p=q:=by simpa using a
   obtain rfl:xs=ys:=by simpa using b
   exact hp
  ·rw[List.getElem?_eq_none_iff.mpr (by simp;omega)]at a;cases a
theorem RwH.get{H:Hp}{ps:List Addr}{xss:List (List Int)}{i:Nat}(h:RwH H ps xss)(hi:i<xss.length):∃p,ps[i]?=some p/\H p=some (.lst ((xss.getD i []).map V.int)):=by
 have hi':i<ps.length:=by rw[h.1];exact hi
 refine⟨ps[i],List.getElem?_eq_getElem hi',h.2 i _ _ (List.getElem?_eq_getElem hi') ?_⟩;rw[List.getElem?_eq_getElem hi];simp[List.getD,hi]
theorem RwH.of_get{H:Hp}{ps:List Addr}{xss:List (List Int)}{i:Nat}{x:V}(h:RwH H ps xss)(hx:(ps.map V.ref)[i]?=some x):∃p xs,x=.ref p/\ps[i]?=some p/\xss[i]?=some xs/\H p=some (.lst (xs.map V.int))/\i<xss.length:=by
 rw[List.getElem?_map]at hx;cases e:ps[i]? with
 |none=>rw[e]at hx;cases hx
 |some p =>
  rw[e]at hx;have hi:i<ps.length:=(List.getElem?_eq_some_iff.mp e).1;have hi':i<xss.length:=by rw[<- h.1];exact hi
  exact⟨p,xss[i],(Option.some.inj hx).symm,rfl,List.getElem?_eq_getElem hi',h.2 i p _ e (List.getElem?_eq_getElem hi'),hi'⟩
theorem eW(ps:List Addr)(p:Addr):ps.map V.ref++[V.ref p]=(ps++[p]).map V.ref:=by rw[FD];rfl
theorem pI{i:Nat}{v:V}{σ:St}{H:Hp}{Q:St->Hp->Prop}(h:Q (σ.set i (some v)) H):dY i v σ H Q:=h
def TuH(H:Hp)(ps:List Addr)(xss:List (List Int)):Prop:=ps.length=xss.length/\∀(i:Nat) (p:Addr) (xs:List Int),ps[i]?=some p->xss[i]?=some xs->H p=some (.tup (xs.map V.int))
theorem TuH.nil{H:Hp}:TuH H [] []:=⟨rfl,λi p xs h=>by simp at h⟩
theorem TuH.same{H H':Hp}{ps:List Addr}{xss:List (List Int)}(h:TuH H ps xss)(s:Same H H'):TuH H' ps xss:=⟨h.1,λi p xs a b=>s _ _ (h.2 i p xs a b)⟩
theorem TuH.snoc{H:Hp}{ps:List Addr}{xss:List (List Int)}{p:Addr}{xs:List Int}(h:TuH H ps xss)(hp:H p=some (.tup (xs.map V.int))):TuH H (ps++[p]) (xss++[xs]):=by
 refine⟨by rw[Fp,Fp,h.1];rfl,λi q ys a b=>?_⟩;by_cases hi:i<ps.length
 ·rw[List.getElem?_append_left hi]at a;rw[List.getElem?_append_left (by rw[<- h.1];exact hi)]at b;exact h.2 i q ys a b
 ·rw[List.getElem?_append_right (by omega)]at a;rw[List.getElem?_append_right (by rw[<- h.1];omega),<- h.1]at b;by_cases h0:i-ps.length=0
  ·rw[h0]at a b;obtain rfl:p=q:=by simpa using a
   obtain rfl:xs=ys:=by simpa using b
   exact hp
  ·rw[List.getElem?_eq_none_iff.mpr (by simp;omega)]at a;cases a
theorem TuH.of_get{H:Hp}{ps:List Addr}{xss:List (List Int)}{i:Nat}{x:V}(h:TuH H ps xss)(hx:(ps.map V.ref)[i]?=some x):∃p xs,x=.ref p/\ps[i]?=some p/\xss[i]?=some xs/\H p=some (.tup (xs.map V.int))/\i<xss.length:=by
 rw[List.getElem?_map]at hx;cases e:ps[i]? with
 |none=>rw[e]at hx;cases hx
 |some p =>
  rw[e]at hx;have hi:i<ps.length:=(List.getElem?_eq_some_iff.mp e).1;have hi':i<xss.length:=by rw[<- h.1];exact hi
  exact⟨p,xss[i],(Option.some.inj hx).symm,rfl,List.getElem?_eq_getElem hi',h.2 i p _ e (List.getElem?_eq_getElem hi'),hi'⟩
theorem TuH.upd_lst{H:Hp}{ps:List Addr}{xss:List (List Int)}{a:Addr}{vs:List V}{o:HO}(h:TuH H ps xss)(ha:H a=some (.lst vs)):TuH (upd H a o) ps xss:=⟨h.1,λi p xs e1 e2=>by
 have e3:=h.2 i p xs e1 e2
 rw[L2.upd_ne (λz=>by rw[z,ha]at e3;cases e3)];exact e3⟩
theorem RwH.upd_no{H:Hp}{ps:List Addr}{xss:List (List Int)}{a:Addr}{o:HO}(h:RwH H ps xss)(hn:∀p∈ps,p≠a):RwH (upd H a o) ps xss:=⟨h.1,λi p xs e1 e2=>by rw[L2.upd_ne (hn p (List.mem_of_getElem? e1))];exact h.2 i p xs e1 e2⟩
def sp2:Sp:=λvs H Q _=>∃a b:Int,vs=[.int a,.int b]/\Q (.int (Nat.gcd a.natAbs b.natAbs:Nat)) H
theorem dl(i:Int):(if i<0 then -i else i)=(i.natAbs:Int):=by split<;>omega
theorem xD(F:Fun K "shared_by_two" "shared_by_two" jP f fd)(T:Txt K mg):FnOk P w K mg base CX0 1 f fd ["one","other"] sp2:=by
 refine F.ok sc_shared_by_two (λvs H Q E h=>?_) (λcdv A outer s H vs Q E hr h=>?_)
 ·obtain⟨a,b,rfl,_⟩:=h;rfl
 ·obtain⟨a,b,rfl,k⟩:=h
  refine⟨_,(ag (aq (i:=2) sc_shared_by_two.nd rfl (Or.inl rfl) (aP gP (by rfl) T.abs_ PyProof.Rows.boot_abs (aa (pv 0) ae)))
   (ag (aq (i:=3) sc_shared_by_two.nd rfl (Or.inl rfl) (aP gP (by rfl) T.abs_ PyProof.Rows.boot_abs (aa (pv 1) ae)))
   (ag (eJ PassesOwn.never (aC iC (pv 3) ac (ay _))
     (ag (aq (i:=4) sc_shared_by_two.nd rfl (Or.inl rfl) (af bJ (pv 2) (pv 3)))
       (ag (aq (i:=2) sc_shared_by_two.nd rfl (Or.inl rfl) (pv 3))
       (ak (aq (i:=3) sc_shared_by_two.nd rfl (Or.inl rfl) (pv 4))))))
   (ak (aD (pv 2)))))),?_⟩
  refine⟨_,rfl,_,rfl,?_⟩;refine⟨_,rfl,_,rfl,?_⟩;refine⟨λm σ' H'=>∃(x y:Int) (z:Option V),σ'=[some (.int a),some (.int b),some (.int x),some (.int y),z]/\H=H'/\0<=x/\0<=y/\y.natAbs=m/\Nat.gcd x.natAbs y.natAbs=Nat.gcd a.natAbs b.natAbs,⟨_,_,_,none,rfl,rfl,?_,?_,rfl,?_⟩,?_⟩
  ·rw[dl];exact GZ _
  ·rw[dl];exact GZ _
  ·rw[dl,dl,FQ,FQ]
  ·rintro m σ' H' ⟨x,y,z,rfl,rfl,hx,hy,rfl,hg⟩;refine⟨_,rfl,_,_,rfl,rfl,_,rfl,?_⟩;refine dP (λhn=>?_) (λh0=>?_)
   ·have hp:0<y:=by have:y≠0:=hn;omega
    refine⟨λσ'' H''=>∃m',m'<y.natAbs/\∃(x' y':Int) (z:Option V),σ''=[some (.int a),some (.int b),some (.int x'),some (.int y'),z]/\H=H''/\0<=x'/\0<=y'/\y'.natAbs=m'/\Nat.gcd x'.natAbs y'.natAbs=Nat.gcd a.natAbs b.natAbs,λ_ _ h=>h,?_⟩;refine⟨_,rfl,_,rfl,_,_,rfl,rfl,hp,?_⟩;refine⟨_,rfl,?_⟩;refine⟨_,rfl,?_⟩;have h1:=Int.emod_nonneg x (GW hp);have h2:=Hz x hp;exact⟨(x%y).natAbs,by omega,y,x%y,_,rfl,rfl,hy,h1,rfl,by rw[rV hx hp];exact hg⟩
   ·refine⟨_,rfl,?_⟩;have e:(y:Int)=0:=h0;subst e
    have e2:(x:Int)=((Nat.gcd a.natAbs b.natAbs:Nat):Int):=by rw[<- hg];show x=((Nat.gcd x.natAbs 0:Nat):Int);rw[Nat.gcd_zero_right];omega
    rw[e2];exact k
def g7(K:PySem.W.Frag):Sp:=λvs H Q _=>∃(a:Addr) (ns:List Int),vs=[.ref a]/\SqL K H a (ns.map V.int)/\Q (.int (ai ns:Nat)) H
theorem xE(F:Fun K "shared" "shared" jQ f fd)(T:Txt K mg)(nh:Cal P w K mg base 1 "shared_by_two" ["one","other"] sp2 Ba AZ):FnOk P w K mg base CX0 2 f fd ["row"] (g7 K):=by
 obtain⟨mU,kS,li,mG⟩:=nh;refine F.ok sc_shared (λvs H Q E h=>?_) (λcdv A outer s H vs Q E hr h=>?_)
 ·obtain⟨a,ns,rfl,_⟩:=h;rfl
 ·obtain⟨a,ns,rfl,hS,k⟩:=h
  refine⟨_,(ag (aq (i:=1) sc_shared.nd rfl (Or.inl rfl) ac)
   (ag (ca PassesOwn.never rfl (cm (K:=K) rfl (pv 0)) (aS (i:=2) sc_shared.nd rfl (Or.inl rfl))
     (ak (aq (i:=1) sc_shared.nd rfl (Or.inl rfl) (av mU (hr.mono) rfl kS li mG .nil au (aa (pv 1) (aa (pv 2) ae))))))
   (ak (aD (pv 1))))),?_⟩
  refine⟨_,rfl,a,rfl,⟨_,hS⟩,dJ (K:=K) (a:=a) (xs:=ns.map V.int) (λi σ' H'=>∃z:Option V,σ'=[some (.ref a),some (.int (ai (ns.take i):Nat)),z]/\H=H') ⟨none,rfl,rfl⟩ (λi σ' H' _ ⟨z,_,e⟩=>by rw[<- e];exact hS) ?_ ?_⟩
  ·rintro i y σ' H' hi ⟨z,rfl,rfl⟩;rw[List.getElem?_map]at hi;cases e:ns[i]? with
   |none=>rw[e]at hi;cases hi
   |some n =>
    rw[e]at hi;obtain rfl:=Option.some.inj hi;refine⟨_,rfl,_,rfl,_,_,rfl,?_⟩;have e3:ns.take (i+1)=ns.take i++[n]:=by rw[Ge,e];rfl
    refine⟨some (.int n),?_,rfl⟩;rw[e3,lJ,FQ];rfl
  ·rintro σ' H' ⟨z,rfl,rfl⟩;refine⟨_,rfl,?_⟩;rw[Fk,FS];exact k
def gt:Sp:=λvs H Q _=>∃(a:Addr) (ns:List Int),vs=[.ref a]/\H a=some (.lst (ns.map V.int))/\Tr ns/\ns.length<=1000000/\mkL H Q (ah ns)
theorem gI{ns:List Int}(ht:Tr ns)(hne:ns≠[]):0<(ai ns:Int):=by
 obtain⟨r,x,rfl⟩:=(cD ns).resolve_left hne;have hx:x≠0:=tr_snoc.mp ht;have hm:x∈r++[x]:=by simp
 have h1:0<ai (r++[x]):=Nat.pos_of_dvd_of_pos (iX hm) (Gw.mpr hx);omega
theorem xC(F:Fun K "shrunk" "shrunk" ie f fd)(T:Txt K mg)(hNS:base.NoSeer)(hTr:P.given.tree=none)(Dn:Cal P w K mg base 2 "shared" ["row"] (g7 K) EF D3):FnOk P w K mg base CX0 33 f fd ["row"] gt:=by
 obtain⟨CL,za,zW,B9⟩:=Dn;refine F.ok sc_shrunk (λvs H Q E h=>?_) (λcdv A outer s H vs Q E hr h=>?_)
 ·obtain⟨a,ns,rfl,_⟩:=h;rfl
 ·obtain⟨a,ns,rfl,hA,ht,hn,k⟩:=h;have big:=sizeLine_eq;have hdp:(A.deeper (PyProof.Rows.envOfC (Str.ofString "shrunk") (ax ie) s.heap.objs.size f cdv)).depth+100<recursionLimit:=by have:=hr.dp;omega
  refine⟨_,(ag (aq (i:=1) sc_shrunk.nd rfl (Or.inr rfl) (av CL (hr.mono) rfl za zW B9 .nil au (aa (pv 0) ae)))
   (ak (aD (c7 (own:=["value"]) (fr:=["divisor"]) (js:=[1]) (by walk_at "comp_ok") rfl (cm (K:=K) rfl (pv 0)) (λ_ _ _ _=>(aS (i:=0) (show List.Nodup (["value","divisor"]:List Str)from by decide +kernel) rfl (Or.inl rfl))) (λ_ _ _ _=>(af (kF hNS hTr hdp rfl rfl rfl rfl rfl) (pv 0) (pv 1))))))),?_⟩
  refine aE ⟨_,rfl,a,ns,rfl,SqL.of hA,?_⟩;refine bv ⟨_,rfl,a,rfl,⟨_,SqL.of hA⟩,fh (K:=K) (a:=a) (xs:=ns.map V.int) (λi ys σ' H'=>∃(z0:Option V),σ'=[z0,some (.int (ai ns:Nat))]/\ys=((ns.take i).map λx=>x/(ai ns:Int)).map V.int/\H=H') (by rw[Fk];omega) ⟨none,rfl,rfl,rfl⟩ ?_ ?_ ?_⟩
  ·rintro i ys σ' H' _ ⟨z0,rfl,rfl,rfl⟩;exact⟨SqL.of hA,by rw[Fk,Fk,FE];exact G8 _ _⟩
  ·rintro i x ys σ' H' hi ⟨z0,rfl,rfl,rfl⟩;rw[List.getElem?_map]at hi;cases e:ns[i]? with
   |none=>rw[e]at hi;cases hi
   |some c =>rw[e]at hi;obtain rfl:=Option.some.inj hi;have g1:=gI ht (λz=>by rw[z]at e;simp at e);refine⟨_,rfl,_,rfl,_,_,rfl,rfl,g1,_,rfl,?_,rfl⟩;rw[Ge,e];simp
  ·rintro ys σ' H' p ⟨z0,rfl,rfl,rfl⟩ hp;refine k p _ (Same.upd_new hp) hp ?_;rw[am,Fk,FS];rfl
def oA:Sp:=λvs H Q _=>∃(a:Addr) (ns:List Int),vs=[.ref a]/\H a=some (.lst (ns.map V.int))/\Tr ns/\ns.length<=1000000/\mkL H Q (aI ns)
theorem Cw(r:List Int)(x:Int):atI ((r++[x]).map V.int) (-1)=some (.int x):=by rw[FD];exact tY _ _
noncomputable def dL(t b:Int):List (Str×V):=b9 "bottom" (.int b) (b9 "top" (.int t) [])
theorem uK:¬(("top":Str)="bottom"):=by decide +kernel
theorem lN(t b:Int):(dL t b).lookup ("bottom":Str)=some (.int b):=by unfold dL;rw[eZ,if_pos rfl]
theorem lM(t b:Int):(dL t b).lookup ("top":Str)=some (.int t):=by unfold dL;rw[eZ,if_neg uK,eZ,if_pos rfl]
theorem AX(t b:Int){m:Str}(h1:¬m="bottom")(h2:¬m="top"):(dL t b).lookup m=none:=by unfold dL;rw[eZ,if_neg h1,eZ,if_neg h2];rfl
structure RCI(K:PySem.W.Frag)(mg:Str->Option Value)(C:Addr):Prop where
 cl:Cls K C
 nT:NoAttr K C "top"
 nB:NoAttr K C "bottom"
 mg:mg "Ratio"=some (.ref C)
 ha:PySem.W.findIn K (.ref C) "__class__"=some (some (.builtin "object.__class__"))
 hn:PySem.W.specialIn K (.builtin "object.__class__") "__get__"=some (some (.builtin "getset_descriptor.__get__"))
 ht:PySem.W.takesIn K (.builtin "object.__class__")=some true
 hm:PySem.W.mroIn K C (.type "object")=some true
def RA(C:Addr)(H:Hp)(p:Addr)(t b:Int):Prop:=∃dx,H p=some (.ins C dx (dL t b))
theorem RA.same{C:Addr}{H H':Hp}{p:Addr}{t b:Int}(h:RA C H p t b)(s:Same H H'):RA C H' p t b:=let⟨dx,e⟩:=h;⟨dx,s _ _ e⟩
def g9(C:Addr):Sp:=λvs H Q _=>∃(p dx:Addr) (t b:Int),vs=[.ref p,.int t,.int b]/\H p=some (.ins C dx [])/\b≠0/\Bits 9000 b/\Q .non (upd H p (.ins C dx (dL (rt t b) (rb t b))))
theorem qU{C:Addr}{H1:Hp}{q:Addr->Hp->Prop}{E:XK}{t b:Int}(hb:b≠0)(bb:Bits 9000 b)(h:∀(x:Addr) (H':Hp),Same H1 H'->H1 x=none->RA C H' x (rt t b) (rb t b)->q x H'):∀x dx:Addr,H1 x=none->H1 dx=none->dx≠x->g9 C (.ref x::([.int t,.int b]++[])) (upd (upd H1 dx (.own x)) x (.ins C dx [])) (λv H2=>v=.non/\q x H2) E:=λx dx nx ndx ne=>by
 refine⟨x,dx,t,b,rfl,am,hb,bb,rfl,?_⟩;rw[nG]
 have s0:Same H1 (upd (upd H1 dx (.own x)) x (.ins C dx (dL (rt t b) (rb t b)))):=λc o e=>by rw[upd_ne (aK e nx),upd_ne (aK e ndx)];exact e
 exact h x _ s0 nx ⟨dx,am⟩
theorem sH{t b:Int}(hb:b≠0)(bb:Bits 9000 b):Bits 9000 (dv t b):=bb.of_le (by rw[gK];exact Nat.le_of_dvd (Gw.mpr hb) (GX _ _))
theorem yr(F:FunD K "__init__" "Ratio.__init__" fH dV f fd)(T:Txt K mg)(R:RCI K mg C)(nh:Cal P w K mg base 1 "shared_by_two" ["one","other"] sp2 Ba AZ):FnOk P w K mg base CX0 2 f fd ["self","top","bottom"] (g9 C):=by
 obtain⟨mU,kS,li,mG⟩:=nh;refine F.ok sc_Ratio___init__ (λvs H Q E h=>?_) (λcdv A outer s H vs Q E hr h=>?_)
 ·obtain⟨p,dx,t,b,rfl,_⟩:=h;rfl
 ·obtain⟨p,dx,t,b,rfl,hp,hb,bb,k⟩:=h
  refine⟨_,(ag (aQ (aC bz (pv 2) ac (ay _))
   (ak wD)
   aR)
   (ag (aq (i:=3) sc_Ratio___init__.nd rfl (Or.inl rfl) (av mU (hr.mono) rfl kS li mG .nil au (aa (pv 1) (aa (pv 2) ae))))
   (ag (aQ (aC cF (pv 2) ac (ay _))
     (ak (aq (i:=3) sc_Ratio___init__.nd rfl (Or.inl rfl) (cx cp (pv 3))))
     aR)
   (ag (p8 (pv 0) (af qv (pv 1) (pv 3)) rfl)
   (ak (p8 (pv 0) (af qv (pv 2) (pv 3)) rfl)))))),?_⟩
  refine ck ⟨_,rfl,_,_,rfl,rfl,_,rfl,aG (λh=>absurd h hb) (λ_=>?_)⟩;refine aE ⟨_,rfl,_,rfl,t,b,rfl,?_⟩;refine cJ (λσ' H'=>H=H'/\σ'=[some (.ref p),some (.int t),some (.int b),some (.int (dv t b))]) ?_ ?_
  ·rintro σ' H' ⟨rfl,rfl⟩;refine⟨_,rfl,_,rfl,_,_,rfl,rfl,⟨i7 hb,sH hb bb⟩,_,rfl,p,C,dx,_,rfl,hp,R.cl,R.nT,by show 0<1000;decide,?_⟩;refine⟨_,rfl,_,rfl,_,_,rfl,rfl,⟨i7 hb,sH hb bb⟩,_,rfl,p,C,dx,_,rfl,am,R.cl,R.nB,by show 1<1000;decide,?_⟩;show Q .non (upd (upd H p _) p _);rw[nG];exact k
  ·intro rest;refine⟨_,rfl,_,_,rfl,rfl,_,rfl,?_⟩;refine aG (λh=>?_) (λh=>?_)
   ·refine⟨_,rfl,_,rfl,rest _ _ ⟨rfl,?_⟩⟩;have e:dv t b = -((Nat.gcd t.natAbs b.natAbs:Nat):Int):=by unfold dv;rw[if_pos h]
    rw[e];rfl
   ·refine rest _ _ ⟨rfl,?_⟩;have e:dv t b=((Nat.gcd t.natAbs b.natAbs:Nat):Int):=by unfold dv;rw[if_neg h]
    rw[e];rfl
def jx:Sp:=λvs H Q _=>∃x:Int,vs=[.int x]/\Q (.int (sg x)) H
theorem xx(F:Fun K "whole_sign" "whole_sign" jK f fd)(T:Txt K mg):FnOk P w K mg base CX0 1 f fd ["value"] jx:=by
 refine F.ok vG (λvs H Q E h=>?_) (λcdv A outer s H vs Q E hr h=>?_)
 ·obtain⟨x,rfl,_⟩:=h;rfl
 ·obtain⟨x,rfl,k⟩:=h
  refine⟨_,(ag (aQ (aC cF (pv 0) ac (ay _))
   (ak (aD (cx cp ac)))
   aR)
   (ag (aQ (aC cT (pv 0) ac (ay _))
     (ak (aD ac))
     aR)
   (ak (aD ac)))),?_⟩
  refine ck ⟨_,rfl,_,_,rfl,rfl,_,rfl,aG (λh=>?_) (λh=>?_)⟩
  ·have e:sg x = -1:=by unfold sg;rw[if_pos h]
   rw[e]at k;exact⟨_,rfl,k⟩
  refine ck ⟨_,rfl,_,_,rfl,rfl,_,rfl,aG (λh'=>?_) (λh'=>?_)⟩
  ·have e:sg x=1:=by unfold sg;rw[if_neg h,if_pos h']
   rw[e]at k;exact k
  ·have e:sg x=0:=by unfold sg;rw[if_neg h,if_neg h']
   rw[e]at k;exact k
def oS(C:Addr):Sp:=λvs H Q _=>∃(p q:Addr) (t b u d:Int),vs=[.ref p,.ref q]/\RA C H p t b/\RA C H q u d/\Bits 100000 t/\Bits 100000 b/\Bits 100000 u/\Bits 100000 d/\Q (.int (sg (t*d-u*b))) H
theorem yq(F:Fun K "against" "Ratio.against" ku f fd)(T:Txt K mg)(R:RCI K mg C)(ng:Cal P w K mg base 1 "whole_sign" ["value"] jx A9 AY):FnOk P w K mg base CX0 2 f fd ["self","other"] (oS C):=by
 obtain⟨mT,kR,lh,mF⟩:=ng;refine F.ok vS (λvs H Q E h=>?_) (λcdv A outer s H vs Q E hr h=>?_)
 ·obtain⟨p,q,t,b,u,d,rfl,_⟩:=h;rfl
 ·obtain⟨p,q,t,b,u,d,rfl,⟨dx,hp⟩,⟨dy,hq⟩,bt,bb,bu,bd,k⟩:=h;refine⟨_,(ak (aD (av mT (hr.mono) rfl kR lh mF .nil au (aa (af aV (af aJ (fT (K:=K) rfl (pv 0) rfl) (fT (K:=K) rfl (pv 1) rfl)) (af aJ (fT (K:=K) rfl (pv 1) rfl) (fT (K:=K) rfl (pv 0) rfl))) ae)))),?_⟩;refine⟨_,rfl,p,C,dx,_,_,rfl,hp,R.cl,R.nT,lM _ _,_,rfl,q,C,dy,_,_,rfl,hq,R.cl,R.nB,lN _ _,_,_,rfl,rfl,⟨bt.mono,bd.mono⟩,?_⟩;exact⟨_,rfl,q,C,dy,_,_,rfl,hq,R.cl,R.nT,lM _ _,_,rfl,p,C,dx,_,_,rfl,hp,R.cl,R.nB,lN _ _,_,_,rfl,rfl,⟨bu.mono,bb.mono⟩,_,_,rfl,rfl,_,rfl,k⟩
theorem xF(F:Fun K "poly" "poly" jR f fd)(T:Txt K mg):FnOk P w K mg base CX0 1 f fd ["row"] (gq K):=by
 refine F.ok sc_poly (λvs H Q E h=>?_) (λcdv A outer s H vs Q E hr h=>?_)
 ·obtain⟨a,ns,rfl,_⟩:=h;rfl
 ·obtain⟨a,ns,rfl,hS,k⟩:=h
  refine⟨_,(ag (aq (i:=1) sc_poly.nd rfl (Or.inl rfl) (aP (aY (K:=K) rfl) (by rfl) T.len_ PySem.boot_len (aa (pv 0) ae)))
   (ag (eJ PassesOwn.never (PW.pt (cE (aC cT (pv 1) ac (ay _)) (cS (aC bz (al (bj (K:=K) rfl) (pv 0) (af aV (pv 1) ac) (λ_ _=>rfl)) ac (ay _)))))
     (ak (aq (i:=1) sc_poly.nd rfl (Or.inl rfl) (af aV (pv 1) ac))))
   (ak (aD (fS (fD (K:=K) rfl) (pv 0) fQ (fO (pv 1))))))),?_⟩
  refine⟨_,rfl,a,_,rfl,.inl hS,?_⟩;refine⟨λm σ' H'=>∃n:Nat,n<=ns.length/\σ'=[some (.ref a),some (.int n)]/\H=H'/\n=m/\trim (ns.take n)=trim ns,⟨_,ns.length,Fl _,?_,rfl,rfl,?_⟩,?_⟩
  ·rw[Fk];rfl
  ·rw[FS]
  ·rintro m σ' H' ⟨n,hn,rfl,rfl,rfl,ht⟩
   have fin:trim (ns.take n)=ns.take n->∃v,([some (V.ref a),some (V.int n)]:St)[0]?=some (some v)/\∃v_1,([some (V.ref a),some (V.int n)]:St)[1]?=some (some v_1)/\∃i,v_1=V.int i/\iy K v none (some i) H Q:=λh=>by
    refine⟨_,rfl,_,rfl,n,rfl,a,_,rfl,hS,λp hp=>k p _ (Same.upd_new hp) hp ?_⟩;rw[am,<- ht,h]
    have e:cN (ns.map V.int) none (some (n:Int))=(ns.take n).map V.int:=by unfold cN;rw[HT.sIx_none,HT.sIx_nat,List.drop_zero,GO,Fk,Nat.min_eq_left hn,List.map_take]
    rw[e]
   refine⟨_,rfl,_,_,rfl,rfl,_,rfl,?_⟩;refine aG (λhp=>?_) (λhp=>?_)
   ·obtain⟨j,rfl⟩:∃j,n=j+1:=⟨n-1,by have:(0:Int)<n:=hp;omega⟩;have hj:j<ns.length:=hn;refine⟨_,rfl,_,rfl,_,_,rfl,rfl,a,_,j,.int (cf ns j),rfl,?_,hS,fv ?_,_,_,rfl,rfl,_,rfl,?_⟩
    ·show V.int (((j+1:Nat):Int)-1)=V.int j
     congr 1;omega
    ·rw[List.getElem?_map,de hj];rfl
    refine aG (λh0=>?_) (λh0=>?_)
    ·refine⟨λσ'' H''=>∃m',m'<j+1/\∃n:Nat,n<=ns.length/\σ''=[some (.ref a),some (.int n)]/\H=H''/\n=m'/\trim (ns.take n)=trim ns,λ_ _ h=>h,?_⟩;refine⟨_,rfl,_,_,rfl,rfl,j,GC _,j,GI hj,?_,rfl,rfl,?_⟩
     ·show[some (V.ref a),some (V.int (((j+1:Nat):Int)-1))]=[some (V.ref a),some (V.int j)]
      congr 4;omega
     ·rw[<- ht,nJ hj h0]
    ·exact fin (nK hj h0)
   ·obtain rfl:n=0:=by have:¬(0:Int)<n:=hp;omega
    exact fin (by rw[GT];rfl)
theorem xN(F:Fun K "coefficient" "coefficient" jW f fd)(T:Txt K mg):FnOk P w K mg base CX0 1 f fd ["row","place"] (hG K):=by
 refine F.ok vO (λvs H Q E h=>?_) (λcdv A outer s H vs Q E hr h=>?_)
 ·obtain⟨a,ns,k,rfl,_⟩:=h;rfl
 ·obtain⟨a,ns,n,rfl,hS,k⟩:=h
  refine⟨_,(ag (aQ (aC cF (pv 1) (aP (aY (K:=K) rfl) (by rfl) T.len_ PySem.boot_len (aa (pv 0) ae)) (ay _))
   (ak (aD (al (bj (K:=K) rfl) (pv 0) (pv 1) (λ_ _=>rfl))))
   aR)
   (ak (aD ac))),?_⟩
  refine⟨_,rfl,_,rfl,a,_,rfl,.inl hS,_,_,rfl,rfl,_,rfl,?_⟩;refine aG (λh1=>?_) (λh1=>?_)
  ·rw[Fk]at h1;have h2:n<ns.length:=by omega
   refine⟨_,rfl,_,rfl,a,_,_,_,rfl,rfl,hS,fv (v:=.int (ns.getD n 0)) ?_,k⟩;rw[List.getElem?_map,List.getElem?_eq_getElem h2];simp[List.getD,h2]
  ·rw[Fk]at h1;have h2:ns.length<=n:=by omega
   have e:ns.getD n 0=0:=by simp[List.getD,List.getElem?_eq_none_iff.mpr h2]
   rw[e]at k;exact k
theorem xz(F:Fun K "taken" "taken" jM f fd)(T:Txt K mg)(Do:Cal P w K mg base 1 "poly" ["row"] (gq K) EG D4)(Dw:Cal P w K mg base 1 "coefficient" ["row","place"] (hG K) EQ Eb):FnOk P w K mg base CX0 2 f fd ["first","second"] (oT K aT):=by
 obtain⟨CM,zb,zX,Ca⟩:=Do;obtain⟨ue,qV,rq,tO⟩:=Dw;refine F.ok sc_taken (λvs H Q E h=>?_) (λcdv A outer s H vs Q E hr h=>?_)
 ·obtain⟨a,b,xs,ys,rfl,_⟩:=h;rfl
 ·obtain⟨a,b,xs,ys,rfl,hA,hB,hx,hy,k⟩:=h
  refine⟨_,(ag (aq (i:=2) sc_taken.nd rfl (Or.inl rfl) (aP (BS rfl) (by rfl) T.max_ PyProof.Rows.boot_max (aa (aP (aY (K:=K) rfl) (by rfl) T.len_ PySem.boot_len (aa (pv 0) ae)) (aa (aP (aY (K:=K) rfl) (by rfl) T.len_ PySem.boot_len (aa (pv 1) ae)) ae))))
   (ak (aD (av CM (hr.mono) rfl zb zX Ca .nil au (aa (c7 (own:=["k"]) (fr:=["first","second"]) (js:=[0,1]) (by walk_at "comp_ok") rfl (gA rfl T.range_ (aa (pv 2) ae)) (λ_ _ _ _=>(aS (i:=0) (show List.Nodup (["k","first","second"]:List Str)from by decide +kernel) rfl (Or.inl rfl))) (λ_ _ _ _=>(af aV (av ue (hr.mono) rfl qV rq tO .nil au (aa (pv 1) (aa (pv 0) ae))) (av ue (hr.mono) rfl qV rq tO .nil au (aa (pv 2) (aa (pv 0) ae)))))) ae))))),?_⟩
  refine⟨_,rfl,a,_,rfl,.inl hA,_,rfl,b,_,rfl,.inl hB,_,_,rfl,?_⟩;rw[yT,Fk,Fk];have hz:max xs.length ys.length<=sizeLine:=by have:=sizeLine_eq;omega
  refine⟨_,rfl,_,rfl,(oU hz).1,(oU hz).2,jb (lo:=0) (n:=max xs.length ys.length) (λi zs σ' H'=>∃z:Option V,σ'=[z,some (.ref a),some (.ref b)]/\zs=((List.range i).map λk=>V.int (cf xs k-cf ys k))/\H=H') hz ⟨none,rfl,rfl,rfl⟩ ?_ ?_ ?_⟩
  ·rintro i zs σ' H' _ ⟨z,rfl,rfl,rfl⟩;simp
  ·rintro i zs σ' H' hi ⟨z,rfl,rfl,rfl⟩;refine⟨_,rfl,_,rfl,a,xs,i,?_,hA,_,rfl,_,rfl,b,ys,i,?_,hB,_,_,rfl,rfl,_,rfl,?_,rfl⟩
   ·show[V.ref a,V.int (0+(i:Int))]=_;rw[Gv]
   ·show[V.ref b,V.int (0+(i:Int))]=_;rw[Gv]
   ·rw[List.range_succ,FD];rfl
  ·rintro zs σ' H' p ⟨z,rfl,rfl,rfl⟩ hp;refine⟨p,(List.range (max xs.length ys.length)).map λk=>cf xs k-cf ys k,rfl,SqL.of ?_,?_⟩
   ·rw[am,Go];rfl
   ·intro p' H' sm hp' e;refine k p' H' ((Same.upd_new hp).trans sm) ((Same.upd_new hp).free hp') ?_;rw[e,n5]
def sp1(g:List Int->List Int):Sp:=λvs H Q _=>∃(a:Addr) (ns:List Int),vs=[.ref a]/\H a=some (.lst (ns.map V.int))/\ns.length<=100000/\AllB 100000 ns/\mkL H Q (g ns)
theorem yK{k:Nat}{n:Nat}(h:n<2^k):Bits k (n:Int):=by show((n:Int)).natAbs<2^k;rw[FQ];exact h
theorem u8{n:Nat}(h:n<=1000000):Bits 1000000 (n:Int):=(yK (k:=20) (Hv h (by decide))).mono
theorem wq(f:Nat->V)(i:Nat):(List.range i).map f++[f i]=(List.range (i+1)).map f:=by rw[List.range_succ,FD];rfl
theorem xA(F:Fun K "slope" "slope" jN f fd)(T:Txt K mg):FnOk P w K mg base CX0 1 f fd ["row"] (sp1 slopeL):=by
 refine F.ok vH (λvs H Q E h=>?_) (λcdv A outer s H vs Q E hr h=>?_)
 ·obtain⟨a,ns,rfl,_⟩:=h;rfl
 ·obtain⟨a,ns,rfl,hA,hn,hb,k⟩:=h;have big:=sizeLine_eq;refine⟨_,(ak (aD (c7 (own:=["k"]) (fr:=["row"]) (js:=[0]) (by walk_at "comp_ok") rfl (wX rfl T.range_ (aa ac (aa (aP (aY (K:=K) rfl) (by rfl) T.len_ PySem.boot_len (aa (pv 0) ae)) ae))) (λ_ _ _ _=>(aS (i:=0) (show List.Nodup (["k","row"]:List Str)from by decide +kernel) rfl (Or.inl rfl))) (λ_ _ _ _=>(af aJ (pv 0) (al (bj (K:=K) rfl) (pv 1) (pv 0) (λ_ _=>rfl))))))),?_⟩;have hl:(ns.map V.int).length=ns.length:=Fk _;refine bv ⟨_,rfl,a,_,rfl,.inl (SqL.of hA),1,_,rfl,⟨by decide,by decide,by rw[hl];omega,by rw[hl];omega⟩,jb (lo:=1) (λi ys σ' H'=>∃z:Option V,σ'=[z,some (.ref a)]/\ys=((List.range i).map λ(j:Nat)=>V.int (((j:Int)+1)*cf ns (j+1)))/\H=H') (by rw[hl];omega) ⟨none,rfl,rfl,rfl⟩ ?_ ?_ ?_⟩
  ·rintro i ys σ' H' _ ⟨z,rfl,rfl,rfl⟩;simp
  ·rintro i ys σ' H' hi ⟨z,rfl,rfl,rfl⟩;rw[hl]at hi;have hi':i+1<ns.length:=by omega
   have e0:(1:Int)+(i:Int)=((i+1:Nat):Int):=by omega
   refine⟨_,rfl,_,rfl,_,rfl,a,_,_,_,rfl,rfl,SqL.of hA,fu e0 hi',_,_,rfl,rfl,⟨by rw[e0];exact u8 (by omega),(hb.cf _).mono⟩,_,rfl,?_,rfl⟩;rw[<- wq];show _++[V.int ((1+(i:Int))*cf ns (i+1))]=_;rw[Int.add_comm 1]
  ·rintro ys σ' H' p ⟨z,rfl,rfl,rfl⟩ hp;refine k p _ (Same.upd_new hp) hp ?_;have en:(((ns.map V.int).length:Int)-1).toNat=ns.length-1:=by rw[hl];omega
   rw[am,en];unfold RM.slopeL;rw[Go];rfl
def oK:Sp:=λvs H Q _=>∃(a:Addr) (xs:List V),vs=[.ref a]/\H a=some (.lst xs)/\Q (.int ((xs.length:Int)-1)) H
theorem xL(F:Fun K "degree" "degree" jU f fd)(T:Txt K mg):FnOk P w K mg base CX0 1 f fd ["row"] oK:=by
 refine F.ok vM (λvs H Q E h=>?_) (λcdv A outer s H vs Q E hr h=>?_)
 ·obtain⟨a,xs,rfl,_⟩:=h;rfl
 ·obtain⟨a,xs,rfl,hA,k⟩:=h;refine⟨_,(ak (aD (af aV (aP (aY (K:=K) rfl) (by rfl) T.len_ PySem.boot_len (aa (pv 0) ae)) ac))),?_⟩;exact⟨_,rfl,a,_,rfl,.inl (SqL.of hA),_,_,rfl,rfl,k⟩
theorem AllB.of_cf{k:Nat}{l:List Int}(h:∀n,Bits k (RM.cf l n)):AllB k l:=λx hx=>by
 obtain⟨i,hi,rfl⟩:=List.mem_iff_getElem.mp hx;have:=h i
 rwa [bO hi]at this
theorem ge{k:Nat}{x:Int}(h:Bits k x):Bits k ((x.natAbs:Nat):Int):=h.of_le (by rw[FQ];exact Fl _)
theorem ia{k:Nat}{x y:Int}(h:Bits k y):Bits k (sg x*y):=h.of_le (by
 rw[FP];have h2:(sg x).natAbs<=1:=by unfold sg;split<;>(try split)<;>decide
 calc (sg x).natAbs*y.natAbs<=1*y.natAbs:=Gp _ h2
  _=y.natAbs:=Nat.one_mul _)
theorem lX{xs ys:List Int}{b:Nat}(hx:AllB b xs)(hy:AllB b ys):∀i,AllB (b+i*(b+1)) (bD xs ys i).1/\AllB (b+i*(b+1)) (bD xs ys i).2
 |0=>by rw[Nat.zero_mul];exact⟨AllB.zeros,hx⟩
 |i+1=>by
  obtain⟨h1,h2⟩:=lX hx hy i;have e:b+(i+1)*(b+1)=b+i*(b+1)+b+1:=by rw[Nat.succ_mul];omega
  have hs:Bits b (((RM.cf ys (ys.length-1)).natAbs:Nat):Int):=ge (hy.cf _);rw[e];show AllB _ (cg ys (bD xs ys i) _).1/\AllB _ (cg ys (bD xs ys i) _).2;unfold cg;dsimp only
  constructor
  ·intro x hx;rcases Hs hx with h |rfl
   ·obtain⟨y,hy',rfl⟩:=Fo.mp h;have:=hs.mul (h1 y hy');exact this.mono (by omega)
   ·exact(ia (h2.cf _)).mono (by omega)
  ·refine AllB.of_cf λn=>?_
   rw[mv];by_cases hn:n<(scL (((RM.cf ys (ys.length-1)).natAbs:Nat):Int) (bD xs ys i).2).length-1
   ·rw[if_pos hn,bh]
    have m1:Bits (b+i*(b+1)+b) ((((RM.cf ys (ys.length-1)).natAbs:Nat):Int)*RM.cf (bD xs ys i).2 n):=by have:=hs.mul (h2.cf n);rwa [Nat.add_comm]at this
    refine m1.sub ?_;by_cases hp:(xs.length+1-ys.length-1-i)<=n
    ·rw[if_pos hp];exact(ia (h2.cf _)).mul (hy.cf _)
    ·rw[if_neg hp];exact Bits.zero
   ·rw[if_neg hn];exact Bits.zero
theorem ft{k:Nat}{b:Int}(h:Bits k b):∀n,Bits (k*n+1) (b^n)
 |0=>by show((b^0:Int)).natAbs<2^(k*0+1);rw[Int.pow_zero,Nat.mul_zero];decide
 |n+1=>by rw[Gg];have:=(ft h n).mul h;exact this.mono (by rw[Nat.mul_succ];omega)
theorem Cv{l:List Int}(h:l≠[]):atI (l.map V.int) (-1)=some (.int (cf l (l.length-1))):=by
 obtain⟨r,x,rfl⟩:=(cD l).resolve_left h;have e:(r++[x]).length-1=r.length:=by simp
 rw[e,gc,FD];exact tY _ _
def Fit(one other:List Int):Prop:=Tr one/\Tr other/\∃n,AllB n one/\AllB n other/\(one.length+2)*(n+1)<=1000000/\other.length<=1000000
noncomputable def Run:Nat->List Int->List Int->Prop
 |0,one,_=>one=[]
 |n+1,one,other=>one=[]\/(Fit one other/\Run n other (nxt one other))
theorem RwH.upd_ne{H:Hp}{ps:List Addr}{xss:List (List Int)}{a:Addr}{o:HO}(h:RwH H ps xss)(hn:∀p∈ps,p≠a):RwH (upd H a o) ps xss:=⟨h.1,λi p xs e1 e2=>by rw[L2.upd_ne (hn p (List.mem_of_getElem? e1))];exact h.2 i p xs e1 e2⟩
theorem jo{xs:List Int}(h:Tr xs):Tr (slopeL xs):=by
 intro n hn;unfold slopeL at *
 rw[Fk,FW]at hn;rw[d7,if_pos (by omega)];exact FB (by omega) (h (n+1) (by omega))
def dO:Sp:=λvs H Q _=>∃(a b:Addr) (xs ys:List Int),vs=[.ref a,.ref b]/\H a=some (.lst (xs.map V.int))/\H b=some (.lst (ys.map V.int))/\xs.length<=1000000/\ys.length<=1000000/\AllB 1000000 xs/\AllB 1000000 ys/\mkL H Q (ad xs ys)
theorem xG(F:Fun K "multiplied" "multiplied" jS f fd)(T:Txt K mg):FnOk P w K mg base CX0 1 f fd ["first","second"] dO:=by
 refine F.ok sc_multiplied (λvs H Q E h=>?_) (λcdv A outer s H vs Q E hr h=>?_)
 ·obtain⟨a,b,xs,ys,rfl,_⟩:=h;rfl
 ·obtain⟨a,b,xs,ys,rfl,hA,hB,hx,hy,bx,by',k⟩:=h;have hu:=hr.units
  refine⟨_,(ag (aQ (PW.pt (eI (aC (kG (K:=K) rfl hu) (pv 0) (bI ae) (ay _)) (fN (aC (kG (K:=K) rfl hu) (pv 1) (bI ae) (ay _)))))
   (ak (aD (bI ae)))
   aR)
   (ag (aq (i:=2) sc_multiplied.nd rfl (Or.inl rfl) (af xb (bI (aa ac ae)) (af aV (af aZ (aP (aY (K:=K) rfl) (by rfl) T.len_ PySem.boot_len (aa (pv 0) ae)) (aP (aY (K:=K) rfl) (by rfl) T.len_ PySem.boot_len (aa (pv 1) ae))) ac)))
   (ag (ca PassesOwn.never rfl (eR rfl T.enumerate_ (aa (pv 0) ae)) (fR rfl (cv (aS (i:=3) sc_multiplied.nd rfl (Or.inl rfl)) (cv (aS (i:=4) sc_multiplied.nd rfl (Or.inl rfl)) eT)))
     (ak (ca PassesOwn.never rfl (eR rfl T.enumerate_ (aa (pv 1) ae)) (fR rfl (cv (aS (i:=5) sc_multiplied.nd rfl (Or.inl rfl)) (cv (aS (i:=6) sc_multiplied.nd rfl (Or.inl rfl)) eT)))
       (ak (cr (af aZ (al (bj (K:=K) rfl) (pv 2) (af aZ (pv 3) (pv 5)) (λ_ _=>rfl)) (af aJ (pv 4) (pv 6))) (cw (pv 2) (af aZ (pv 3) (pv 5)) cq))))))
   (ak (aD (pv 2)))))),?_⟩
  refine⟨_,rfl,Fn _,λp1 hp1=>?_⟩;have s1:Same H (upd H p1 (.lst [])):=Same.upd_new hp1;refine⟨a,p1,xs,[],rfl,rfl,SqL.of (s1 _ _ hA),SqL.of am,_,rfl,?_⟩;refine aG (λh0=>?_) (λh0=>?_)
  ·refine cI ⟨Fn _,λp2 hp2=>k p2 _ (s1.then_new hp2) (s1.free hp2) ?_⟩;rw[am];unfold ad;rw[if_pos (.inl h0)];rfl
  refine⟨_,rfl,Fn _,λp2 hp2=>?_⟩;have s2:Same H (upd (upd H p1 (.lst [])) p2 (.lst [])):=s1.then_new hp2;refine⟨b,p2,ys,[],rfl,rfl,SqL.of (s2 _ _ hB),SqL.of am,_,rfl,?_⟩;refine aG (λh1=>?_) (λh1=>?_)
  ·refine⟨Fn _,λp3 hp3=>k p3 _ (s2.then_new hp3) (s2.free hp3) ?_⟩;rw[am];unfold ad;rw[if_pos (.inr h1)];rfl
  generalize upd (upd H p1 (.lst [])) p2 (.lst [])=H2 at s2 ⊢
  obtain⟨la,ea⟩:∃la,xs.length=la+1:=⟨xs.length-1,by have:=Fm.mpr h0;omega⟩;obtain⟨lb,eb⟩:∃lb,ys.length=lb+1:=⟨ys.length-1,by have:=Fm.mpr h1;omega⟩;refine⟨(by show 1<=sizeLine;decide),λp3 hp3=>?_⟩;have s3:=s2.then_new (o:=.lst [V.int 0]) hp3;have big:=sizeLine_eq;refine⟨_,rfl,a,_,rfl,.inl (SqL.of (s3 _ _ hA)),_,rfl,b,_,rfl,.inl (SqL.of (s3 _ _ hB)),_,_,rfl,rfl,_,_,rfl,rfl,p3,_,_,rfl,rfl,am,?_,?_,?_,λp hp=>?_⟩
  ·rw[Fk,Fk];omega
  ·rw[Fk,Fk];omega
  ·rw[Fk,Fk];show 1*_<=_;omega
  have en:(((xs.map V.int).length:Int)+((ys.map V.int).length:Int)-1).toNat=la+lb+1:=by rw[Fk,Fk];omega
  rw[en,wg];have s4:=s3.then_new (o:=.lst ((List.replicate (la+lb+1) (0:Int)).map V.int)) hp;have npa:a≠p:=s3.ne hA hp;have npb:b≠p:=s3.ne hB hp;generalize hH4:upd (upd H2 p3 (.lst [V.int 0])) p (.lst ((List.replicate (la+lb+1) (0:Int)).map V.int))=H4 at s4 ⊢
  have hp4:H4 p=some (.lst ((List.replicate (la+lb+1) (0:Int)).map V.int)):=by rw[<- hH4,am]
  refine⟨_,rfl,a,rfl,⟨_,SqL.of (s4 _ _ hA)⟩,gJ (K:=K) (a:=a) (xs:=xs.map V.int) (λj σ' H'=>∃(acc:List Int) (z3 z4 z5 z6:Option V),σ'=[some (.ref a),some (.ref b),some (.ref p),z3,z4,z5,z6]/\SameB p H4 H'/\H' p=some (.lst (acc.map V.int))/\acc.length=la+lb+1/\∀n,n<acc.length->cf acc n=sm xs ys n j)
   ⟨List.replicate (la+lb+1) 0,none,none,none,none,rfl,SameB.refl _ _,hp4,by simp,λn _=>by rw[gO];rfl⟩ ?_ ?_ ?_⟩
  ·rintro j σ' H' _ ⟨acc,z3,z4,z5,z6,rfl,sb,_⟩;exact SqL.of (sb _ _ npa (s4 _ _ hA))
  ·rintro j x σ' H' q hj ⟨acc,z3,z4,z5,z6,rfl,sb,hpa,hal,hac⟩ hq;rw[List.getElem?_map]at hj
   have hjl:j<xs.length:=by apply Classical.byContradiction;intro hn;rw[List.getElem?_eq_none_iff.mpr (Gd hn)]at hj;cases hj
   rw[de hjl]at hj;obtain rfl:=Option.some.inj hj;refine⟨q,_,rfl,SqT.of am,rfl,_,_,rfl,_,_,rfl,rfl,?_⟩;have nqp:p≠q:=aK hpa hq;have sb1:SameB p H4 (upd H' q (.tup [.int j,.int (cf xs j)])):=sb.then_new hq
   refine⟨_,rfl,b,rfl,⟨_,SqL.of (sb1 _ _ npb (s4 _ _ hB))⟩,gJ (K:=K) (a:=b) (xs:=ys.map V.int) (λi σ' H'=>∃(acc:List Int) (z5 z6:Option V),σ'=[some (.ref a),some (.ref b),some (.ref p),some (.int j),some (.int (cf xs j)),z5,z6]/\SameB p H4 H'/\H' p=some (.lst (acc.map V.int))/\acc.length=la+lb+1/\∀n,n<acc.length->cf acc n=sm xs ys n j+(if j<=n/\n-j<i then tm xs ys n j else 0))
    ⟨acc,z5,z6,rfl,sb1,by rw[upd_ne nqp];exact hpa,hal,qN hac⟩ ?_ ?_ ?_⟩
   ·rintro i σ' H' _ ⟨acc,z5,z6,rfl,sb,_⟩;exact SqL.of (sb _ _ npb (s4 _ _ hB))
   ·rintro i x σ' H' q hi ⟨acc,z5,z6,rfl,sb,hpa,hal,hac⟩ hq;rw[List.getElem?_map]at hi
    have hil:i<ys.length:=by apply Classical.byContradiction;intro hn;rw[List.getElem?_eq_none_iff.mpr (Gd hn)]at hi;cases hi
    rw[de hil]at hi;obtain rfl:=Option.some.inj hi;refine⟨q,_,rfl,SqT.of am,rfl,_,_,rfl,_,_,rfl,rfl,?_⟩;have nqp:p≠q:=aK hpa hq;have hpa':upd H' q (.tup [.int i,.int (cf ys i)]) p=some (.lst (acc.map V.int)):=by rw[upd_ne nqp];exact hpa
    have hji:j+i<acc.length:=by omega
    have eji:((j:Nat):Int)+((i:Nat):Int)=((j+i:Nat):Int):=by omega
    refine⟨_,rfl,_,rfl,_,rfl,_,_,rfl,rfl,p,_,_,_,rfl,rfl,SqL.of hpa',fu eji hji,_,rfl,_,rfl,_,_,rfl,rfl,⟨bx.cf j,by'.cf i⟩,_,_,rfl,rfl,_,rfl,_,rfl,_,rfl,_,_,rfl,rfl,p,_,_,j+i,rfl,rfl,hpa',db eji (by rw[Fk];exact hji),?_⟩;refine⟨acc.set (j+i) (cf acc (j+i)+cf xs j*cf ys i),_,_,rfl,(sb.then_new hq).then_upd,by rw[am,gG],by rw[Ga];exact hal,qM hjl hil hji hac⟩
   ·rintro σ' H' ⟨acc,z5,z6,rfl,sb,hpa,hal,hac⟩;rw[Fk]at hac;exact⟨acc,_,_,_,_,rfl,sb,hpa,hal,qO hac⟩
  ·rintro σ' H' ⟨acc,z3,z4,z5,z6,rfl,sb,hpa,hal,hac⟩;rw[Fk]at hac;refine⟨_,rfl,k p H' (λb' o e=>sb b' o (s3.ne e hp) (s4 b' o e)) (s3.free hp) ?_⟩;rw[hpa]
   have e:acc=ad xs ys:=by
    apply cY
    ·rw[hal];unfold ad;rw[if_neg (by intro z;exact z.elim h0 h1),Fk,FW];omega
    ·intro n _;rw[aB,qP (by omega) hac]
   rw[e]
def Vp(C:Addr)(H:Hp)(vs:List V)(a r:Addr)(ns:List Int)(t b:Int):Prop:=vs=[.ref a,.ref r]/\H a=some (.lst (ns.map V.int))/\RA C H r t b/\ns.length<=20/\AllB 95000 ns/\Bits 400 t/\Bits 400 b
def VpI(H:Hp)(vs:List V)(a:Addr)(ns:List Int)(t b:Int):Prop:=vs=[.ref a,.int t,.int b]/\H a=some (.lst (ns.map V.int))/\ns.length<=20/\AllB 95000 ns/\Bits 400 t/\Bits 400 b
def ol:Sp:=λvs H Q _=>∃(a:Addr) (ns:List Int) (t b:Int),VpI H vs a ns t b/\∀(p:Addr) (H':Hp),Same H H'->H p=none->H' p=some (.tup [.int (hv t b ns),.int (b^ns.length)])->Q (.ref p) H'
theorem rR{t b:Int}(bt:Bits 400 t)(bb:Bits 400 b):∀{l:List Int},AllB 95000 l->Bits (95000+1+(400+1)*l.length) (hv t b l)
 | [],_=>by refine Bits.mono (j:=1) ?_ (by omega);show(0:Int).natAbs<2^1;decide
 |v::l,h=>by
  rw[cW];have h1:=h v (Fx ..);have h2:=rR bt bb (l:=l) λx hx=>h x (Fs _ hx)
  have e1:=(h1.mul (ft bb (l.length+1))).mono (k:=95000+1+(400+1)*l.length+400) (by omega);have e2:=(bt.mul h2).mono (k:=95000+1+(400+1)*l.length+400) (by omega);exact(e1.add e2).mono (by rw[FI];omega)
theorem xy(F:Fun K "value_parts" "value_parts" jL f fd)(T:Txt K mg):FnOk P w K mg base CX0 1 f fd ["row","top","bottom"] ol:=by
 refine F.ok sc_value_parts (λvs H Q E h=>?_) (λcdv A outer s H vs Q E hr h=>?_)
 ·obtain⟨a,ns,t,b,⟨rfl,_⟩,_⟩:=h;rfl
 ·obtain⟨a,ns,t,b,⟨rfl,hA,hn,hb,bt,bb⟩,k⟩:=h
  refine⟨_,(ag (aq (i:=3) sc_value_parts.nd rfl (Or.inl rfl) ac)
   (ag (aq (i:=4) sc_value_parts.nd rfl (Or.inl rfl) ac)
   (ag (ca PassesOwn.never rfl (wW rfl T.reversed_ (aa (pv 0) ae)) (aS (i:=5) sc_value_parts.nd rfl (Or.inl rfl))
     (ag (aq (i:=4) sc_value_parts.nd rfl (Or.inl rfl) (af aJ (pv 4) (pv 2)))
       (ak (aq (i:=3) sc_value_parts.nd rfl (Or.inl rfl) (af aZ (af aJ (pv 3) (pv 1)) (af aJ (pv 5) (pv 4)))))))
   (ak (aD (b5 (aa (pv 3) (aa (pv 4) ae)))))))),?_⟩
  have hl:(ns.map V.int).length=ns.length:=Fk _;refine aE ?_;refine aE ?_;refine⟨_,rfl,a,_,rfl,SqL.of hA,AV (K:=K) (a:=a) (xs:=ns.map V.int) (λi σ' H'=>∃z:Option V,σ'=[some (.ref a),some (.int t),some (.int b),some (.int (hv t b (ns.drop (ns.length-i)))),some (.int (b^i)),z]/\H=H') ⟨none,?_,rfl⟩ ?_ ?_ ?_⟩
  ·rw[GO,List.drop_length,Int.pow_zero];rfl
  ·rintro i σ' H' _ ⟨z,rfl,rfl⟩;exact SqL.of hA
  ·rintro i x σ' H' hi hx ⟨z,rfl,rfl⟩;rw[hl]at hi hx;obtain⟨c,ec,rfl,hc,_⟩:=cX hx;have hi':i<ns.length:=hi;have e1:ns.length-(i+1)=ns.length-1-i:=by omega
   have hd:=Bn t b (l:=ns) (n:=ns.length-1-i) (by omega);have e2:ns.length-1-i+1=ns.length-i:=by omega
   have e3:ns.length-(ns.length-1-i)=i+1:=by omega
   rw[e2,e3,tE ec]at hd;have bs:=rR bt bb (l:=ns.drop (ns.length-i)) λx hx=>hb x (List.mem_of_mem_drop hx)
   rw[GV]at bs;have bp:=ft bb i;have bq:=ft bb (i+1);refine⟨_,rfl,_,rfl,_,_,rfl,rfl,⟨bp.mono (by omega),bb.mono⟩,?_⟩;refine⟨_,rfl,_,rfl,_,_,rfl,rfl,⟨bs.mono (by omega),bt.mono⟩,_,rfl,_,rfl,_,_,rfl,rfl,⟨(hb c hc).mono,?_⟩,_,_,rfl,rfl,?_⟩
   ·show Bits 1000000 (b^i*b);rw[<- Gg];exact bq.mono (by omega)
   refine⟨some (.int c),?_,rfl⟩;rw[e1,hd,Gg b i,Int.add_comm,FX t];rfl
  ·rintro σ' H' ⟨z,rfl,rfl⟩;rw[hl,Nat.sub_self,List.drop_zero];exact⟨_,rfl,_,rfl,by show 2<=sizeLine;decide,λp hp=>k p _ (Same.upd_new hp) hp am⟩
def ox(C:Addr):Sp:=λvs H Q _=>∃(a r:Addr) (ns:List Int) (t b:Int),Vp C H vs a r ns t b/\∀H',Same H H'->Q (.int (sg (hv t b ns))) H'
theorem xB(F:Fun K "sign_at" "sign_at" jO f fd)(T:Txt K mg)(R:RCI K mg C)(Di:Cal P w K mg base 1 "value_parts" ["row","top","bottom"] ol EA DY)(ng:Cal P w K mg base 1 "whole_sign" ["value"] jx A9 AY):FnOk P w K mg base CX0 2 f fd ["row","ratio"] (ox C):=by
 obtain⟨CG,yZ,zR,B4⟩:=Di;obtain⟨mT,kR,lh,mF⟩:=ng;refine F.ok vI (λvs H Q E h=>?_) (λcdv A outer s H vs Q E hr h=>?_)
 ·obtain⟨a,r,ns,t,b,⟨rfl,_⟩,_⟩:=h;rfl
 ·obtain⟨a,r,ns,t,b,hV,k⟩:=h;obtain⟨rfl,hA,⟨dx,hR⟩,hn,hbs,bt,bb⟩:=hV;refine⟨_,(ak (aD (av mT (hr.mono) rfl kR lh mF .nil au (aa (al (aw (K:=K) rfl) (av CG (hr.mono) rfl yZ zR B4 .nil au (aa (pv 0) (aa (fT (K:=K) rfl (pv 1) rfl) (aa (fT (K:=K) rfl (pv 1) rfl) ae)))) ac (λ_ _=>rfl)) ae)))),?_⟩;refine⟨_,rfl,_,rfl,r,C,dx,_,_,rfl,hR,R.cl,R.nT,lM _ _,_,rfl,r,C,dx,_,_,rfl,hR,R.cl,R.nB,lN _ _,a,ns,t,b,⟨rfl,hA,hn,hbs,bt,bb⟩,λp H1 s1 hp e1=>?_⟩;exact⟨p,_,_,_,rfl,rfl,SqT.of e1,rfl,_,rfl,k H1 s1⟩
noncomputable def sgs(t b:Int)(xss:List (List Int)):List Int:=xss.map λp=>sg (hv t b p)
def oO(C:Addr):Sp:=λvs H Q _=>∃(l r:Addr) (ps:List Addr) (xss:List (List Int)) (t b:Int),vs=[.ref l,.ref r]/\H l=some (.lst (ps.map V.ref))/\RwH H ps xss/\RA C H r t b/\Bits 400 t/\Bits 400 b/\(∀xs∈xss,xs.length<=20/\AllB 95000 xs)/\xss.length<=1000000/\∀H',Same H H'->Q (.int (chS (sgs t b xss)).1) H'
theorem vt(t b:Int)(xss:List (List Int)):∀s∈sgs t b xss,s.natAbs<=1:=λs hs=>by obtain⟨x,_,rfl⟩:=Fo.mp hs;exact pd _
theorem vq{t b:Int}{xss:List (List Int)}{i:Nat}{xs:List Int}(h:xss[i]?=some xs):sgs t b (xss.take (i+1))=sgs t b (xss.take i)++[sg (hv t b xs)]:=by unfold sgs;rw[Ge,h,FD];rfl
theorem qx{x:Int}(h:x.natAbs<=1):Bits 1000000 x:=Bits.mono (j:=1) (Hv h (by decide)) (by decide)
theorem xO(F:Fun K "changes" "changes" jX f fd)(T:Txt K mg)(R:RCI K mg C)(Dl:Cal P w K mg base 2 "sign_at" ["row","ratio"] (ox C) ED D1):FnOk P w K mg base CX0 3 f fd ["row","ratio"] (oO C):=by
 obtain⟨CJ,y8,zU,B7⟩:=Dl;refine F.ok sc_changes (λvs H Q E h=>?_) (λcdv A outer s H vs Q E hr h=>?_)
 ·obtain⟨l,r,ps,xss,t,b,rfl,_⟩:=h;rfl
 ·obtain⟨l,r,ps,xss,t,b,rfl,hL,hR,hRA,bt,bb,hb,hn,k⟩:=h
  refine⟨_,(ag (aq (i:=2) sc_changes.nd rfl (Or.inl rfl) ac)
   (ag (aq (i:=3) sc_changes.nd rfl (Or.inl rfl) ac)
   (ag (ca PassesOwn.never rfl (cm (K:=K) rfl (pv 0)) (aS (i:=4) sc_changes.nd rfl (Or.inl rfl))
     (ag (aq (i:=5) sc_changes.nd rfl (Or.inl rfl) (av CJ (hr.mono) rfl y8 zU B7 .nil au (aa (pv 4) (aa (pv 1) ae))))
       (ag (aQ (aC cF (af aJ (pv 5) (pv 3)) ac (ay _))
         (ak (aq (i:=2) sc_changes.nd rfl (Or.inl rfl) (af aZ (pv 2) ac)))
         aR)
       (ak (aQ (aC iC (pv 5) ac (ay _))
         (ak (aq (i:=3) sc_changes.nd rfl (Or.inl rfl) (pv 5)))
         aR)))))
   (ak (aD (pv 2)))))),?_⟩
  have hpl:(ps.map V.ref).length=xss.length:=by rw[Fk,hR.1]
  refine aE ?_;refine aE ?_;refine⟨_,rfl,l,rfl,⟨_,SqL.of hL⟩,dJ (K:=K) (a:=l) (xs:=ps.map V.ref) (λi σ' H'=>∃(z4 z5:Option V),σ'=[some (.ref l),some (.ref r),some (.int (chS (sgs t b (xss.take i))).1),some (.int (chS (sgs t b (xss.take i))).2),z4,z5]/\Same H H') ⟨none,none,rfl,λ_ _ e=>e⟩ ?_ ?_ ?_⟩
  ·rintro i σ' H' _ ⟨z4,z5,rfl,sm⟩;exact SqL.of (sm _ _ hL)
  ·rintro i x σ' H1 hi ⟨z4,z5,rfl,s1⟩;obtain⟨p,xs,rfl,ep,ex,hp,hlt⟩:=hR.of_get hi;obtain⟨hx1,hx2⟩:=hb xs (List.mem_of_getElem? ex);show br (fA _ (dY 5)) _ _ _ _;refine aE ⟨_,rfl,_,rfl,p,r,xs,t,b,⟨rfl,s1 _ _ hp,hRA.same s1,hx1,hx2,bt.mono,bb.mono⟩,λH2 sm2=>?_⟩;have s2:=s1.trans sm2;obtain⟨c1,c2,c3⟩:=BP _ (vt t b (xss.take i));rw[vq ex,tu];have hs:=pd (hv t b xs);generalize sg (hv t b xs)=s at hs ⊢
   generalize chS (sgs t b (xss.take i))=z at c1 ⊢
   obtain⟨m,bf⟩:=z;dsimp only
   refine cJ (λσ' H'=>σ'=[some (.ref l),some (.ref r),some (.int (if s*bf<0 then m+1 else m)),some (.int bf),some (.ref p),some (.int s)]/\H2=H') ?_ ?_
   case refine_2 =>
    intro rest;refine⟨_,rfl,_,rfl,_,_,rfl,rfl,⟨qx hs,qx c1⟩,_,_,rfl,rfl,_,rfl,aG (λh1=>?_) (λh1=>?_)⟩
    ·refine cQ ⟨_,rfl,_,_,rfl,rfl,rest _ _ ⟨?_,rfl⟩⟩;rw[if_pos h1];rfl
    ·refine rest _ _ ⟨?_,rfl⟩;rw[if_neg h1];rfl
   rintro σ' H' ⟨rfl,rfl⟩;refine⟨_,rfl,_,_,rfl,rfl,_,rfl,dP (λh1=>?_) (λh1=>?_)⟩
   ·refine cQ ⟨_,rfl,some (.ref p),some (.int s),?_,s2⟩;unfold chF;have h1':¬s=0:=h1;rw[if_neg h1'];rfl
   ·refine⟨some (.ref p),some (.int s),?_,s2⟩;unfold chF;have h1':s=0:=h1;rw[if_pos h1']
  ·rintro σ' H' ⟨z4,z5,rfl,sm⟩;rw[hpl,FS];exact⟨_,rfl,k H' sm⟩
def oN(C:Addr):Sp:=λvs H Q _=>∃(l r r2:Addr) (ps:List Addr) (xss:List (List Int)) (t b t2 b2:Int),vs=[.ref l,.ref r,.ref r2]/\H l=some (.lst (ps.map V.ref))/\RwH H ps xss/\RA C H r t b/\RA C H r2 t2 b2/\Bits 400 t/\Bits 400 b/\Bits 400 t2/\Bits 400 b2/\(∀xs∈xss,xs.length<=20/\AllB 95000 xs)/\xss.length<=1000000/\∀H',Same H H'->Q (.int ((chS (sgs t b xss)).1-(chS (sgs t2 b2 xss)).1)) H'
theorem xM(F:Fun K "count" "count" jV f fd)(T:Txt K mg)(R:RCI K mg C)(Dx:Cal P w K mg base 3 "changes" ["row","ratio"] (oO C) ER Ec):FnOk P w K mg base CX0 4 f fd ["row","low","high"] (oN C):=by
 obtain⟨uf,qW,rz,tQ⟩:=Dx;refine F.ok vN (λvs H Q E h=>?_) (λcdv A outer s H vs Q E hr h=>?_)
 ·obtain⟨l,r,r2,ps,xss,t,b,t2,b2,rfl,_⟩:=h;rfl
 ·obtain⟨l,r,r2,ps,xss,t,b,t2,b2,rfl,hL,hR,h1,h2,bt,bb,bt2,bb2,hb,hn,k⟩:=h;refine⟨_,(ak (aD (af aV (av uf (hr.mono) rfl qW rz tQ .nil au (aa (pv 0) (aa (pv 1) ae))) (av uf (hr.mono) rfl qW rz tQ .nil au (aa (pv 0) (aa (pv 2) ae)))))),?_⟩;refine bv ⟨_,rfl,_,rfl,l,r,ps,xss,t,b,rfl,hL,hR,h1,bt,bb,hb,hn,λH1 s1=>?_⟩;refine⟨_,rfl,_,rfl,l,r2,ps,xss,t2,b2,rfl,s1 _ _ hL,hR.same s1,h2.same s1,bt2,bb2,hb,hn,λH2 s2=>?_⟩;exact⟨_,_,rfl,rfl,k _ (s1.trans s2)⟩
theorem o1{i j:Nat}{a b:List Int}{n:Nat}(ha:AllB i a)(hb:AllB j b):∀m,Bits (i+j+m) (sm a b n m)
 |0=>Bits.zero
 |m+1=>by
  rw[sm];refine(o1 ha hb m).add ?_;unfold tm;split
  ·exact((ha.cf m).mul (hb.cf _)).mono (by omega)
  ·exact Bits.zero
theorem qS{i j k:Nat}{a b:List Int}(ha:AllB i a)(hb:AllB j b)(hk:i+j+a.length<=k):AllB k (ad a b):=AllB.of_cf λn=>by rw[aB];exact(o1 ha hb a.length).mono hk
theorem qR(a b:List Int):(ad a b).length<=a.length+b.length:=by
 unfold ad;split
 ·exact Fn _
 ·rw[Fk,FW];omega
theorem sL{xs ys:List Int}{x y:Nat}(hx:AllB x xs)(hy:AllB y ys):∀i,AllB (x+i*(y+1)) (bD xs ys i).1/\AllB (x+i*(y+1)) (bD xs ys i).2
 |0=>by rw[Nat.zero_mul];exact⟨AllB.zeros,hx⟩
 |i+1=>by
  obtain⟨h1,h2⟩:=sL hx hy i;have e:x+(i+1)*(y+1)=x+i*(y+1)+y+1:=by rw[Nat.succ_mul];omega
  have hs:Bits y (((RM.cf ys (ys.length-1)).natAbs:Nat):Int):=ge (hy.cf _);rw[e];show AllB _ (cg ys (bD xs ys i) _).1/\AllB _ (cg ys (bD xs ys i) _).2;unfold cg;dsimp only
  constructor
  ·intro v hv;rcases Hs hv with h |rfl
   ·obtain⟨u,hu,rfl⟩:=Fo.mp h;exact(hs.mul (h1 u hu)).mono (by omega)
   ·exact(ia (h2.cf _)).mono (by omega)
  ·refine AllB.of_cf λn=>?_
   rw[mv];by_cases hn:n<(scL (((RM.cf ys (ys.length-1)).natAbs:Nat):Int) (bD xs ys i).2).length-1
   ·rw[if_pos hn,bh]
    have m1:Bits (x+i*(y+1)+y) ((((RM.cf ys (ys.length-1)).natAbs:Nat):Int)*RM.cf (bD xs ys i).2 n):=by have:=hs.mul (h2.cf n);rwa [Nat.add_comm]at this
    refine m1.sub ?_;by_cases hp:(xs.length+1-ys.length-1-i)<=n
    ·rw[if_pos hp];exact(ia (h2.cf _)).mul (hy.cf _)
    ·rw[if_neg hp];exact Bits.zero
   ·rw[if_neg hn];exact Bits.zero
theorem jE{n:Nat}{l:List Int}(h:AllB n l):AllB n (ah l):=by
 intro y hy;obtain⟨x,hx,rfl⟩:=Fo.mp hy;obtain⟨d,hd⟩:=fb hx;by_cases hg:(ai l:Int)=0
 ·rw[hg,Int.ediv_zero];exact Bits.zero
 ·have e:x/(ai l:Int)=d:=by rw[hd];exact Int.mul_ediv_cancel_left d hg
  rw[e];refine(h x hx).of_le ?_;rw[hd,FP];exact Hw _ (Gw.mpr hg)
theorem jD(l:List Int):(ah l).length=l.length:=Fk _
theorem pj(n:Nat)(o:List Int):Run n [] o:=by cases n with |zero=>rfl |succ n=>exact .inl rfl
theorem sE(n:Nat)(o:List Int):RM.Ends n [] o:=by cases n with |zero=>rfl |succ n=>exact .inl rfl
theorem gr8:gr 540 6=91260:=by decide
def Okr(xs:List Int):Prop:=Tr xs/\AllB 91260 xs/\xs.length<=7
theorem pi:∀(n:Nat) (one other:List Int) (x y s:Nat),one.length=s+1->s<=6->other.length<=s->s<n->Tr one->Tr other->AllB x one->AllB y other->x+1<=gr 540 (6-s)->y+1<=gr 540 (6-s+1)->Run n one other/\RM.Ends n one other/\∀xs∈aO n one other,Okr xs
 |0,one,other,x,y,s,_,_,_,h,_,_,_,_,_,_=>absurd h (Nat.not_lt_zero _)
 |m+1,one,other,x,y,s,hl,hs8,hol,hsm,t1,t2,b1,b2,g1,g2=>by
  have hne:one≠[]:=λz=>by rw[z]at hl;simp at hl
  have m1:gr 540 (6-s)<=91260:=by rw[<- gr8];exact f7 540 (by omega)
  have bo1:AllB 91260 one:=b1.mono (by omega)
  have bo2:AllB 91260 other:=by
   by_cases ho:other=[]
   ·rw[ho];exact AllB.nil
   ·have:=Fm.mpr ho;have m2:gr 540 (6-s+1)<=91260:=by rw[<- gr8];exact f7 540 (by omega)
    exact b2.mono (by omega)
  have fit:Fit one other:=⟨t1,t2,91260,bo1,bo2,by rw[hl];omega,by omega⟩
  have eS:aO (m+1) one other=one::aO m other (nxt one other):=by show(if one=[]then[]else one::aO m other (nxt one other))=_;rw[if_neg hne]
  have ok1:Okr one:=⟨t1,bo1,by omega⟩;by_cases ho:other=[]
  ·subst ho;refine⟨.inr ⟨fit,pj _ _⟩,.inr (sE _ _),λxs hx=>?_⟩;rw[eS,fI]at hx;rw[Fu.mp hx];exact ok1
  ·have hop:=Fm.mpr ho;obtain⟨d,hd⟩:∃d,other.length=d+1:=⟨other.length-1,by omega⟩;have hN:aW one other=(s-d-1)+2:=by unfold aW;omega
   have e6:6-s+2+(s-d-1)=6-d+1:=by omega
   have rb:AllB (x+aW one other*(y+1)) (aj one other):=((sL b1 b2 (aW one other)).2).trim
   have nb:AllB (x+aW one other*(y+1)) (nxt one other):=by
    unfold nxt rst;rw[if_neg ho,g6 (dZ _ _)];refine jE λv hv=>?_
    obtain⟨u,hu,rfl⟩:=Fo.mp hv;have:=(rb u hu).neg
    rwa [show -1*u = -u by omega]
   have nl:(nxt one other).length<=d:=by unfold nxt rst;rw[if_neg ho,g6 (dZ _ _),jD,b6];have:=dg (a:=one) ho;omega
   have nt:Tr (nxt one other):=cZ (bZ _);have jump:=rS 540 (6-s) (s-d-1);rw[e6]at jump;have mm:=G6 (s-d-1+2) g2;obtain⟨r1,r2,r3⟩:=pi m other (nxt one other) y (x+aW one other*(y+1)) d hd (by omega) nl (by omega) t2 nt b2 nb (FA g2 (f7 540 (by omega))) (by rw[hN];omega);refine⟨.inr ⟨fit,r1⟩,.inr r2,λxs hx=>?_⟩;rw[eS]at hx;rcases Ft.mp hx with rfl |hx
   ·exact ok1
   ·exact r3 xs hx
theorem gd{H:Hp}{ps:List Addr}{r:List (List Int)}{i:Nat}{j:Int}(h:RwH H ps r)(hi:i<r.length)(e:j=i):∃p,atI (ps.map V.ref) j=some (.ref p)/\H p=some (.lst ((r.getD i []).map V.int)):=by obtain⟨p,ep,hp⟩:=h.get hi;subst e;exact⟨p,fv (by rw[List.getElem?_map,ep];rfl),hp⟩
theorem mP{H:Hp}{ps:List Addr}{r:List (List Int)}{i:Nat}(h:RwH H ps r)(hi:0<i)(hi2:i<=r.length):∃p,atI (ps.map V.ref) (-(i:Int))=some (.ref p)/\H p=some (.lst ((r.getD (r.length-i) []).map V.int)):=by
 obtain⟨p,ep,hp⟩:=h.get (i:=r.length-i) (by omega);refine⟨p,?_,hp⟩;have hl:(ps.map V.ref).length=r.length:=by rw[Fk,h.1]
 have e:ixN (ps.map V.ref).length (-(i:Int))=some (r.length-i):=by
  unfold ixN;rw[hl,if_neg (by omega),if_pos (by omega)]
  congr 1;omega
 unfold atI;rw[e];show(ps.map V.ref)[r.length-i]?=_;rw[List.getElem?_map,ep];rfl
theorem pC:∀(n:Nat) (one other:List Int),(aO n one other).length<=n
 |0,_,_=>Fl _
 |n+1,one,other=>by
  show(if one=[]then[]else one::aO n other (nxt one other)).length<=n+1;split
  ·exact Fn _
  ·have:=pC n other (nxt one other);rw[FI];omega
theorem vb{n:Nat}{xs:List Int}(h:AllB n xs)(hl:xs.length<=9):AllB (n+4) (slopeL xs):=by intro x hx;obtain⟨k,hk,rfl⟩:=Fo.mp hx;have hk':k<xs.length-1:=G9.mp hk;have b1:Bits 4 ((k:Int)+1):=Hv (show((k:Int)+1).natAbs<=8 by omega) (by decide);exact(b1.mul (h.cf (k+1))).mono (by omega)
theorem hI(xs:List Int):(slopeL xs).length=xs.length-1:=by unfold slopeL;rw[Fk,FW]
theorem wa{kps:List Int}(ktr:Tr kps)(kb:AllB 530 kps)(kl:kps.length<=7):Run 9 (ah kps) (ah (slopeL kps))/\RM.Ends 9 (ah kps) (ah (slopeL kps))/\∀xs∈aO 9 (ah kps) (ah (slopeL kps)),Okr xs:=by
 by_cases h0:kps=[]
 ·subst h0
  exact⟨pj _ _,sE _ _,λxs hx=>by
   have e:ah []=[]:=rfl;rw[e,fI]at hx
   exact nomatch hx⟩
 ·have hl:=Fm.mpr h0;obtain⟨s,hs⟩:∃s,kps.length=s+1:=⟨kps.length-1,by omega⟩;refine pi 9 (ah kps) (ah (slopeL kps)) 530 534 s (by rw[jD,hs]) (by omega) (by rw[jD,hI,hs];omega) (by omega) (cZ ktr) (cZ (jo ktr)) (jE kb) (jE (vb kb (by omega))) ?_ ?_
  ·exact FA (show 531<=gr 540 0 by decide) (f7 540 (Fn _))
  ·exact FA (show 535<=gr 540 1 by decide) (f7 540 (by omega))
theorem fM{Q:Hp->Prop}{H1 H2:Hp}(e:H1=H2)(h:Q H2):Q H1:=by rw[e];exact h
theorem qG:(¬("against":Str)="bottom")/\¬("against":Str)="top":=⟨by decide +kernel,by decide +kernel⟩
theorem vz(c:Int):(sg c<0↔c<0)/\(0<=sg c↔0<=c)/\(sg c<=0↔c<=0):=by unfold sg;split<;>(try split)<;>omega
abbrev Lnk:=Int×List Int×Int
def LkA(H:Hp)(p:Addr)(x:Lnk):Prop:=∃qa,H p=some (.tup [.int x.1,.ref qa,.int x.2.2])/\H qa=some (.lst (x.2.1.map V.int))
theorem LkA.same{H H':Hp}{p:Addr}{x:Lnk}(h:LkA H p x)(s:Same H H'):LkA H' p x:=let⟨qa,a,b⟩:=h;⟨qa,s _ _ a,s _ _ b⟩
def LkH(H:Hp)(ps:List Addr)(xs:List Lnk):Prop:=ps.length=xs.length/\∀(i:Nat) (p:Addr) (x:Lnk),ps[i]?=some p->xs[i]?=some x->LkA H p x
theorem LkH.same{H H':Hp}{ps:List Addr}{xs:List Lnk}(h:LkH H ps xs)(s:Same H H'):LkH H' ps xs:=⟨h.1,λi p x a b=>(h.2 i p x a b).same s⟩
theorem LkH.nil{H:Hp}:LkH H [] []:=⟨rfl,λi p x h=>by simp at h⟩
theorem LkH.snoc{H:Hp}{ps:List Addr}{xs:List Lnk}{p:Addr}{x:Lnk}(h:LkH H ps xs)(hp:LkA H p x):LkH H (ps++[p]) (xs++[x]):=by
 refine⟨by rw[Fp,Fp,h.1];rfl,λi q y a b=>?_⟩;by_cases hi:i<ps.length
 ·rw[List.getElem?_append_left hi]at a;rw[List.getElem?_append_left (by rw[<- h.1];exact hi)]at b;exact h.2 i q y a b
 ·rw[List.getElem?_append_right (by omega)]at a;rw[List.getElem?_append_right (by rw[<- h.1];omega),<- h.1]at b;by_cases h0:i-ps.length=0
  ·rw[h0]at a b;obtain rfl:p=q:=by simpa using a
   obtain rfl:x=y:=by simpa using b
   exact hp
  ·rw[List.getElem?_eq_none_iff.mpr (by simp;omega)]at a;cases a
theorem LkH.of_get{H:Hp}{ps:List Addr}{xs:List Lnk}{i:Nat}{v:V}(h:LkH H ps xs)(hx:(ps.map V.ref)[i]?=some v):∃p x,v=.ref p/\ps[i]?=some p/\xs[i]?=some x/\LkA H p x/\i<xs.length:=by
 rw[List.getElem?_map]at hx;cases e:ps[i]? with
 |none=>rw[e]at hx;cases hx
 |some p =>
  rw[e]at hx;have hi:i<ps.length:=(List.getElem?_eq_some_iff.mp e).1;have hi':i<xs.length:=by rw[<- h.1];exact hi
  exact⟨p,xs[i],(Option.some.inj hx).symm,rfl,List.getElem?_eq_getElem hi',h.2 i p _ e (List.getElem?_eq_getElem hi'),hi'⟩
noncomputable def cU(a b:List Int):Lnk:=(aF a b,aH a b,(ai (aj a b):Int))
noncomputable def bi(r:List (List Int)):List Lnk:=(List.range (r.length-2)).map λk=>cU (r.getD k []) (r.getD (k+1) [])
def gh(r:List (List Int))(k:Nat)(x:Lnk):Prop:=0<x.1/\0<x.2.2/\ad [x.1] (r.getD k [])=aT (ad x.2.1 (r.getD (k+1) [])) (ad [x.2.2] (r.getD (k+2) []))
def LkB(x:Lnk):Prop:=Bits 900000 x.1/\Bits 900000 x.2.2/\AllB 900000 x.2.1/\x.2.1.length<=1000
def RwB(r:List (List Int)):Prop:=∀xs∈r,xs.length<=20/\AllB 95000 xs
theorem RwB.at{r:List (List Int)}(h:RwB r)(k:Nat):(r.getD k []).length<=20/\AllB 95000 (r.getD k []):=by
 by_cases hk:k<r.length
 ·refine h _ ?_;rw[List.getD_eq_getElem?_getD,List.getElem?_eq_getElem hk];exact Gb _
 ·rw[List.getD_eq_getElem?_getD,List.getElem?_eq_none (by omega)];exact⟨Fn _,AllB.nil⟩
def oC:Sp:=λvs H Q _=>∃(l p:Addr) (ps:List Addr) (r:List (List Int)) (k:Nat) (x:Lnk),vs=[.ref l,.int (k:Int),.ref p]/\H l=some (.lst (ps.map V.ref))/\RwH H ps r/\RwB r/\k+2<r.length/\LkA H p x/\LkB x/\∀(b:Bool) (H':Hp),Same H H'->(b=true↔gh r k x)->Q (.bl b) H'
theorem xH(F:Fun K "link_holds" "link_holds" ig f fd)(T:Txt K mg)(Dp:Cal P w K mg base 1 "multiplied" ["first","second"] dO EH D5)(Dj:Cal P w K mg base 2 "taken" ["first","second"] (oT K aT) EB DZ):FnOk P w K mg base CX0 3 f fd ["row","k","link"] oC:=by
 obtain⟨mV,kT,lj,mH⟩:=Dp;obtain⟨CH,y6,zS,B5⟩:=Dj;refine F.ok vJ (λvs H Q E h=>?_) (λcdv A outer s H vs Q E hr h=>?_)
 ·obtain⟨l,p,ps,r,k,x,rfl,_⟩:=h;rfl
 ·obtain⟨l,p,ps,r,k,⟨f0,q0,g0⟩,rfl,hl,hR,hB,hk,⟨qa,hp,hq⟩,⟨bf,bg,bq,lq⟩,kk⟩:=h;have hu:(A.deeper (PyProof.Rows.envOfC (Str.ofString "link_holds") (ax ig) s.heap.objs.size f cdv)).units+64<cLine:=by have:=hr.un;omega
  have big:=sizeLine_eq
  replace bf:Bits 900000 f0:=bf
  replace bg:Bits 900000 g0:=bg
  replace bq:AllB 900000 q0:=bq
  replace lq:q0.length<=1000:=lq
  refine⟨_,(ag (aQ (PW.pt (eI (aC fV (al (aw (K:=K) rfl) (pv 2) ac (λ_ _=>rfl)) ac (ay _)) (fN (aC fV (al (aw (K:=K) rfl) (pv 2) ac (λ_ _=>rfl)) ac (ay _)))))
   (ak (aD dD))
   aR)
   (ak (aD (gB (kG (K:=K) rfl hu) (av mV (hr.mono) rfl kT lj mH .nil au (aa (bI (aa (al (aw (K:=K) rfl) (pv 2) ac (λ_ _=>rfl)) ae)) (aa (al (bj (K:=K) rfl) (pv 0) (pv 1) (λ_ _=>rfl)) ae))) (av CH (hr.mono) rfl y6 zS B5 .nil au (aa (av mV (hr.mono) rfl kT lj mH .nil au (aa (al (aw (K:=K) rfl) (pv 2) ac (λ_ _=>rfl)) (aa (al (bj (K:=K) rfl) (pv 0) (af aZ (pv 1) ac) (λ_ _=>rfl)) ae))) (aa (av mV (hr.mono) rfl kT lj mH .nil au (aa (bI (aa (al (aw (K:=K) rfl) (pv 2) ac (λ_ _=>rfl)) ae)) (aa (al (bj (K:=K) rfl) (pv 0) (af aZ (pv 1) ac) (λ_ _=>rfl)) ae))) ae))) (ay _))))),?_⟩
  refine ck (fK ⟨_,rfl,p,_,_,_,rfl,rfl,SqT.of hp,rfl,_,_,rfl,rfl,_,rfl,aG (λz=>?_) (λz=>?_)⟩)
  ·have z':f0<=0:=z;exact cI (bv (kk false H (Same.refl _) ⟨λy=>Bool.noConfusion y,λy=>absurd y.1 (by show ¬0<f0;omega)⟩))
  refine⟨_,rfl,p,_,_,_,rfl,rfl,SqT.of hp,rfl,_,_,rfl,rfl,_,rfl,aG (λz2=>?_) (λz2=>?_)⟩
  ·have z':g0<=0:=z2;exact bv (kk false H (Same.refl _) ⟨λy=>Bool.noConfusion y,λy=>absurd y.2.1 (by show ¬0<g0;omega)⟩)
  have f1:¬f0<=0:=z;have g1:¬g0<=0:=z2;obtain⟨la,ba⟩:=hB.at k;obtain⟨lb,bb⟩:=hB.at (k+1);obtain⟨lc,bc⟩:=hB.at (k+2);have one:∀{c:Int},Bits 900000 c->AllB 1000000 [c]:=λh x hx=>by rw[Fu.mp hx];exact h.mono
  refine bv ⟨_,rfl,p,_,_,_,rfl,rfl,SqT.of hp,rfl,by show 1<=sizeLine;decide,λv1 hv1=>?_⟩;have s1:=Same.upd_new (o:=.lst [.int f0]) hv1;have e1:upd H v1 (.lst [.int f0]) v1=some (.lst ([f0].map V.int)):=am;generalize upd H v1 (.lst [.int f0])=H1 at s1 e1 ⊢
  obtain⟨pa,ea,ha⟩:=gd (hR.same s1) (show k<r.length by omega) (rfl:((k:Nat):Int)=k);refine⟨_,rfl,_,rfl,l,_,_,_,rfl,rfl,SqL.of (s1 _ _ hl),ea,v1,pa,[f0],_,rfl,e1,ha,by show 1<=1000000;decide,by omega,one bf,ba.mono,λm1 H2 s2 hm1 em1=>?_⟩;have t2:=s1.trans s2;obtain⟨pb,eb,hb⟩:=gd (hR.same t2) (show k+1<r.length by omega) (show((k:Nat):Int)+1=((k+1:Nat):Int) by omega);refine⟨_,rfl,p,_,_,_,rfl,rfl,SqT.of (t2 _ _ hp),rfl,_,rfl,_,rfl,_,_,rfl,rfl,l,_,_,_,rfl,rfl,SqL.of (t2 _ _ hl),eb,qa,pb,q0,_,rfl,t2 _ _ hq,hb,by omega,by omega,bq.mono,bb.mono,λm2 H3 s3 hm2 em2=>?_⟩;have t3:=t2.trans s3;refine⟨_,rfl,p,_,_,_,rfl,rfl,SqT.of (t3 _ _ hp),rfl,by show 1<=sizeLine;decide,λv2 hv2=>?_⟩;have s4:=Same.upd_new (o:=.lst [.int g0]) hv2;have e4:upd H3 v2 (.lst [.int g0]) v2=some (.lst ([g0].map V.int)):=am;refine fM (H2:=upd H3 v2 (.lst [.int g0])) rfl ?_;generalize upd H3 v2 (.lst [.int g0])=H4 at s4 e4 ⊢
  have t4:=t3.trans s4;obtain⟨pc,ec,hc⟩:=gd (hR.same t4) (show k+2<r.length by omega) (show((k:Nat):Int)+2=((k+2:Nat):Int) by omega);refine⟨_,rfl,_,rfl,_,_,rfl,rfl,l,_,_,_,rfl,rfl,SqL.of (t4 _ _ hl),ec,v2,pc,[g0],_,rfl,e4,hc,by show 1<=1000000;decide,by omega,one bg,bc.mono,λm3 H5 s5 hm3 em3=>?_⟩;have l2:=qR q0 (r.getD (k+1) []);have l3:=qR [g0] (r.getD (k+2) []);have l1:([g0]:List Int).length=1:=rfl;refine⟨m2,m3,_,_,rfl,SqL.of ((s4.trans s5) _ _ em2),SqL.of em3,by omega,by omega,λm4 H6 s6 hm4 em4=>?_⟩;refine⟨m1,m4,_,_,rfl,rfl,SqL.of ((s3.trans (s4.trans (s5.trans s6))) _ _ em1),SqL.of em4,kk _ H6 (t4.trans (s5.trans s6)) ?_⟩;rw[decide_eq_true_iff];exact⟨λy=>⟨by show 0<f0;omega,by show 0<g0;omega,y⟩,λy=>y.2.2⟩
structure HotP(ns:List Int)(r:List (List Int))(xs:List Lnk):Prop where
 two:2<=r.length
 len:xs.length+2=r.length
 fst:r.getD 0 []=ns
 snd:r.getD 1 []=ah (slopeL ns)
 lst:(r.getD (r.length-1) []).length=1
 lks:∀(k:Nat) (x:Lnk),xs[k]?=some x->gh r k x
def oF:Sp:=λvs H Q _=>∃(pn l lk:Addr) (ps ls:List Addr) (ns:List Int) (r:List (List Int)) (xs:List Lnk),vs=[.ref pn,.ref l,.ref lk]/\H pn=some (.lst (ns.map V.int))/\H l=some (.lst (ps.map V.ref))/\RwH H ps r/\RwB r/\H lk=some (.lst (ls.map V.ref))/\LkH H ls xs/\(∀x∈xs,LkB x)/\Tr ns/\ns.length<=20/\AllB 95000 ns/\r.length<=1000/\xs.length<=1000/\∀(b:Bool) (H':Hp),Same H H'->(b=true↔HotP ns r xs)->Q (.bl b) H'
theorem CA{bs:List Bool}{p:Nat->Prop}(h:∀i b,bs[i]?=some b->(b=true↔p i)):bs.all id=true↔∀i,i<bs.length->p i:=by
 rw[GM];constructor
 ·intro z i hi;exact(h i bs[i] (List.getElem?_eq_getElem hi)).mp (z _ (Gb hi))
 ·intro z b hb;obtain⟨i,hi,rfl⟩:=Gu hb;exact(h i bs[i] (List.getElem?_eq_getElem hi)).mpr (z i hi)
theorem xK(F:Fun K "holds_together" "holds_together" ij f fd)(T:Txt K mg)(Dm:Cal P w K mg base 33 "shrunk" ["row"] gt EE D2)(Dk:Cal P w K mg base 1 "slope" ["row"] (sp1 slopeL) EC D0)(Dt:Cal P w K mg base 1 "degree" ["row"] oK EN D9)(Dq:Cal P w K mg base 3 "link_holds" ["row","k","link"] oC EI D6):FnOk P w K mg base CX0 34 f fd ["polynomial","row","links"] oF:=by
 obtain⟨CK,y9,zV,B8⟩:=Dm;obtain⟨CI,y7,zT,B6⟩:=Dk;obtain⟨CQ,zf,Ab,Ce⟩:=Dt;obtain⟨CN,zc,zY,Cb⟩:=Dq;refine F.ok vL (λvs H Q E h=>?_) (λcdv A outer s H vs Q E hr h=>?_)
 ·obtain⟨pn,l,lk,ps,ls,ns,r,xs,rfl,_⟩:=h;rfl
 ·obtain⟨pn,l,lk,ps,ls,ns,r,xs,rfl,hn,hl,hR,hB,hlk,hL,hX,tn,ln,bn,r1000,x1000,k⟩:=h;have hu:(A.deeper (PyProof.Rows.envOfC (Str.ofString "holds_together") (ax ij) s.heap.objs.size f cdv)).units+64<cLine:=by have:=hr.un;omega
  have big:=sizeLine_eq;have pl:(ps.map V.ref).length=r.length:=by rw[Fk,hR.1]
  have ql:(ls.map V.ref).length=xs.length:=by rw[Fk,hL.1]
  have no:∀{H':Hp},Same H H'->¬HotP ns r xs->Q (.bl false) H':=λsm h=>k false _ sm ⟨λz=>Bool.noConfusion z,λz=>absurd z h⟩
  refine⟨_,(ag (aQ (PW.pt (eI (aC cF (aP (aY (K:=K) rfl) (by rfl) T.len_ PySem.boot_len (aa (pv 1) ae)) ac (ay _)) (fN (aC iC (aP (aY (K:=K) rfl) (by rfl) T.len_ PySem.boot_len (aa (pv 2) ae)) (af aV (aP (aY (K:=K) rfl) (by rfl) T.len_ PySem.boot_len (aa (pv 1) ae)) ac) (ay _)))))
   (ak (aD dD))
   aR)
   (ag (aQ (PW.pt (eI (aC (qt (K:=K) rfl hu) (al (bj (K:=K) rfl) (pv 1) ac (λ_ _=>rfl)) (pv 0) (ay _)) (eI (aC (qt (K:=K) rfl hu) (al (bj (K:=K) rfl) (pv 1) ac (λ_ _=>rfl)) (av CK (hr.mono) rfl y9 zV B8 .nil au (aa (av CI (hr.mono) rfl y7 zT B6 .nil au (aa (pv 0) ae)) ae)) (ay _)) (fN (aC iC (av CQ (hr.mono) rfl zf Ab Ce .nil au (aa (al (bj (K:=K) rfl) (pv 1) (cx cp ac) (λ_ _=>rfl)) ae)) ac (ay _))))))
     (ak (aD dD))
     aR)
   (ak (aD (aP (BY (K:=K) rfl rfl) (by rfl) T.all_ PyProof.Rows.boot_all (aa (c7 (own:=["k","link"]) (fr:=["row"]) (js:=[1]) (by walk_at "comp_ok") rfl (eR rfl T.enumerate_ (aa (pv 2) ae)) (λ_ _ _ _=>(qm (K:=K) (n:=2) rfl rfl (cv (aS (i:=0) (show List.Nodup (["k","link","row"]:List Str)from by decide +kernel) rfl (Or.inl rfl) (Or.inr rfl)) (cv (aS (i:=1) (show List.Nodup (["k","link","row"]:List Str)from by decide +kernel) rfl (Or.inl rfl) (Or.inr rfl)) eT rfl) rfl) rfl rfl)) (λ_ _ _ _=>(av CN (hr.mono) rfl zc zY Cb .nil au (aa (pv 2) (aa (pv 0) (aa (pv 1) ae)))))) ae)))))),?_⟩
  refine ck (fK ⟨_,rfl,l,_,rfl,.inl (SqL.of hl),_,_,rfl,rfl,_,rfl,aG (λz=>?_) (λz=>?_)⟩)
  ·have z':((ps.map V.ref).length:Int)<2:=z;exact cI (bv (no (Same.refl _) λy=>by have:=y.two;omega))
  have z0:¬((ps.map V.ref).length:Int)<2:=z;refine⟨_,rfl,lk,_,rfl,.inl (SqL.of hlk),_,rfl,l,_,rfl,.inl (SqL.of hl),_,_,rfl,rfl,_,_,rfl,rfl,_,rfl,dP (λz1=>?_) (λz1=>?_)⟩
  ·have z':¬((ls.map V.ref).length:Int)=((ps.map V.ref).length:Int)-2:=z1;exact bv (no (Same.refl _) λy=>by have:=y.len;omega)
  have z2:((ls.map V.ref).length:Int)=((ps.map V.ref).length:Int)-2:=z1;have r2:2<=r.length:=by omega
  have lx:xs.length+2=r.length:=by omega
  obtain⟨p0,ea,h0⟩:=gd hR (show 0<r.length by omega) (rfl:(0:Int)=((0:Nat):Int));refine ck (fK ⟨_,rfl,l,_,_,_,rfl,rfl,SqL.of hl,ea,_,rfl,p0,pn,_,_,rfl,rfl,SqL.of h0,SqL.of hn,_,rfl,dP (λz3=>?_) (λz3=>?_)⟩)
  ·exact cI (bv (no (Same.refl _) λy=>z3 y.fst))
  obtain⟨p1,eb,h1⟩:=gd hR (show 1<r.length by omega) (rfl:(1:Int)=((1:Nat):Int));refine fK ⟨_,rfl,l,_,_,_,rfl,rfl,SqL.of hl,eb,_,rfl,pn,ns,rfl,hn,by omega,bn.mono,λs1 H1 t1 hs1 es1=>?_⟩;refine⟨s1,_,rfl,es1,jo tn,by rw[hI];omega,λs2 H2 t2 hs2 es2=>?_⟩;have u2:=t1.trans t2;refine⟨p1,s2,_,_,rfl,rfl,SqL.of (u2 _ _ h1),SqL.of es2,_,rfl,dP (λz4=>?_) (λz4=>?_)⟩
  ·exact cI (bv (no u2 λy=>z4 y.snd))
  obtain⟨p9,ec,h9⟩:=mP (hR.same u2) (show 0<1 by decide) (show 1<=r.length by omega);refine⟨_,rfl,_,rfl,l,_,_,_,rfl,rfl,SqL.of (u2 _ _ hl),ec,p9,_,rfl,h9,_,_,rfl,rfl,_,rfl,dP (λz5=>?_) (λz5=>?_)⟩
  ·have z':¬(((r.getD (r.length-1) []).map V.int).length:Int)-1=0:=z5;rw[Fk]at z';exact bv (no u2 λy=>by have:=y.lst;omega)
  have z6:(((r.getD (r.length-1) []).map V.int).length:Int)-1=0:=z5;rw[Fk]at z6;refine bv ⟨_,rfl,lk,rfl,⟨_,SqL.of (u2 _ _ hlk)⟩,sW (K:=K) (a:=lk) (xs:=ls.map V.ref) (λi ys σ' H'=>∃(z0 z1:Option V) (bs:List Bool),σ'=[z0,z1,some (.ref l)]/\ys=bs.map V.bl/\bs.length=i/\Same H H'/\∀j b,bs[j]?=some b->(b=true↔∀x,xs[j]?=some x->gh r j x)) (by omega) ⟨none,none,[],rfl,rfl,rfl,u2,λj b h=>(nomatch h)⟩ ?_ ?_ ?_⟩
  ·rintro i ys σ' H' hi ⟨z0,z1,bs,rfl,rfl,rfl,sm,_⟩;exact⟨SqL.of (sm _ _ hlk),by rw[Fk];exact Fl _⟩
  ·rintro i v ys σ' H' q hi ⟨z0,z1,bs,rfl,rfl,rfl,sm,hb⟩ hq;obtain⟨p,x,rfl,ep,ex,hk,hlt⟩:=(hL.same sm).of_get hi;have s3:=Same.upd_new (o:=.tup [.int (bs.length:Int),.ref p]) hq;refine⟨q,_,rfl,SqT.of am,rfl,_,_,rfl,_,_,rfl,rfl,?_⟩;have u3:=sm.trans s3;refine⟨_,rfl,_,rfl,_,rfl,l,p,ps,r,bs.length,x,rfl,u3 _ _ hl,hR.same u3,hB,by omega,hk.same s3,hX x (List.mem_of_getElem? ex),λb H4 s4 hb4=>?_⟩;refine⟨_,_,bs++[b],rfl,by rw[FD];rfl,Fp,u3.trans s4,λj b' hj=>?_⟩;by_cases hjl:j<bs.length
   ·rw[List.getElem?_append_left hjl]at hj;exact hb j b' hj
   ·rw[List.getElem?_append_right (by omega)]at hj;by_cases h0:j-bs.length=0
    ·rw[h0]at hj;obtain rfl:b=b':=by simpa using hj
     obtain rfl:j=bs.length:=by omega
     rw[hb4,ex];exact⟨λy x' e=>by cases e;exact y,λy=>y x rfl⟩
    ·rw[List.getElem?_eq_none_iff.mpr (by simp;omega)]at hj;cases hj
  ·rintro ys σ' H3 pl' ⟨z0,z1,bs,rfl,rfl,hbl,sm,hb⟩ hpl;refine⟨pl',bs,rfl,SqL.of am,k _ _ (sm.then_new hpl) ?_⟩;rw[CA hb];refine⟨λy=>⟨r2,lx,z3,z4,by omega,λj x ex=>y j ?_ x ex⟩,λy j _ x ex=>y.lks j x ex⟩;rw[hbl,ql];exact(List.getElem?_eq_some_iff.mp ex).1
def jh(ns:List Int)(r:List (List Int))(xs:List Lnk)(l1 l2 h1 h2:Int):Prop:=HotP ns r xs/\l1*h2<h1*l2/\(chS (sgs l1 l2 r)).1-(chS (sgs h1 h2 r)).1=1
def oE(C:Addr):Sp:=λvs H Q _=>∃(pn lo hi pp l lk:Addr) (ps ls:List Addr) (ns:List Int) (r:List (List Int)) (xs:List Lnk) (l1 l2 h1 h2:Int),vs=[.ref pn,.ref lo,.ref hi,.ref pp]/\H pp=some (.tup [.ref l,.ref lk])/\RA C H lo l1 l2/\RA C H hi h1 h2/\Bits 400 l1/\Bits 400 l2/\Bits 400 h1/\Bits 400 h2/\H pn=some (.lst (ns.map V.int))/\H l=some (.lst (ps.map V.ref))/\RwH H ps r/\RwB r/\H lk=some (.lst (ls.map V.ref))/\LkH H ls xs/\(∀x∈xs,LkB x)/\Tr ns/\ns.length<=20/\AllB 95000 ns/\r.length<=1000/\xs.length<=1000/\∀(b:Bool) (H':Hp),Same H H'->(b=true↔jh ns r xs l1 l2 h1 h2)->Q (.bl b) H'
theorem xJ(F:Fun K "just_one" "just_one" jT f fd)(T:Txt K mg)(R:RCI K mg C)(Ds:Cal P w K mg base 34 "holds_together" ["polynomial","row","links"] oF EK D8)(DT:MCal P w K mg base 2 C "against" ["self","other"] (oS C) Ff Ey)(Du:Cal P w K mg base 4 "count" ["row","low","high"] (oN C) EO Ea):FnOk P w K mg base CX0 35 f fd ["polynomial","low","high","paper"] (oE C):=by
 obtain⟨CP,ze,Aa,Cd⟩:=Ds;obtain⟨Dg,yO,Ct⟩:=DT;obtain⟨CS,zg,Ac,Cf⟩:=Du;refine F.ok vK (λvs H Q E h=>?_) (λcdv A outer s H vs Q E hr h=>?_)
 ·obtain⟨pn,lo,hi,pp,l,lk,ps,ls,ns,r,xs,l1,l2,h1,h2,rfl,_⟩:=h;rfl
 ·obtain⟨pn,lo,hi,pp,l,lk,ps,ls,ns,r,xs,l1,l2,h1,h2,rfl,hpp,hlo,hhi,b1,b2,b3,b4,hn,hl,hR,hB,hlk,hL,hX,tn,ln,bn,r1000,x1000,k⟩:=h;refine⟨_,(ak (aD (iB (av CP (hr.mono) rfl ze Aa Cd .nil au (aa (pv 0) (aa (al (aw (K:=K) rfl) (pv 3) ac (λ_ _=>rfl)) (aa (al (aw (K:=K) rfl) (pv 3) ac (λ_ _=>rfl)) ae)))) (iB (gB cF (w6 (pv 1) R.cl yO Dg (hr.mono) Ct .nil au (aa (pv 2) ae)) ac (ay _)) (qo (gB bz (av CS (hr.mono) rfl zg Ac Cf .nil au (aa (al (aw (K:=K) rfl) (pv 3) ac (λ_ _=>rfl)) (aa (pv 1) (aa (pv 2) ae)))) ac (ay _))))))),?_⟩;refine bv (iu ⟨_,rfl,_,rfl,pp,_,_,_,rfl,rfl,SqT.of hpp,rfl,_,rfl,pp,_,_,_,rfl,rfl,SqT.of hpp,rfl,pn,l,lk,ps,ls,ns,r,xs,rfl,hn,hl,hR,hB,hlk,hL,hX,tn,ln,bn,r1000,x1000,λb H1 s1 hb=>⟨_,rfl,?_⟩⟩);cases b with
  |false=>exact cP (k false H1 s1 ⟨λz=>Bool.noConfusion z,λz=>hb.mpr z.1⟩)
  |true =>
   refine cI ?_;have hot:=hb.mp rfl;obtain⟨dx,hx'⟩:=id (hlo.same s1);have s_lt:sg (l1*h2-h1*l2)<0↔l1*h2<h1*l2:=by rw[(vz _).1];omega
   refine iu ⟨_,rfl,lo,dx,_,rfl,hx',AX _ _ qG.1 qG.2,_,rfl,lo,hi,l1,l2,h1,h2,rfl,hlo.same s1,hhi.same s1,b1.mono,b2.mono,b3.mono,b4.mono,_,_,rfl,rfl,_,rfl,aG (λz=>?_) (λz=>?_)⟩
   ·refine⟨_,rfl,pp,_,_,_,rfl,rfl,SqT.of (s1 _ _ hpp),rfl,_,rfl,_,rfl,l,lo,hi,ps,r,l1,l2,h1,h2,rfl,s1 _ _ hl,hR.same s1,hlo.same s1,hhi.same s1,b1,b2,b3,b4,hB,by omega,λH2 s2=>?_⟩;refine⟨_,_,rfl,rfl,k _ H2 (s1.trans s2) ?_⟩;rw[decide_eq_true_iff];exact⟨λy=>⟨hot,s_lt.mp z,y⟩,λy=>y.2.2⟩
   ·exact k false H1 s1 ⟨λy=>Bool.noConfusion y,λy=>absurd (s_lt.mpr y.2.1) z⟩
theorem yk(F:Fun K "_law_cell_at" "_law_cell_at" kr f fd)(T:Txt K mg):FnOk P w K mg base CX0 1 f fd ["_law_script","_law_k"] (hG K):=by
 refine F.ok vR (λvs H Q E h=>?_) (λcdv A outer s H vs Q E hr h=>?_)
 ·obtain⟨a,ns,k,rfl,_⟩:=h;rfl
 ·obtain⟨a,ns,n,rfl,hS,k⟩:=h
  refine⟨_,(ag (aQ (aC cF (pv 1) (aP (aY (K:=K) rfl) (by rfl) T.len_ PySem.boot_len (aa (pv 0) ae)) (ay _))
   (ak (aD (al (bj (K:=K) rfl) (pv 0) (pv 1) (λ_ _=>rfl))))
   aR)
   (ak (aD ac))),?_⟩
  refine⟨_,rfl,_,rfl,a,_,rfl,.inl hS,_,_,rfl,rfl,_,rfl,?_⟩;refine aG (λh1=>?_) (λh1=>?_)
  ·rw[Fk]at h1;have h2:n<ns.length:=by omega
   refine⟨_,rfl,_,rfl,a,_,_,_,rfl,rfl,hS,fv (v:=.int (ns.getD n 0)) ?_,k⟩;rw[List.getElem?_map,List.getElem?_eq_getElem h2];simp[List.getD,h2]
  ·rw[Fk]at h1;have h2:ns.length<=n:=by omega
   have e:ns.getD n 0=0:=by simp[List.getD,List.getElem?_eq_none_iff.mpr h2]
   rw[e]at k;exact k
def ou:Sp:=λvs H Q _=>∃c z:Int,vs=[.int c,.int z]/\0<=z/\Bits 1000 z/\Q (.int (c%(2*z+1)-z)) H
theorem xP(F:Fun K "_law_within" "_law_within" jY f fd)(T:Txt K mg):FnOk P w K mg base CX0 1 f fd ["_law_cell","_law_most"] ou:=by
 refine F.ok vP (λvs H Q E h=>?_) (λcdv A outer s H vs Q E hr h=>?_)
 ·obtain⟨c,z,rfl,_⟩:=h;rfl
 ·obtain⟨c,z,rfl,hz,hb,k⟩:=h;refine⟨_,(ak (aD (af aV (af bJ (pv 0) (af aZ (af aJ ac (pv 1)) ac)) (pv 1)))),?_⟩;refine⟨_,rfl,_,rfl,_,_,rfl,rfl,⟨Bits.mono (j:=2) (by show(2:Int).natAbs<2^2;decide) (by decide),hb.mono⟩,_,_,rfl,rfl,_,_,rfl,rfl,(by show(0:Int)<2*z+1;omega),_,rfl,_,_,rfl,rfl,k⟩
theorem xR(F:Fun K "_law_trim" "_law_trim" j0 f fd)(T:Txt K mg):FnOk P w K mg base CX0 1 f fd ["_law_row"] (gq K):=by
 refine F.ok sc__law_trim (λvs H Q E h=>?_) (λcdv A outer s H vs Q E hr h=>?_)
 ·obtain⟨a,ns,rfl,_⟩:=h;rfl
 ·obtain⟨a,ns,rfl,hS,k⟩:=h
  refine⟨_,(ag (aq (i:=1) sc__law_trim.nd rfl (Or.inl rfl) (aP (aY (K:=K) rfl) (by rfl) T.len_ PySem.boot_len (aa (pv 0) ae)))
   (ag (eJ PassesOwn.never (PW.pt (cE (aC cT (pv 1) ac (ay _)) (cS (aC bz (al (bj (K:=K) rfl) (pv 0) (af aV (pv 1) ac) (λ_ _=>rfl)) ac (ay _)))))
     (ak (aq (i:=1) sc__law_trim.nd rfl (Or.inl rfl) (af aV (pv 1) ac))))
   (ak (aD (fS (fD (K:=K) rfl) (pv 0) fQ (fO (pv 1))))))),?_⟩
  refine⟨_,rfl,a,_,rfl,.inl hS,?_⟩;refine⟨λm σ' H'=>∃n:Nat,n<=ns.length/\σ'=[some (.ref a),some (.int n)]/\H=H'/\n=m/\trim (ns.take n)=trim ns,⟨_,ns.length,Fl _,?_,rfl,rfl,?_⟩,?_⟩
  ·rw[Fk];rfl
  ·rw[FS]
  ·rintro m σ' H' ⟨n,hn,rfl,rfl,rfl,ht⟩
   have fin:trim (ns.take n)=ns.take n->∃v,([some (V.ref a),some (V.int n)]:St)[0]?=some (some v)/\∃v_1,([some (V.ref a),some (V.int n)]:St)[1]?=some (some v_1)/\∃i,v_1=V.int i/\iy K v none (some i) H Q:=λh=>by
    refine⟨_,rfl,_,rfl,n,rfl,a,_,rfl,hS,λp hp=>k p _ (Same.upd_new hp) hp ?_⟩;rw[am,<- ht,h]
    have e:cN (ns.map V.int) none (some (n:Int))=(ns.take n).map V.int:=by unfold cN;rw[HT.sIx_none,HT.sIx_nat,List.drop_zero,GO,Fk,Nat.min_eq_left hn,List.map_take]
    rw[e]
   refine⟨_,rfl,_,_,rfl,rfl,_,rfl,?_⟩;refine aG (λhp=>?_) (λhp=>?_)
   ·obtain⟨j,rfl⟩:∃j,n=j+1:=⟨n-1,by have:(0:Int)<n:=hp;omega⟩;have hj:j<ns.length:=hn;refine⟨_,rfl,_,rfl,_,_,rfl,rfl,a,_,j,.int (cf ns j),rfl,?_,hS,fv ?_,_,_,rfl,rfl,_,rfl,?_⟩
    ·show V.int (((j+1:Nat):Int)-1)=V.int j
     congr 1;omega
    ·rw[List.getElem?_map,de hj];rfl
    refine aG (λh0=>?_) (λh0=>?_)
    ·refine⟨λσ'' H''=>∃m',m'<j+1/\∃n:Nat,n<=ns.length/\σ''=[some (.ref a),some (.int n)]/\H=H''/\n=m'/\trim (ns.take n)=trim ns,λ_ _ h=>h,?_⟩;refine⟨_,rfl,_,_,rfl,rfl,j,GC _,j,GI hj,?_,rfl,rfl,?_⟩
     ·show[some (V.ref a),some (V.int (((j+1:Nat):Int)-1))]=[some (V.ref a),some (V.int j)]
      congr 4;omega
     ·rw[<- ht,nJ hj h0]
    ·exact fin (nK hj h0)
   ·obtain rfl:n=0:=by have:¬(0:Int)<n:=hp;omega
    exact fin (by rw[GT];rfl)
theorem ya(F:Fun K "_law_mul" "_law_mul" kg f fd)(T:Txt K mg):FnOk P w K mg base CX0 1 f fd ["_law_kp","_law_kq"] dO:=by
 refine F.ok sc__law_mul (λvs H Q E h=>?_) (λcdv A outer s H vs Q E hr h=>?_)
 ·obtain⟨a,b,xs,ys,rfl,_⟩:=h;rfl
 ·obtain⟨a,b,xs,ys,rfl,hA,hB,hx,hy,bx,by',k⟩:=h
  refine⟨_,(ag (aQ (PW.pt (eI (aC bz (aP (aY (K:=K) rfl) (by rfl) T.len_ PySem.boot_len (aa (pv 0) ae)) ac (ay _)) (fN (aC bz (aP (aY (K:=K) rfl) (by rfl) T.len_ PySem.boot_len (aa (pv 1) ae)) ac (ay _)))))
   (ak (aD (bI ae)))
   aR)
   (ag (kB (i:=2) sc__law_mul.nd rfl (Or.inl rfl) (own:=["_law_k"]) (fr:=[]) (js:=[]) (by walk_at "comp_ok") rfl (gA rfl T.range_ (aa (af aV (af aZ (aP (aY (K:=K) rfl) (by rfl) T.len_ PySem.boot_len (aa (pv 0) ae)) (aP (aY (K:=K) rfl) (by rfl) T.len_ PySem.boot_len (aa (pv 1) ae))) ac) ae)) (λ_ _ _ _=>(aS (i:=0) (show List.Nodup (["_law_k"]:List Str)from by decide +kernel) rfl (Or.inl rfl))) (λ_ _ _ _=>ac) (by rfl))
   (ag (ca PassesOwn.never rfl (eR rfl T.enumerate_ (aa (pv 0) ae)) (fR rfl (cv (aS (i:=3) sc__law_mul.nd rfl (Or.inl rfl)) (cv (aS (i:=4) sc__law_mul.nd rfl (Or.inl rfl)) eT)))
     (ak (ca PassesOwn.never rfl (eR rfl T.enumerate_ (aa (pv 1) ae)) (fR rfl (cv (aS (i:=5) sc__law_mul.nd rfl (Or.inl rfl)) (cv (aS (i:=6) sc__law_mul.nd rfl (Or.inl rfl)) eT)))
       (ak (cr (af aZ (al (bj (K:=K) rfl) (pv 2) (af aZ (pv 3) (pv 5)) (λ_ _=>rfl)) (af aJ (pv 4) (pv 6))) (cw (pv 2) (af aZ (pv 3) (pv 5)) cq))))))
   (ak (aD (pv 2)))))),?_⟩
  have none':(xs=[]\/ys=[])->∀p,H p=none->Q (.ref p) (upd H p (.lst [])):=λh p hp=>k p _ (Same.upd_new hp) hp (by rw[am];unfold ad;rw[if_pos h];rfl)
  have hlx:(xs.map V.int).length=xs.length:=Fk _;have hly:(ys.map V.int).length=ys.length:=Fk _;refine ck (fK ⟨_,rfl,a,_,rfl,.inl (SqL.of hA),_,_,rfl,rfl,_,rfl,aG (λh0=>?_) (λh0=>?_)⟩)
  ·exact cI ⟨Fn _,λp hp=>none' (.inl (Gc.mp (by rw[hlx]at h0;omega))) p hp⟩
  refine⟨_,rfl,b,_,rfl,.inl (SqL.of hB),_,_,rfl,rfl,_,rfl,aG (λh1=>?_) (λh1=>?_)⟩
  ·exact⟨Fn _,λp hp=>none' (.inr (Gc.mp (by rw[hly]at h1;omega))) p hp⟩
  rw[hlx]at h0;rw[hly]at h1;have hx0:xs≠[]:=λz=>h0 (by rw[z];rfl)
  have hy0:ys≠[]:=λz=>h1 (by rw[z];rfl)
  obtain⟨la,ea⟩:∃la,xs.length=la+1:=⟨xs.length-1,by have:=Fm.mpr hx0;omega⟩;obtain⟨lb,eb⟩:∃lb,ys.length=lb+1:=⟨ys.length-1,by have:=Fm.mpr hy0;omega⟩;have big:=sizeLine_eq;have en:((xs.map V.int).length:Int)+((ys.map V.int).length:Int)-1=((la+lb+1:Nat):Int):=by rw[hlx,hly];omega
  refine⟨_,rfl,a,_,rfl,.inl (SqL.of hA),_,rfl,b,_,rfl,.inl (SqL.of hB),_,_,rfl,rfl,_,_,rfl,rfl,?_⟩;dsimp only
  rw[en];refine⟨_,rfl,by omega,by omega,jb (lo:=0) (n:=la+lb+1) (λi zs σ' H'=>∃z:Option V,σ'=[z]/\zs=(List.replicate i (0:Int)).map V.int/\H=H') (by omega) ⟨none,rfl,rfl,rfl⟩ ?_ ?_ ?_⟩
  ·rintro i zs σ' H' _ ⟨z,rfl,rfl,rfl⟩;simp
  ·rintro i zs σ' H' hi ⟨z,rfl,rfl,rfl⟩;refine⟨_,rfl,?_,rfl⟩;rw[List.replicate_succ',FD];rfl
  rintro zs σ' H' p ⟨z,rfl,rfl,rfl⟩ hp;have s4:=Same.upd_new (o:=.lst ((List.replicate (la+lb+1) (0:Int)).map V.int)) hp;have npa:a≠p:=aK hA hp;have npb:b≠p:=aK hB hp;have hp4:upd H p (.lst ((List.replicate (la+lb+1) (0:Int)).map V.int)) p=some (.lst ((List.replicate (la+lb+1) (0:Int)).map V.int)):=am;generalize upd H p (.lst ((List.replicate (la+lb+1) (0:Int)).map V.int))=H4 at s4 hp4 ⊢
  refine⟨_,rfl,a,rfl,⟨_,SqL.of (s4 _ _ hA)⟩,gJ (K:=K) (a:=a) (xs:=xs.map V.int) (λj σ' H'=>∃(acc:List Int) (z3 z4 z5 z6:Option V),σ'=[some (.ref a),some (.ref b),some (.ref p),z3,z4,z5,z6]/\SameB p H4 H'/\H' p=some (.lst (acc.map V.int))/\acc.length=la+lb+1/\∀n,n<acc.length->cf acc n=sm xs ys n j)
   ⟨List.replicate (la+lb+1) 0,none,none,none,none,rfl,SameB.refl _ _,hp4,by simp,λn _=>by rw[gO];rfl⟩ ?_ ?_ ?_⟩
  ·rintro j σ' H' _ ⟨acc,z3,z4,z5,z6,rfl,sb,_⟩;exact SqL.of (sb _ _ npa (s4 _ _ hA))
  ·rintro j x σ' H' q hj ⟨acc,z3,z4,z5,z6,rfl,sb,hpa,hal,hac⟩ hq;rw[List.getElem?_map]at hj
   have hjl:j<xs.length:=by apply Classical.byContradiction;intro hn;rw[List.getElem?_eq_none_iff.mpr (Gd hn)]at hj;cases hj
   rw[de hjl]at hj;obtain rfl:=Option.some.inj hj;refine⟨q,_,rfl,SqT.of am,rfl,_,_,rfl,_,_,rfl,rfl,?_⟩;have nqp:p≠q:=aK hpa hq;have sb1:SameB p H4 (upd H' q (.tup [.int j,.int (cf xs j)])):=sb.then_new hq
   refine⟨_,rfl,b,rfl,⟨_,SqL.of (sb1 _ _ npb (s4 _ _ hB))⟩,gJ (K:=K) (a:=b) (xs:=ys.map V.int) (λi σ' H'=>∃(acc:List Int) (z5 z6:Option V),σ'=[some (.ref a),some (.ref b),some (.ref p),some (.int j),some (.int (cf xs j)),z5,z6]/\SameB p H4 H'/\H' p=some (.lst (acc.map V.int))/\acc.length=la+lb+1/\∀n,n<acc.length->cf acc n=sm xs ys n j+(if j<=n/\n-j<i then tm xs ys n j else 0))
    ⟨acc,z5,z6,rfl,sb1,by rw[upd_ne nqp];exact hpa,hal,qN hac⟩ ?_ ?_ ?_⟩
   ·rintro i σ' H' _ ⟨acc,z5,z6,rfl,sb,_⟩;exact SqL.of (sb _ _ npb (s4 _ _ hB))
   ·rintro i x σ' H' q hi ⟨acc,z5,z6,rfl,sb,hpa,hal,hac⟩ hq;rw[List.getElem?_map]at hi
    have hil:i<ys.length:=by apply Classical.byContradiction;intro hn;rw[List.getElem?_eq_none_iff.mpr (Gd hn)]at hi;cases hi
    rw[de hil]at hi;obtain rfl:=Option.some.inj hi;refine⟨q,_,rfl,SqT.of am,rfl,_,_,rfl,_,_,rfl,rfl,?_⟩;have nqp:p≠q:=aK hpa hq;have hpa':upd H' q (.tup [.int i,.int (cf ys i)]) p=some (.lst (acc.map V.int)):=by rw[upd_ne nqp];exact hpa
    have hji:j+i<acc.length:=by omega
    have eji:((j:Nat):Int)+((i:Nat):Int)=((j+i:Nat):Int):=by omega
    refine⟨_,rfl,_,rfl,_,rfl,_,_,rfl,rfl,p,_,_,_,rfl,rfl,SqL.of hpa',fu eji hji,_,rfl,_,rfl,_,_,rfl,rfl,⟨bx.cf j,by'.cf i⟩,_,_,rfl,rfl,_,rfl,_,rfl,_,rfl,_,_,rfl,rfl,p,_,_,j+i,rfl,rfl,hpa',db eji (by rw[Fk];exact hji),?_⟩;refine⟨acc.set (j+i) (cf acc (j+i)+cf xs j*cf ys i),_,_,rfl,(sb.then_new hq).then_upd,by rw[am,gG],by rw[Ga];exact hal,qM hjl hil hji hac⟩
   ·rintro σ' H' ⟨acc,z5,z6,rfl,sb,hpa,hal,hac⟩;rw[Fk]at hac;exact⟨acc,_,_,_,_,rfl,sb,hpa,hal,qO hac⟩
  ·rintro σ' H' ⟨acc,z3,z4,z5,z6,rfl,sb,hpa,hal,hac⟩;rw[Fk]at hac;refine⟨_,rfl,k p H' (λb' o e=>sb b' o (aK e hp) (s4 b' o e)) hp ?_⟩;rw[hpa]
   have e:acc=ad xs ys:=by
    apply cY
    ·rw[hal];unfold ad;rw[if_neg (by intro z;exact z.elim hx0 hy0),Fk,FW];omega
    ·intro n _;rw[aB,qP (by omega) hac]
   rw[e]
theorem ye(F:Fun K "_law_gcd" "_law_gcd" kj f fd)(T:Txt K mg):FnOk P w K mg base CX0 1 f fd ["_law_a","_law_b"] sp2:=by
 refine F.ok sc__law_gcd (λvs H Q E h=>?_) (λcdv A outer s H vs Q E hr h=>?_)
 ·obtain⟨a,b,rfl,_⟩:=h;rfl
 ·obtain⟨a,b,rfl,k⟩:=h
  refine⟨_,(ag (aq (i:=0) sc__law_gcd.nd rfl (Or.inl rfl) (aP gP (by rfl) T.abs_ PyProof.Rows.boot_abs (aa (pv 0) ae)))
   (ag (aq (i:=1) sc__law_gcd.nd rfl (Or.inl rfl) (aP gP (by rfl) T.abs_ PyProof.Rows.boot_abs (aa (pv 1) ae)))
   (ag (eJ PassesOwn.never (aC cT (pv 1) ac (ay _))
     (ag (aq (i:=2) sc__law_gcd.nd rfl (Or.inl rfl) (af bJ (pv 0) (pv 1)))
       (ag (aq (i:=0) sc__law_gcd.nd rfl (Or.inl rfl) (pv 1))
       (ak (aq (i:=1) sc__law_gcd.nd rfl (Or.inl rfl) (pv 2))))))
   (ak (aD (pv 0)))))),?_⟩
  refine⟨_,rfl,_,rfl,?_⟩;refine⟨_,rfl,_,rfl,?_⟩;refine⟨λm σ' H'=>∃(x y:Int) (z:Option V),σ'=[some (.int x),some (.int y),z]/\H=H'/\0<=x/\0<=y/\y.natAbs=m/\Nat.gcd x.natAbs y.natAbs=Nat.gcd a.natAbs b.natAbs,⟨_,_,_,none,rfl,rfl,?_,?_,rfl,?_⟩,?_⟩
  ·rw[dl];exact GZ _
  ·rw[dl];exact GZ _
  ·rw[dl,dl,FQ,FQ]
  ·rintro m σ' H' ⟨x,y,z,rfl,rfl,hx,hy,rfl,hg⟩;refine⟨_,rfl,_,_,rfl,rfl,_,rfl,?_⟩;refine aG (λhn=>?_) (λh0=>?_)
   ·have hp:0<y:=hn;refine⟨λσ'' H''=>∃m',m'<y.natAbs/\∃(x' y':Int) (z:Option V),σ''=[some (.int x'),some (.int y'),z]/\H=H''/\0<=x'/\0<=y'/\y'.natAbs=m'/\Nat.gcd x'.natAbs y'.natAbs=Nat.gcd a.natAbs b.natAbs,λ_ _ h=>h,?_⟩;refine⟨_,rfl,_,rfl,_,_,rfl,rfl,hp,?_⟩;refine⟨_,rfl,?_⟩;refine⟨_,rfl,?_⟩;have h1:=Int.emod_nonneg x (GW hp);have h2:=Hz x hp;exact⟨(x%y).natAbs,by omega,y,x%y,_,rfl,rfl,hy,h1,rfl,by rw[rV hx hp];exact hg⟩
   ·refine⟨_,rfl,?_⟩;have e:(y:Int)=0:=by have:¬(0:Int)<y:=h0;omega
    subst e
    have e2:(x:Int)=((Nat.gcd a.natAbs b.natAbs:Nat):Int):=by rw[<- hg];show x=((Nat.gcd x.natAbs 0:Nat):Int);rw[Nat.gcd_zero_right];omega
    rw[e2];exact k
theorem xX(F:Fun K "_law_shrunk" "_law_shrunk" il f fd)(T:Txt K mg)(hNS:base.NoSeer)(hTr:P.given.tree=none)(ny:Cal P w K mg base 1 "_law_gcd" ["_law_a","_law_b"] sp2 Bj A8):FnOk P w K mg base CX0 33 f fd ["_law_kp"] gt:=by
 obtain⟨m8,k9,lE,mO⟩:=ny;refine F.ok sc__law_shrunk (λvs H Q E h=>?_) (λcdv A outer s H vs Q E hr h=>?_)
 ·obtain⟨a,ns,rfl,_⟩:=h;rfl
 ·obtain⟨a,ns,rfl,hA,ht,hn,k⟩:=h;have big:=sizeLine_eq;have hdp:(A.deeper (PyProof.Rows.envOfC (Str.ofString "_law_shrunk") (ax il) s.heap.objs.size f cdv)).depth+100<recursionLimit:=by have:=hr.dp;omega
  refine⟨_,(ag (aq (i:=1) sc__law_shrunk.nd rfl (Or.inr rfl) ac)
   (ag (ca PassesOwn.never rfl (cm (K:=K) rfl (pv 0)) (aS (i:=2) sc__law_shrunk.nd rfl (Or.inl rfl))
     (ak (aq (i:=1) sc__law_shrunk.nd rfl (Or.inr rfl) (av m8 (hr.mono) rfl k9 lE mO .nil au (aa (pv 1) (aa (pv 2) ae))))))
   (ag (aQ (aC bz (pv 1) ac (ay _))
     (ak (aD (bI ae)))
     aR)
   (ak (aD (c7 (own:=["_law_one"]) (fr:=["_law_most"]) (js:=[1]) (by walk_at "comp_ok") rfl (cm (K:=K) rfl (pv 0)) (λ_ _ _ _=>(aS (i:=0) (show List.Nodup (["_law_one","_law_most"]:List Str)from by decide +kernel) rfl (Or.inl rfl))) (λ_ _ _ _=>(af (kF hNS hTr hdp rfl rfl rfl rfl rfl) (pv 0) (pv 1))))))))),?_⟩
  refine aE ?_;refine⟨_,rfl,a,rfl,⟨_,SqL.of hA⟩,dJ (K:=K) (a:=a) (xs:=ns.map V.int) (λi σ' H'=>∃z:Option V,σ'=[some (.ref a),some (.int (ai (ns.take i):Nat)),z]/\H=H') ⟨none,rfl,rfl⟩ (λi σ' H' _ ⟨z,_,e⟩=>by rw[<- e];exact SqL.of hA) ?_ ?_⟩
  ·rintro i y σ' H' hi ⟨z,rfl,rfl⟩;obtain⟨n,e,rfl,_,et⟩:=cX hi;refine⟨_,rfl,_,rfl,_,_,rfl,?_⟩;refine⟨some (.int n),?_,rfl⟩;rw[et,lJ,FQ];rfl
  ·rintro σ' H' ⟨z,rfl,rfl⟩;rw[Fk,FS];dsimp only
   refine ck ⟨_,rfl,_,_,rfl,rfl,_,rfl,aG (λh0=>?_) (λh0=>?_)⟩
   ·have hnil:ns=[]:=Classical.byContradiction λhne=>by have g1:=gI ht hne;have:((ai ns:Nat):Int)=0:=h0;omega
    subst hnil;exact⟨Fn _,λp hp=>k p _ (Same.upd_new hp) hp (by rw[am];rfl)⟩
   ·have hne:ns≠[]:=λz=>h0 (by rw[z];rfl)
    have g1:=gI ht hne;refine bv ⟨_,rfl,a,rfl,⟨_,SqL.of hA⟩,fh (K:=K) (a:=a) (xs:=ns.map V.int) (λi ys σ' H'=>∃(z0:Option V),σ'=[z0,some (.int (ai ns:Nat))]/\ys=((ns.take i).map λx=>x/(ai ns:Int)).map V.int/\H=H') (by rw[Fk];omega) ⟨none,rfl,rfl,rfl⟩ ?_ ?_ ?_⟩
    ·rintro i ys σ' H' _ ⟨z0,rfl,rfl,rfl⟩;exact⟨SqL.of hA,by rw[Fk,Fk,FE];exact G8 _ _⟩
    ·rintro i x ys σ' H' hi ⟨z0,rfl,rfl,rfl⟩;obtain⟨c,e,rfl,_,et⟩:=cX hi;refine⟨_,rfl,_,rfl,_,_,rfl,rfl,g1,_,rfl,?_,rfl⟩;rw[et];simp
    ·rintro ys σ' H' p ⟨z0,rfl,rfl,rfl⟩ hp;refine k p _ (Same.upd_new hp) hp ?_;rw[am,Fk,FS];rfl
theorem x6(F:Fun K "_law_plain" "_law_plain" ke f fd)(T:Txt K mg)(nk:Cal P w K mg base 33 "_law_shrunk" ["_law_kp"] gt Be A3):FnOk P w K mg base CX0 34 f fd ["_law_kp"] oA:=by
 obtain⟨mX,kW,lv,mJ⟩:=nk;refine F.ok sc__law_plain (λvs H Q E h=>?_) (λcdv A outer s H vs Q E hr h=>?_)
 ·obtain⟨a,ns,rfl,_⟩:=h;rfl
 ·obtain⟨a,ns,rfl,hA,ht,hn,k⟩:=h;have big:=sizeLine_eq
  refine⟨_,(ag (aq (i:=1) sc__law_plain.nd rfl (Or.inl rfl) (av mX (hr.mono) rfl kW lv mJ .nil au (aa (pv 0) ae)))
   (ag (aQ (PW.pt (cE (aC cT (aP (aY (K:=K) rfl) (by rfl) T.len_ PySem.boot_len (aa (pv 1) ae)) ac (ay _)) (cS (aC cF (al (bj (K:=K) rfl) (pv 1) (cx cp ac) (λ_ _=>rfl)) ac (ay _)))))
     (ak (aD (c7 (own:=["_law_one"]) (fr:=[]) (js:=[]) (by walk_at "comp_ok") rfl (cm (K:=K) rfl (pv 1)) (λ_ _ _ _=>(aS (i:=0) (show List.Nodup (["_law_one"]:List Str)from by decide +kernel) rfl (Or.inl rfl))) (λ_ _ _ _=>(af aV ac (pv 0))))))
     aR)
   (ak (aD (pv 1))))),?_⟩
  refine aE ⟨_,rfl,a,ns,rfl,hA,ht,hn,λp H1 s1 hp e1=>?_⟩;have hsl:(ah ns).length=ns.length:=Fk _;refine cJ (λσ' H'=>σ'=[some (.ref a),some (.ref p)]/\H1=H'/\ce (ah ns)=ah ns) ?_ ?_
  ·rintro σ' H' ⟨rfl,rfl,e3⟩;exact⟨_,rfl,k p H1 s1 hp (by rw[e1];show _=some (HO.lst ((ce (ah ns)).map V.int));rw[e3])⟩
  intro rest;refine cK ⟨_,rfl,p,_,rfl,.inl (SqL.of e1),_,_,rfl,rfl,_,rfl,aG (λh0=>?_) (λh0=>?_)⟩
  ·rw[Fk]at h0;have hne:ah ns≠[]:=λz=>by rw[z]at h0;exact absurd h0 (by decide)
   obtain⟨r,x,er⟩:=(cD (ah ns)).resolve_left hne;refine⟨_,rfl,_,rfl,p,_,_,.int x,rfl,rfl,SqL.of e1,(by rw[er];exact Cw r x),_,_,rfl,rfl,_,rfl,?_⟩;have elast:b7 (ah ns)=x:=by rw[er,dH]
   refine aG (λhx=>?_) (λhx=>?_)
   ·have hx':x<0:=hx;have epos:ce (ah ns)=(ah ns).map λx => -x:=by unfold ce;rw[elast,if_pos hx']
    refine bv ⟨_,rfl,p,rfl,⟨_,SqL.of e1⟩,fh (K:=K) (a:=p) (xs:=(ah ns).map V.int) (λi ys σ' H'=>∃(z0:Option V),σ'=[z0]/\ys=(((ah ns).take i).map λx => -x).map V.int/\H1=H') (by rw[Fk,hsl];omega) ⟨none,rfl,rfl,rfl⟩ ?_ ?_ ?_⟩
    ·rintro i ys σ' H' _ ⟨z0,rfl,rfl,rfl⟩;exact⟨SqL.of e1,by rw[Fk,Fk,FE];exact G8 _ _⟩
    ·rintro i x ys σ' H' hi ⟨z0,rfl,rfl,rfl⟩;obtain⟨c,e,rfl,_,et⟩:=cX hi;refine⟨_,rfl,_,_,rfl,rfl,_,rfl,?_,rfl⟩;rw[et];simp
    ·rintro ys σ' H' p' ⟨z0,rfl,rfl,rfl⟩ hp';refine k p' _ (s1.then_new hp') (s1.free hp') ?_;rw[am,Fk,FS];show _=some (HO.lst ((ce (ah ns)).map V.int));rw[epos]
   ·exact rest _ _ ⟨rfl,rfl,by unfold ce;rw[elast,if_neg hx]⟩
  ·rw[Fk]at h0;have he':ah ns=[]:=Gc.mp (by omega);exact rest _ _ ⟨rfl,rfl,by rw[he'];rfl⟩
def Fac(m:Int)(l:List Int):Prop:=∃u e b:Int,l=[u,e,b] /\ -m<=u/\u<=m /\ -36<e/\e<36/\1<=b/\b<=3/\NS e
def oI:Sp:=λvs H Q _=>∃c m:Int,vs=[.int c,.int m]/\0<=m/\∀(p:Addr) (l:List Int),H p=none->Fac m l->Q (.ref p) (upd H p (.tup (l.map V.int)))
theorem ci{x m:Int}(h:0<m):0<=x%m/\x%m<m:=⟨Int.emod_nonneg _ (GW h),Hz _ h⟩
theorem yg(F:Fun K "_law_factor_by" "_law_factor_by" km f fd)(T:Txt K mg):FnOk P w K mg base CX0 1 f fd ["_law_cell","_law_most"] oI:=by
 refine F.ok sc__law_factor_by (λvs H Q E h=>?_) (λcdv A outer s H vs Q E hr h=>?_)
 ·obtain⟨c,m,rfl,_⟩:=h;rfl
 ·obtain⟨c,m,rfl,hm,k⟩:=h
  refine⟨_,(ag (aq (i:=2) sc__law_factor_by.nd rfl (Or.inl rfl) (af aV (af bJ (af eU (pv 0) ac) (af aZ (af fU ac (pv 1)) ac)) (pv 1)))
   (ag (aq (i:=3) sc__law_factor_by.nd rfl (Or.inl rfl) (af aZ ac (af bJ (af bJ (af fU (pv 0) ac) ac) ac)))
   (ag (aq (i:=4) sc__law_factor_by.nd rfl (Or.inl rfl) (af aZ ac (af bJ (af bJ (af fU (pv 0) ac) ac) ac)))
   (ag (aq (i:=5) sc__law_factor_by.nd rfl (Or.inl rfl) (af aZ (af aZ (af fU (pv 4) (pv 4)) ac) (af bJ (af bJ (af fU (pv 0) ac) ac) (af fU ac (pv 4)))))
   (ag (aQ (aC bz (af bJ (pv 0) ac) ac (ay _))
     (ak (aD (b5 (aa (pv 2) (aa (pv 5) (aa (pv 3) ae))))))
     aR)
   (ag (aQ (aC bz (af bJ (pv 0) ac) ac (ay _))
     (ak (aD (b5 (aa (pv 2) (aa (af aV ac (pv 5)) (aa (pv 3) ae))))))
     aR)
   (ak (aD (b5 (aa (pv 2) (aa ac (aa (pv 3) ae)))))))))))),?_⟩
  refine aE ⟨_,rfl,_,_,rfl,rfl,⟨by decide,Bits.mono (j:=3) (by show(4:Int).natAbs<2^3;decide) (by decide)⟩,_,rfl,_,_,rfl,rfl,.inl ⟨by decide,by decide⟩,_,_,rfl,rfl,_,_,rfl,rfl,(by show(0:Int)<2*m+1;omega),_,rfl,_,_,rfl,rfl,?_⟩;obtain⟨u1,u2⟩:=ci (x:=c/4) (m:=2*m+1) (by omega);dsimp only
  generalize hu:c/4%(2*m+1)-m=u;have hu1 : -m<=u:=by omega
  have hu2:u<=m:=by omega
  refine aE ⟨_,rfl,_,_,rfl,rfl,.inr ⟨by decide,by decide⟩,_,_,rfl,rfl,(by show(0:Int)<10007;decide),_,_,rfl,rfl,(by show(0:Int)<3;decide),_,_,rfl,rfl,?_⟩;obtain⟨b1,b2⟩:=ci (x:=c*48271%10007) (m:=3) (by omega);dsimp only
  generalize hb:1+c*48271%10007%3=b;have hb1:1<=b:=by omega
  have hb2:b<=3:=by omega
  refine aE ⟨_,rfl,_,_,rfl,rfl,.inr ⟨by decide,by decide⟩,_,_,rfl,rfl,(by show(0:Int)<10009;decide),_,_,rfl,rfl,(by show(0:Int)<5;decide),_,_,rfl,rfl,?_⟩;obtain⟨n1,n2⟩:=ci (x:=c*69621%10009) (m:=5) (by omega);dsimp only
  generalize hn:1+c*69621%10009%5=n;have hn1:1<=n:=by omega
  have hn2:n<=5:=by omega
  refine aE ⟨_,rfl,_,rfl,_,_,rfl,rfl,.inl ⟨by show -(2^64)<n;omega,by show n<2^64;omega⟩,_,_,rfl,rfl,_,rfl,_,_,rfl,rfl,.inr ⟨by decide,by decide⟩,_,_,rfl,rfl,(by show(0:Int)<10037;decide),_,rfl,_,_,rfl,rfl,.inl ⟨by decide,by decide⟩,_,_,rfl,rfl,(by show(0:Int)<2*n;omega),_,_,rfl,rfl,?_⟩;obtain⟨e1,e2⟩:=ci (x:=c*16807%10037) (m:=2*n) (by omega);dsimp only
  generalize he:n*n+1+c*16807%10037%(2*n)=e;have hnn:0<=n*n:=Gk (by omega) (by omega);have he0:0<e:=by omega
  have hns:n*n<e/\e<(n+1)*(n+1):=by
   have:(n+1)*(n+1)=n*n+2*n+1:=by rw[Int.add_mul,Int.mul_add];omega
   omega
  have he2:e<36:=by
   have h1:n=1\/n=2\/n=3\/n=4\/n=5:=by omega
   rcases h1 with rfl |rfl |rfl |rfl |rfl<;>omega
  refine ck ⟨_,rfl,_,_,rfl,rfl,(by show(0:Int)<4;decide),_,_,rfl,rfl,_,rfl,aG (λ_=>?_) (λ_=>?_)⟩
  ·exact⟨_,rfl,_,rfl,_,rfl,by show 3<=sizeLine;decide,λp hp=>k p [u,e,b] hp ⟨u,e,b,rfl,hu1,hu2,by omega,he2,hb1,hb2,.inr ⟨n,by omega,hns.1,hns.2⟩⟩⟩
  refine ck ⟨_,rfl,_,_,rfl,rfl,(by show(0:Int)<4;decide),_,_,rfl,rfl,_,rfl,aG (λ_=>?_) (λ_=>?_)⟩
  ·exact⟨_,rfl,_,rfl,_,_,rfl,rfl,_,rfl,by show 3<=sizeLine;decide,λp hp=>k p [u,0-e,b] hp ⟨u,0-e,b,rfl,hu1,hu2,by omega,by omega,hb1,hb2,.inl (by omega)⟩⟩
  exact⟨_,rfl,_,rfl,by show 3<=sizeLine;decide,λp hp=>k p [u,0,b] hp ⟨u,0,b,rfl,hu1,hu2,by omega,by omega,hb1,hb2,.inl (Gs _)⟩⟩
def jw:Sp:=λvs H Q _=>∃(p:Addr) (l:List Int),vs=[.ref p]/\H p=some (.tup (l.map V.int))/\Fac 100000000 l/\mkL H Q (ar l)
theorem nN{u e b:Int}(hb:0<b):Tr (aA u e b)/\aA u e b≠[]:=by obtain⟨tr,l2⟩:=eh (u:=u) (e:=e) (b:=b) (by omega);exact⟨tr,λz=>by rw[z]at l2;simp at l2⟩
theorem pM{u e b:Int}(h1 : -100000000<=u)(h2:u<=100000000)(h3 : -36<e)(h4:e<36)(h5:1<=b)(h6:b<=3):AllB 56 (aA u e b):=by
 have q1:(u*u).natAbs<=100000000*100000000:=b8 (by omega) (by omega);have q2:(b*u).natAbs<=3*100000000:=b8 (by omega) (by omega);have q3:(b*b).natAbs<=3*3:=b8 (by omega) (by omega);have q4 : -2*b*u = -2*(b*u):=by grind
 unfold aA;split
 ·intro x hx;simp only[Ft,G7,or_false]at hx;rcases hx with rfl |rfl
  ·show(-u).natAbs<72057594037927936;omega
  ·show x.natAbs<72057594037927936;omega
 ·intro x hx;simp only[Ft,G7,or_false]at hx;rcases hx with rfl |rfl |rfl
  ·show(u*u-e).natAbs<72057594037927936;omega
  ·rw[q4];show(-2*(b*u)).natAbs<72057594037927936;omega
  ·show(b*b).natAbs<72057594037927936;omega
theorem xZ(F:Fun K "_law_shape" "_law_shape" j9 f fd)(T:Txt K mg)(DI:Cal P w K mg base 34 "_law_plain" ["_law_kp"] oA E4 Em):FnOk P w K mg base CX0 35 f fd ["_law_factor"] jw:=by
 obtain⟨uh,qY,rB,tU⟩:=DI;refine F.ok sc__law_shape (λvs H Q E h=>?_) (λcdv A outer s H vs Q E hr h=>?_)
 ·obtain⟨p,l,rfl,_⟩:=h;rfl
 ·obtain⟨p,l,rfl,hP,⟨u,e,b,rfl,h1,h2,h3,h4,h5,h6,h7⟩,k⟩:=h;have hb:=pM h1 h2 h3 h4 h5 h6;obtain⟨tr,hne⟩:=nN (u:=u) (e:=e) (b:=b) (by omega)
  replace k:mkL H Q (aI (aA u e b)):=k
  have bu:Bits 31 u:=by show u.natAbs<2147483648;omega
  have bb:Bits 2 b:=by show b.natAbs<4;omega
  refine⟨_,(ag (aq (i:=1) sc__law_shape.nd rfl (Or.inl rfl) (al (aw (K:=K) rfl) (pv 0) ac (λ_ _=>rfl)))
   (ag (aq (i:=2) sc__law_shape.nd rfl (Or.inl rfl) (al (aw (K:=K) rfl) (pv 0) ac (λ_ _=>rfl)))
   (ag (aQ (aC bz (al (aw (K:=K) rfl) (pv 0) ac (λ_ _=>rfl)) ac (ay _))
     (ak (aD (av uh (hr.mono) rfl qY rB tU .nil au (aa (bI (aa (af aV ac (pv 1)) (aa (pv 2) ae))) ae))))
     aR)
   (ak (aD (av uh (hr.mono) rfl qY rB tU .nil au (aa (bI (aa (af aV (af aJ (pv 1) (pv 1)) (al (aw (K:=K) rfl) (pv 0) ac (λ_ _=>rfl))) (aa (af aJ (af aJ (cx cp ac) (pv 2)) (pv 1)) (aa (af aJ (pv 2) (pv 2)) ae)))) ae))))))),?_⟩
  refine aE ⟨_,rfl,p,_,_,_,rfl,rfl,SqT.of hP,rfl,?_⟩;refine aE ⟨_,rfl,p,_,_,_,rfl,rfl,SqT.of hP,rfl,?_⟩;refine ck ⟨_,rfl,p,_,_,_,rfl,rfl,SqT.of hP,rfl,_,_,rfl,rfl,_,rfl,aG (λh0=>?_) (λh0=>?_)⟩
  ·have h0':e=0:=h0;subst h0';have er:aA u 0 b=[0-u,b]:=by unfold aA;rw[if_pos rfl,Gz]
   rw[er]at hb tr k;refine⟨_,rfl,_,_,rfl,rfl,_,rfl,by show 2<=sizeLine;decide,λq hq=>?_⟩;refine⟨q,[0-u,b],rfl,am,tr,by show 2<=1000000;decide,λp' H' sm hp' e'=>k p' H' ((Same.upd_new hq).trans sm) ((Same.upd_new hq).free hp') e'⟩
  ·have h0':¬e=0:=h0;have er:aA u e b=[u*u-e,-2*b*u,b*b]:=by unfold aA;rw[if_neg h0']
   rw[er]at hb tr k;refine bv ⟨_,rfl,_,rfl,_,_,rfl,rfl,⟨bu.mono,bu.mono⟩,_,rfl,p,_,_,_,rfl,rfl,SqT.of hP,rfl,_,_,rfl,rfl,?_⟩;refine⟨_,rfl,_,rfl,_,_,rfl,rfl,⟨Bits.mono (j:=2) (by show(-2:Int).natAbs<2^2;decide) (by decide),bb.mono⟩,_,rfl,_,_,rfl,rfl,⟨Bits.mono (j:=4) (Bits.mul (j:=2) (k:=2) (by show(-2:Int).natAbs<2^2;decide) bb) (by decide),bu.mono⟩,?_⟩;refine⟨_,rfl,_,rfl,_,_,rfl,rfl,⟨bb.mono,bb.mono⟩,by show 3<=sizeLine;decide,λq hq=>?_⟩;refine⟨q,[u*u-e,-2*b*u,b*b],rfl,am,tr,by show 3<=1000000;decide,λp' H' sm hp' e'=>k p' H' ((Same.upd_new hq).trans sm) ((Same.upd_new hq).free hp') e'⟩
theorem fE{l:List Int}(h:Fac 100000000 l):Tr (ar l)/\ar l≠[]/\AllB 56 (ar l)/\2<=(ar l).length/\(ar l).length<=3:=by
 obtain⟨u,e,b,rfl,h1,h2,h3,h4,h5,h6,h7⟩:=h;have hb:=pM h1 h2 h3 h4 h5 h6;obtain⟨tr,hne⟩:=nN (u:=u) (e:=e) (b:=b) (by omega);have hl:(aA u e b).length=2\/(aA u e b).length=3:=by unfold aA;split;exact .inl rfl;exact .inr rfl
 show Tr (aI (aA u e b))/\aI (aA u e b)≠[]/\AllB 56 (aI (aA u e b))/\2<=(aI (aA u e b)).length/\(aI (aA u e b)).length<=3;have pl:=RM.plain_len (aA u e b);refine⟨fz tr,λz=>by rw[z]at pl;simp at pl;omega,AllB.of_cf λn=>?_,by omega,by omega⟩;obtain⟨g,hg,eg⟩:=eQ tr;have h7:=hb.cf n;rw[eg n]at h7;refine h7.of_le ?_;rw[FP];exact Hw _ (Gw.mpr hg)
noncomputable def cz:List (List Int)->Nat
 | []=>0
 |s::ss=>(s.length-1)+cz ss
theorem sO(s:List Int):∀ss,cz (ss++[s])=cz ss+(s.length-1)
 | []=>by simp[cz]
 |x::ss=>by rw[List.cons_append,cz,cz,sO s ss];omega
def oH(K:PySem.W.Frag):Sp:=λvs H Q _=>∃(a:Addr) (ns:List Int) (mo:Int) (room:Nat),vs=[.ref a,.int mo,.int room]/\0<=mo/\mo<=100000000/\SqL K H a (ns.map V.int)/\ns.length<=100/\∀(p:Addr) (H':Hp) (qs:List Addr) (fs:List (List Int)),Same H H'->H p=none->H' p=some (.lst (qs.map V.ref))->TuH H' qs fs->(∀l∈fs,Fac mo l)->(fs.map ar).Nodup->cz (fs.map ar)<=room->Q (.ref p) H'
theorem yf(F:Fun K "_law_factors_by" "_law_factors_by" io f fd)(T:Txt K mg)(DM:Cal P w K mg base 1 "_law_factor_by" ["_law_cell","_law_most"] oI E8 Er)(nq:Cal P w K mg base 35 "_law_shape" ["_law_factor"] jw Bf A4):FnOk P w K mg base CX0 36 f fd ["_law_drawn","_law_most","_law_room"] (oH K):=by
 obtain⟨Dc,zt,An,Cp⟩:=DM;obtain⟨mY,kX,lw,mK⟩:=nq;refine F.ok sc__law_factors_by (λvs H Q E h=>?_) (λcdv A outer s H vs Q E hr h=>?_)
 ·obtain⟨a,ns,mo,room,rfl,_⟩:=h;rfl
 ·obtain⟨a,ns,mo,room,rfl,hmo0,hmo1,hA,hn,k⟩:=h;have big:=sizeLine_eq;have hu2:(A.deeper (PyProof.Rows.envOfC (Str.ofString "_law_factors_by") (ax io) s.heap.objs.size f cdv)).units+66<cLine:=by have:=hr.un;omega
  refine⟨_,(ag (aq (i:=3) sc__law_factors_by.nd rfl (Or.inl rfl) (bI ae))
   (ag (aq (i:=4) sc__law_factors_by.nd rfl (Or.inl rfl) (bI ae))
   (ag (ca PassesOwn.never rfl (cm (K:=K) rfl (pv 0)) (aS (i:=5) sc__law_factors_by.nd rfl (Or.inl rfl))
     (ag (aq (i:=6) sc__law_factors_by.nd rfl (Or.inl rfl) (av Dc (hr.mono) rfl zt An Cp .nil au (aa (pv 5) (aa (pv 1) ae))))
       (ag (aq (i:=7) sc__law_factors_by.nd rfl (Or.inl rfl) (av mY (hr.mono) rfl kX lw mK .nil au (aa (pv 6) ae)))
       (ak (aQ (PW.pt (cE (aC (xc (K:=K) rfl hu2) (pv 7) (pv 4) (by rfl)) (cS (aC fV (af aV (aP (aY (K:=K) rfl) (by rfl) T.len_ PySem.boot_len (aa (pv 7) ae)) ac) (pv 2) (ay _)))))
         (ag (dA (dB PySem.F.plainAttrs_list PySem.F.slot_list_append PySem.F.type_list_append eV (pv 3) (aa (pv 6) ae)))
           (ag (dA (dB PySem.F.plainAttrs_list PySem.F.slot_list_append PySem.F.type_list_append eV (pv 4) (aa (pv 7) ae)))
           (ak (aq (i:=2) sc__law_factors_by.nd rfl (Or.inl rfl) (af aZ (af aV (pv 2) (aP (aY (K:=K) rfl) (by rfl) T.len_ PySem.boot_len (aa (pv 7) ae))) ac)))))
         aR)))))
   (ak (aD (pv 3)))))),?_⟩
  refine aE ⟨Fn _,λpm hpm=>?_⟩;have s1:Same H (upd H pm (.lst [])):=Same.upd_new hpm;have q1:upd H pm (.lst []) pm=some (.lst []):=am;generalize upd H pm (.lst [])=H1 at s1 q1 ⊢
  refine aE ⟨Fn _,λpz hpz=>?_⟩;have npz:pm≠pz:=aK q1 hpz;have s2:Same H (upd H1 pz (.lst [])):=s1.then_new hpz;have q2:upd H1 pz (.lst []) pz=some (.lst []):=am;have q3:upd H1 pz (.lst []) pm=some (.lst []):=by rw[upd_ne npz];exact q1
  have hz0:H pz=none:=s1.free hpz;generalize upd H1 pz (.lst [])=H2 at s2 q2 q3 ⊢
  refine⟨_,rfl,a,rfl,⟨_,s2.seq hA⟩,dJ (K:=K) (a:=a) (xs:=ns.map V.int) (λi σ' H'=>∃(z5 z6 z7:Option V) (qs rs:List Addr) (fs:List (List Int)) (left:Nat),σ'=[some (.ref a),some (.int mo),some (.int left),some (.ref pm),some (.ref pz),z5,z6,z7]/\Same H H'/\H' pm=some (.lst (qs.map V.ref))/\H' pz=some (.lst (rs.map V.ref))/\TuH H' qs fs/\RwH H' rs (fs.map ar)/\(∀p∈rs,p≠pm/\p≠pz)/\(∀l∈fs,Fac mo l)/\(fs.map ar).Nodup/\cz (fs.map ar)+left=room/\fs.length<=i) ⟨none,none,none,[],[],[],room,rfl,s2,q3,q2,TuH.nil,RwH.nil,(λ_ h=>nomatch h),(λ_ h=>nomatch h),List.nodup_nil,Nat.zero_add _,Fl _⟩ ?_ ?_ ?_⟩
  ·rintro i σ' H' _ ⟨z5,z6,z7,qs,rs,fs,left,rfl,sm,_⟩;exact sm.seq hA
  ·rintro i x σ' H' hi ⟨z5,z6,z7,qs,rs,fs,left,rfl,sm,eqm,eqz,hT,hR,hno,hF,hnd,hdg,hle⟩
   have hin:i<100:=by have:=(List.getElem?_eq_some_iff.mp hi).1;rw[Fk]at this;omega
   obtain⟨c,_,rfl,_,_⟩:=cX hi;refine aE ⟨_,rfl,_,rfl,c,mo,rfl,hmo0,λp l hp hl0=>?_⟩
   have hl:Fac 100000000 l:=by obtain⟨u,e,b,rfl,h1,h2,h3,h4,h5,h6,h7⟩:=id hl0;exact⟨u,e,b,rfl,by omega,by omega,h3,h4,h5,h6,h7⟩
   have s3:Same H' (upd H' p (.tup (l.map V.int))):=Same.upd_new hp;have e3:upd H' p (.tup (l.map V.int)) p=some (.tup (l.map V.int)):=am;generalize upd H' p (.tup (l.map V.int))=H3 at s3 e3 ⊢
   refine aE ⟨_,rfl,p,l,rfl,e3,hl,λq H4 s4 hq e4=>?_⟩;have t4:=s3.trans s4;have eqm4:=t4 _ _ eqm;have eqz4:=t4 _ _ eqz;have hT4:=hT.same t4;have hR4:=hR.same t4;have nqm:q≠pm:=λz=>by rw[z,s3 _ _ eqm]at hq;cases hq
   have nqz:q≠pz:=λz=>by rw[z,s3 _ _ eqz]at hq;cases hq
   obtain⟨g1,g2,g3,g4,g5⟩:=fE hl;dsimp only
   refine fL (cK ⟨_,rfl,_,rfl,pz,q,rs,fs.map ar,ar l,rfl,rfl,e4,SqL.of eqz4,hR4.1,hR4.2,_,rfl,dP (λhni=>?_) (λ_=>?_)⟩)
   ·refine⟨_,rfl,q,_,rfl,.inl (SqL.of e4),_,_,rfl,rfl,_,rfl,_,_,rfl,rfl,_,rfl,aG (λhlen=>?_) (λ_=>?_)⟩
    ·rw[Fk]at hlen;have hlq:qs.length=fs.length:=hT.1;have hlr:rs.length=fs.length:=by have:=hR.1;rwa [Fk]at this
     refine ir ⟨_,rfl,.inl ⟨rfl,_,SqL.of eqm4⟩,_,rfl,pm,_,_,rfl,rfl,eqm4,by rw[Fk];omega,?_⟩;have eqz5:upd H4 pm (.lst (qs.map V.ref++[V.ref p])) pz=some (.lst (rs.map V.ref)):=by rw[upd_ne (Ne.symm npz)];exact eqz4
     refine ir ⟨_,rfl,.inl ⟨rfl,_,SqL.of eqz5⟩,_,rfl,pz,_,_,rfl,rfl,eqz5,by rw[Fk];omega,?_⟩;rw[eW,eW];rw[eW]at eqz5;refine cQ ⟨_,rfl,_,rfl,q,_,rfl,.inl (SqL.of (by rw[upd_ne nqz,upd_ne nqm];exact e4)),_,_,rfl,rfl,_,_,rfl,rfl,?_⟩;dsimp only
     rw[Fk];have hfl:(left:Int)-(ar l).length+1=((left-((ar l).length-1):Nat):Int):=by omega
     rw[hfl];refine⟨_,_,_,qs++[p],rs++[q],fs++[l],left-((ar l).length-1),rfl,bW (bW (sm.trans t4) hpm) hz0,?_,am,?_,?_,?_,?_,?_,?_,?_⟩
     ·rw[upd_ne npz,am]
     ·exact((hT4.snoc (s4 _ _ e3)).upd_lst eqm4).upd_lst eqz5
     ·rw[show(fs++[l]).map ar=fs.map ar++[ar l]from by rw[FD];rfl];have hR5:=hR4.snoc e4
      have hno5:∀x∈rs++[q],x≠pm/\x≠pz:=λx hx=>by
       rcases FY.mp hx with h |h
       ·exact hno x h
       ·rw[Fu.mp h];exact⟨nqm,nqz⟩
      exact(hR5.upd_no λx hx=>(hno5 x hx).1).upd_no λx hx=>(hno5 x hx).2
     ·intro x hx;rcases FY.mp hx with h |h
      ·exact hno x h
      ·rw[Fu.mp h];exact⟨nqm,nqz⟩
     ·intro x hx;rcases FY.mp hx with h |h
      ·exact hF x h
      ·rw[Fu.mp h];exact hl0
     ·rw[FD,FZ,GU];refine List.nodup_append.mpr ⟨hnd,by simp,λx hx y hy=>?_⟩;rw[Fu.mp hy]
      exactλz=>hni (z ▸ hx)
     ·rw[FD,FZ,GU,sO];omega
     ·rw[Fp];show fs.length+1<=i+1;omega
    ·exact⟨_,_,_,qs,rs,fs,left,rfl,sm.trans t4,eqm4,eqz4,hT4,hR4,hno,hF,hnd,hdg,by omega⟩
   ·exact cP ⟨_,_,_,qs,rs,fs,left,rfl,sm.trans t4,eqm4,eqz4,hT4,hR4,hno,hF,hnd,hdg,by omega⟩
  ·rintro σ' H' ⟨z5,z6,z7,qs,rs,fs,left,rfl,sm,eqm,eqz,hT,hR,hno,hF,hnd,hdg,hle⟩;exact⟨_,rfl,k pm H' qs fs sm hpm eqm hT hF hnd (by omega)⟩
def oz:Sp:=λvs H Q _=>∃(a:Addr) (qs:List Addr) (fs:List (List Int)),vs=[.ref a]/\H a=some (.lst (qs.map V.ref))/\TuH H qs fs/\(∀l∈fs,Fac 100000000 l)/\fs.length<=8/\mkL H Q (bH [1] (fs.map ar))
theorem kD{fs:List (List Int)}(hF:∀l∈fs,Fac 100000000 l):∀n,n<=fs.length->n<=8->AllB (2+75*n) (bH [1] ((fs.take n).map ar))/\(bH [1] ((fs.take n).map ar)).length<=1+2*n
 |0,_,_=>⟨λx hx=>by
  rw[GT]at hx;have:x=1:=by simpa[bH]using hx
  rw[this];show(1:Int).natAbs<2^2;decide,by rw[GT];decide⟩
 |n+1,h,h'=>by
  obtain⟨i1,i2⟩:=kD hF n (by omega) (by omega);have e:fs.take (n+1)=fs.take n++[fs[n]]:=by rw[Ge,List.getElem?_eq_getElem (by omega)];rfl
  obtain⟨g1,g2,g3,g4,g5⟩:=fE (hF fs[n] (Gb _));rw[e,FD,FZ,GU,qd];refine⟨qS i1 g3 (by omega),?_⟩;unfold ad;split
  ·exact Fn _
  ·rw[Fk,FW];omega
theorem x5(F:Fun K "_law_product" "_law_product" kd f fd)(T:Txt K mg)(nu:Cal P w K mg base 1 "_law_mul" ["_law_kp","_law_kq"] dO Bh A6)(nq:Cal P w K mg base 35 "_law_shape" ["_law_factor"] jw Bf A4):FnOk P w K mg base CX0 36 f fd ["_law_factors"] oz:=by
 obtain⟨m5,kZ,lC,mM⟩:=nu;obtain⟨mY,kX,lw,mK⟩:=nq;refine F.ok sc__law_product (λvs H Q E h=>?_) (λcdv A outer s H vs Q E hr h=>?_)
 ·obtain⟨a,qs,fs,rfl,_⟩:=h;rfl
 ·obtain⟨a,qs,fs,rfl,hA,hT,hF,hn,k⟩:=h
  refine⟨_,(ag (aq (i:=1) sc__law_product.nd rfl (Or.inl rfl) (bI (aa ac ae)))
   (ag (ca PassesOwn.never rfl (cm (K:=K) rfl (pv 0)) (aS (i:=2) sc__law_product.nd rfl (Or.inl rfl))
     (ak (aq (i:=1) sc__law_product.nd rfl (Or.inl rfl) (av m5 (hr.mono) rfl kZ lC mM .nil au (aa (pv 1) (aa (av mY (hr.mono) rfl kX lw mK .nil au (aa (pv 2) ae)) ae))))))
   (ak (aD (pv 1))))),?_⟩
  refine aE ⟨by show 1<=sizeLine;decide,λp0 hp0=>?_⟩;have s1:Same H (upd H p0 (.lst [V.int 1])):=Same.upd_new hp0;have q1:upd H p0 (.lst [V.int 1]) p0=some (.lst (([1]:List Int).map V.int)):=am;generalize upd H p0 (.lst [V.int 1])=H1 at s1 q1 ⊢
  have hpl:(qs.map V.ref).length=fs.length:=by rw[Fk,hT.1]
  refine⟨_,rfl,a,rfl,⟨_,SqL.of (s1 _ _ hA)⟩,dJ (K:=K) (a:=a) (xs:=qs.map V.ref) (λi σ' H'=>∃(z2:Option V) (p:Addr),σ'=[some (.ref a),some (.ref p),z2]/\Same H H'/\H p=none/\H' p=some (.lst ((bH [1] ((fs.take i).map ar)).map V.int))) ⟨none,p0,rfl,s1,hp0,q1⟩ ?_ ?_ ?_⟩
  ·rintro i σ' H' _ ⟨z2,p,rfl,sm,_⟩;exact SqL.of (sm _ _ hA)
  ·rintro i x σ' H' hi ⟨z2,p,rfl,sm,hp,ep⟩;obtain⟨q,l,rfl,eq,el,hq,hlt⟩:=(hT.same sm).of_get hi;have hl:=hF l (List.mem_of_getElem? el);obtain⟨g1,g2,g3,g4,g5⟩:=fE hl;obtain⟨i1,i2⟩:=kD hF i (by omega) (by omega);refine⟨_,rfl,_,rfl,q,l,rfl,hq,hl,λr H3 s3 hr3 e3=>?_⟩;refine⟨p,r,bH [1] ((fs.take i).map ar),ar l,rfl,s3 _ _ ep,e3,by omega,by omega,i1.mono (by omega),g3.mono,λr2 H4 s4 hr4 e4=>?_⟩;have t4:=sm.trans (s3.trans s4);refine⟨_,r2,rfl,t4,(sm.trans s3).free hr4,?_⟩;rw[e4,Ge,el];show _=some (HO.lst ((bH [1] ((fs.take i++[l]).map ar)).map V.int));rw[FD,FZ,GU,qd]
  ·rintro σ' H' ⟨z2,p,rfl,sm,hp,ep⟩;rw[hpl,FS]at ep;exact⟨_,rfl,k p H' sm hp ep⟩
def SpB(l:List Int):Prop:=∃u e b s:Int,l=[u,e,b,s] /\ -100000000<=u/\u<=100000000/\0<=e/\e<36/\1<=b/\b<=3
def om:Sp:=λvs H Q _=>∃sq due:Int,vs=[.int sq,.int due]/\Bits 400000 due/\Q (.int (aX sq due)) H
theorem xS(F:Fun K "_law_sure" "_law_sure" j3 f fd)(T:Txt K mg):FnOk P w K mg base CX0 1 f fd ["_law_square","_law_due"] om:=by
 refine F.ok vQ (λvs H Q E h=>?_) (λcdv A outer s H vs Q E hr h=>?_)
 ·obtain⟨sq,due,rfl,_⟩:=h;rfl
 ·obtain⟨sq,due,rfl,hb,k⟩:=h
  refine⟨_,(ag (aQ (PW.pt (eI (aC cF (pv 1) ac (ay _)) (fN (aC cT (pv 0) (af aJ (pv 1) (pv 1)) (ay _)))))
   (ak (aD ac))
   aR)
   (ak (aD (af aV ac (dQ BX (by rfl) T.int_ PyProof.Rows.boot_int (aa (gB cF (pv 0) (af aJ (pv 1) (pv 1)) (ay _)) ae)))))),?_⟩
  refine cJ (λσ' H'=>σ'=[some (.int sq),some (.int due)]/\H=H'/\¬(due<0\/due*due<sq)) ?_ ?_
  case refine_2 =>
   intro rest;refine fK ⟨_,rfl,_,_,rfl,rfl,_,rfl,aG (λh1=>?_) (λh1=>?_)⟩
   ·refine cI ?_;unfold aX at k
    rw[if_pos (.inl h1)]at k;exact k
   ·refine⟨_,rfl,_,rfl,_,rfl,_,_,rfl,rfl,⟨hb.mono,hb.mono⟩,_,_,rfl,rfl,_,rfl,aG (λh2=>?_) (λh2=>?_)⟩
    ·unfold aX at k
     rw[if_pos (.inr h2)]at k;exact k
    ·exact rest _ _ ⟨rfl,rfl,λz=>z.elim h1 h2⟩
  rintro σ' H' ⟨rfl,rfl,hn⟩;refine bv ⟨_,rfl,_,rfl,_,rfl,_,_,rfl,rfl,⟨hb.mono,hb.mono⟩,_,_,rfl,rfl,.inr ⟨_,rfl,_,_,rfl,rfl,?_⟩⟩;unfold aX at k
  rw[if_neg hn]at k;by_cases h3:sq<due*due
  ·rw[if_pos h3]at k;rw[decide_eq_true h3];exact k
  ·rw[if_neg h3]at k;rw[decide_eq_false h3];exact k
def ow:Sp:=λvs H Q _=>∃(p:Addr) (l:List Int) (t n:Int),vs=[.ref p,.int t,.int n]/\H p=some (.tup (l.map V.int))/\SpB l/\Bits 100000 t/\Bits 100000 n/\Q (.int (aU l t n)) H
theorem xW(F:Fun K "_law_side" "_law_side" j7 f fd)(T:Txt K mg)(Dz:Cal P w K mg base 1 "_law_sure" ["_law_square","_law_due"] om ET Ee):FnOk P w K mg base CX0 2 f fd ["_law_spot","_law_top","_law_bottom"] ow:=by
 obtain⟨ug,qX,rA,tT⟩:=Dz;refine F.ok sc__law_side (λvs H Q E h=>?_) (λcdv A outer s H vs Q E hr h=>?_)
 ·obtain⟨p,l,t,n,rfl,_⟩:=h;rfl
 ·obtain⟨p,l,t,n,rfl,hP,⟨u,e,b,s,rfl,h1,h2,h3,h4,h5,h6⟩,bt,bn,k⟩:=h;have bu:Bits 28 u:=by show u.natAbs<268435456;omega
  have bb:Bits 6 b:=by show b.natAbs<64;omega
  have be:Bits 6 e:=by show e.natAbs<64;omega
  have bd:Bits 100030 (b*t-u*n):=Bits.sub (k:=100029) ((bb.mul bt).mono) ((bu.mul bn).mono)
  refine⟨_,(ag (aq (i:=3) sc__law_side.nd rfl (Or.inl rfl) (af aV (af aJ (al (aw (K:=K) rfl) (pv 0) ac (λ_ _=>rfl)) (pv 1)) (af aJ (al (aw (K:=K) rfl) (pv 0) ac (λ_ _=>rfl)) (pv 2))))
   (ag (aq (i:=4) sc__law_side.nd rfl (Or.inl rfl) (af aJ (af aJ (al (aw (K:=K) rfl) (pv 0) ac (λ_ _=>rfl)) (pv 2)) (pv 2)))
   (ag (aQ (aC cT (al (aw (K:=K) rfl) (pv 0) ac (λ_ _=>rfl)) ac (ay _))
     (ak (aD (av ug (hr.mono) rfl qX rA tT .nil au (aa (pv 4) (aa (pv 3) ae)))))
     aR)
   (ak (aD (af aV ac (av ug (hr.mono) rfl qX rA tT .nil au (aa (pv 4) (aa (af aV ac (pv 3)) ae))))))))),?_⟩
  refine aE ⟨_,rfl,p,_,_,_,rfl,rfl,SqT.of hP,rfl,_,rfl,_,_,rfl,rfl,⟨bb.mono,bt.mono⟩,_,rfl,p,_,_,_,rfl,rfl,SqT.of hP,rfl,_,rfl,_,_,rfl,rfl,⟨bu.mono,bn.mono⟩,_,_,rfl,rfl,?_⟩;refine aE ⟨_,rfl,p,_,_,_,rfl,rfl,SqT.of hP,rfl,_,rfl,_,_,rfl,rfl,⟨be.mono,bn.mono⟩,_,rfl,_,_,rfl,rfl,⟨(be.mul bn).mono,bn.mono⟩,?_⟩;refine ck ⟨_,rfl,p,_,_,_,rfl,rfl,SqT.of hP,rfl,_,_,rfl,rfl,_,rfl,aG (λhs=>?_) (λhs=>?_)⟩
  ·refine⟨_,rfl,_,rfl,_,_,rfl,bd.mono,?_⟩;have hs':0<cf [u,e,b,s] 3:=hs;unfold aU at k
   rw[if_pos hs']at k;exact k
  ·have hs':¬0<cf [u,e,b,s] 3:=hs;refine bv ⟨_,rfl,_,rfl,_,_,rfl,rfl,_,_,rfl,?_,_,_,rfl,rfl,?_⟩
   ·have:=bd.neg;rw[<- Gz]at this;exact this.mono
   unfold aU at k
   rw[if_neg hs']at k;exact k
theorem u6(f:List Int):(spF f).length<=2:=by unfold spF;split<;>split<;>simp
theorem gn:∀fs:List (List Int),(spots fs).length<=2*fs.length
 | []=>Fl _
 |f::fs=>by
  have e1:spots (f::fs)=spF f++spots fs:=by unfold spots;rw[List.flatMap_cons]
  have h1:=u6 f;have h2:=gn fs;rw[e1,Fp,FI];omega
theorem uY{fs:List (List Int)}{i:Nat}{f:List Int}(h:fs[i]?=some f):spots (fs.take (i+1))=spots (fs.take i)++spF f:=by unfold spots;rw[Ge,h,List.flatMap_append];show _++List.flatMap spF [f]=_;rw[List.flatMap_singleton]
def oy:Sp:=λvs H Q _=>∃(a:Addr) (qs:List Addr) (fs:List (List Int)),vs=[.ref a]/\H a=some (.lst (qs.map V.ref))/\TuH H qs fs/\(∀l∈fs,Fac 100000000 l)/\fs.length<=100/\∀(p:Addr) (H':Hp) (ws:List Addr),Same H H'->H p=none->H' p=some (.lst (ws.map V.ref))->TuH H' ws (spots fs)->Q (.ref p) H'
theorem x4(F:Fun K "_law_roots_of" "_law_roots_of" ka f fd)(T:Txt K mg):FnOk P w K mg base CX0 1 f fd ["_law_factors"] oy:=by
 refine F.ok sc__law_roots_of (λvs H Q E h=>?_) (λcdv A outer s H vs Q E hr h=>?_)
 ·obtain⟨a,qs,fs,rfl,_⟩:=h;rfl
 ·obtain⟨a,qs,fs,rfl,hA,hT,hF,hn,k⟩:=h;have big:=sizeLine_eq
  refine⟨_,(ag (aq (i:=1) sc__law_roots_of.nd rfl (Or.inl rfl) (bI ae))
   (ag (ca PassesOwn.never rfl (cm (K:=K) rfl (pv 0)) (aS (i:=2) sc__law_roots_of.nd rfl (Or.inl rfl))
     (ag (aQ (aC qu (al (aw (K:=K) rfl) (pv 2) ac (λ_ _=>rfl)) ac (ay _))
       (ak (dA (dB PySem.F.plainAttrs_list PySem.F.slot_list_append PySem.F.type_list_append eV (pv 1) (aa (b5 (aa (al (aw (K:=K) rfl) (pv 2) ac (λ_ _=>rfl)) (aa (al (aw (K:=K) rfl) (pv 2) ac (λ_ _=>rfl)) (aa (al (aw (K:=K) rfl) (pv 2) ac (λ_ _=>rfl)) (aa ac ae))))) ae))))
       aR)
       (ak (aQ (aC cT (al (aw (K:=K) rfl) (pv 2) ac (λ_ _=>rfl)) ac (ay _))
         (ak (dA (dB PySem.F.plainAttrs_list PySem.F.slot_list_append PySem.F.type_list_append eV (pv 1) (aa (b5 (aa (al (aw (K:=K) rfl) (pv 2) ac (λ_ _=>rfl)) (aa (al (aw (K:=K) rfl) (pv 2) ac (λ_ _=>rfl)) (aa (al (aw (K:=K) rfl) (pv 2) ac (λ_ _=>rfl)) (aa (cx cp ac) ae))))) ae))))
         aR))))
   (ak (aD (pv 1))))),?_⟩
  refine aE ⟨Fn _,λpm hpm=>?_⟩;have s1:Same H (upd H pm (.lst [])):=Same.upd_new hpm;have q1:upd H pm (.lst []) pm=some (.lst []):=am;generalize upd H pm (.lst [])=H1 at s1 q1 ⊢
  have hpl:(qs.map V.ref).length=fs.length:=by rw[Fk,hT.1]
  refine⟨_,rfl,a,rfl,⟨_,SqL.of (s1 _ _ hA)⟩,dJ (K:=K) (a:=a) (xs:=qs.map V.ref) (λi σ' H'=>∃(z2:Option V) (ws:List Addr),σ'=[some (.ref a),some (.ref pm),z2]/\Same H H'/\H' pm=some (.lst (ws.map V.ref))/\TuH H' ws (spots (fs.take i))) ⟨none,[],rfl,s1,q1,TuH.nil⟩ ?_ ?_ ?_⟩
  ·rintro i σ' H' _ ⟨z2,ws,rfl,sm,_⟩;exact SqL.of (sm _ _ hA)
  ·rintro i x σ' H' hi ⟨z2,ws,rfl,sm,em,hW⟩;obtain⟨q,l,rfl,eq,el,hq,hlt⟩:=(hT.same sm).of_get hi;have hmem:=List.mem_of_getElem? el;obtain⟨u,e,b,rfl,h1,h2,h3,h4,h5,h6,h7⟩:=hF l hmem;have hd:spF [u,e,b]=(if 0<=e then[[u,e,b,1]]else[])++(if 0<e then[[u,e,b,-1]]else[]):=rfl
   have hwl:ws.length<=200:=by rw[hW.1];have:=gn (fs.take i);rw[FE]at this;omega
   rw[uY el,hd];dsimp only
   refine cJ (λσ' H'=>∃(ws:List Addr),σ'=[some (.ref a),some (.ref pm),some (.ref q)]/\Same H H'/\H' pm=some (.lst (ws.map V.ref))/\TuH H' ws (spots (fs.take i)++(if 0<=e then[[u,e,b,1]]else[]))/\ws.length<=201) ?_ ?_
   case refine_2 =>
    intro rest;refine⟨_,rfl,q,_,_,_,rfl,rfl,SqT.of hq,rfl,_,_,rfl,rfl,_,rfl,aG (λh0=>?_) (λh0=>?_)⟩
    ·have h0':0<=e:=h0;refine gw ⟨_,rfl,.inl ⟨rfl,_,SqL.of em⟩,_,rfl,q,_,_,_,rfl,rfl,SqT.of hq,rfl,_,rfl,q,_,_,_,rfl,rfl,SqT.of hq,rfl,_,rfl,q,_,_,_,rfl,rfl,SqT.of hq,rfl,by show 4<=sizeLine;decide,λp hp=>?_⟩;have s3:Same H' (upd H' p (.tup ([u,e,b,1].map V.int))):=Same.upd_new hp;have e3:upd H' p (.tup ([u,e,b,1].map V.int)) p=some (.tup ([u,e,b,1].map V.int)):=am;have em3:=s3 _ _ em;refine⟨pm,_,_,rfl,rfl,em3,by rw[Fk];omega,?_⟩;refine rest _ _ ⟨ws++[p],rfl,bW (sm.trans s3) hpm,by rw[am,eW],?_,by rw[Fp];show ws.length+1<=_;omega⟩;rw[if_pos h0'];exact((hW.same s3).snoc e3).upd_lst em3
    ·have h0':¬0<=e:=h0;refine rest _ _ ⟨ws,rfl,sm,em,?_,by omega⟩;rw[if_neg h0',List.append_nil];exact hW
   clear em hW hwl ws sm hq;rintro σ' H3 ⟨ws,rfl,sm,em,hW,hwl⟩;obtain⟨q',l',ee,eq',el',hq,_⟩:=(hT.same sm).of_get hi;rw[eq]at eq';rw[el]at el';obtain rfl:=Option.some.inj eq';obtain rfl:=Option.some.inj el';refine fL ⟨_,rfl,q,_,_,_,rfl,rfl,SqT.of hq,rfl,_,_,rfl,rfl,_,rfl,aG (λh0=>?_) (λh0=>?_)⟩
   ·have h0':0<e:=h0;refine gw ⟨_,rfl,.inl ⟨rfl,_,SqL.of em⟩,_,rfl,q,_,_,_,rfl,rfl,SqT.of hq,rfl,_,rfl,q,_,_,_,rfl,rfl,SqT.of hq,rfl,_,rfl,q,_,_,_,rfl,rfl,SqT.of hq,rfl,_,rfl,by show 4<=sizeLine;decide,λp hp=>?_⟩;have s3:Same H3 (upd H3 p (.tup ([u,e,b,-1].map V.int))):=Same.upd_new hp;have e3:upd H3 p (.tup ([u,e,b,-1].map V.int)) p=some (.tup ([u,e,b,-1].map V.int)):=am;have em3:=s3 _ _ em;refine⟨pm,_,_,rfl,rfl,em3,by rw[Fk];omega,?_⟩;refine⟨_,ws++[p],rfl,bW (sm.trans s3) hpm,by rw[am,eW],?_⟩;rw[if_pos h0',<- List.append_assoc];exact((hW.same s3).snoc e3).upd_lst em3
   ·have h0':¬0<e:=h0;refine⟨_,ws,rfl,sm,em,?_⟩;rw[if_neg h0',List.append_nil];exact hW
  ·rintro σ' H' ⟨z2,ws,rfl,sm,em,hW⟩;rw[hpl,FS]at hW;exact⟨_,rfl,k pm H' ws sm hpm em hW⟩
def jy:Sp:=λvs H Q _=>∃a b c m:Int,vs=[.int a,.int b,.int c,.int m]/\Bits 2000 a/\Bits 2000 b/\Bits 2000 c/\Bits 10 m/\Q (.int (nrm m a b c)) H
theorem x9(F:Fun K "_law_norm" "_law_norm" kf f fd)(T:Txt K mg):FnOk P w K mg base CX0 1 f fd ["_law_a","_law_b","_law_c","_law_m"] jy:=by
 refine F.ok sc__law_norm (λvs H Q E h=>?_) (λcdv A outer s H vs Q E hr h=>?_)
 ·obtain⟨a,b,c,m,rfl,_⟩:=h;rfl
 ·obtain⟨a,b,c,m,rfl,ba,bb,bc,bm,k⟩:=h;have e:a*a*a+m*b*b*b+m*m*c*c*c-3*m*a*b*c=nrm m a b c:=by unfold nrm;grind
  rw[<- e]at k;have b3:Bits 2 (3:Int):=by show(3:Int).natAbs<2^2;decide
  have M:∀{i:Nat} {x:Int},Bits i x->i<=100000->Bits 1000000 x:=λh hi=>h.mono (by omega)
  have q1:=ba.mul ba;have q2:=bm.mul bb;have q3:=q2.mul bb;have q4:=bm.mul bm;have q5:=q4.mul bc;have q6:=q5.mul bc;have q7:=b3.mul bm;have q8:=q7.mul ba;have q9:=q8.mul bb
  refine⟨_,(ag (aq (i:=4) sc__law_norm.nd rfl (Or.inl rfl) (af aZ (af aJ (af aJ (pv 0) (pv 0)) (pv 0)) (af aJ (af aJ (af aJ (pv 3) (pv 1)) (pv 1)) (pv 1))))
   (ag (aq (i:=4) sc__law_norm.nd rfl (Or.inl rfl) (af aZ (pv 4) (af aJ (af aJ (af aJ (af aJ (pv 3) (pv 3)) (pv 2)) (pv 2)) (pv 2))))
   (ak (aD (af aV (pv 4) (af aJ (af aJ (af aJ (af aJ ac (pv 3)) (pv 0)) (pv 1)) (pv 2))))))),?_⟩
  refine aE ⟨_,rfl,_,rfl,_,_,rfl,rfl,⟨M ba (by decide),M ba (by decide)⟩,_,rfl,_,_,rfl,rfl,⟨M q1 (by decide),M ba (by decide)⟩,_,rfl,_,rfl,_,_,rfl,rfl,⟨M bm (by decide),M bb (by decide)⟩,_,rfl,_,_,rfl,rfl,⟨M q2 (by decide),M bb (by decide)⟩,_,rfl,_,_,rfl,rfl,⟨M q3 (by decide),M bb (by decide)⟩,_,_,rfl,rfl,?_⟩;refine aE ⟨_,rfl,_,rfl,_,rfl,_,_,rfl,rfl,⟨M bm (by decide),M bm (by decide)⟩,_,rfl,_,_,rfl,rfl,⟨M q4 (by decide),M bc (by decide)⟩,_,rfl,_,_,rfl,rfl,⟨M q5 (by decide),M bc (by decide)⟩,_,rfl,_,_,rfl,rfl,⟨M q6 (by decide),M bc (by decide)⟩,_,_,rfl,rfl,?_⟩;exact bv ⟨_,rfl,_,rfl,_,_,rfl,rfl,⟨M b3 (by decide),M bm (by decide)⟩,_,rfl,_,_,rfl,rfl,⟨M q7 (by decide),M ba (by decide)⟩,_,rfl,_,_,rfl,rfl,⟨M q8 (by decide),M bb (by decide)⟩,_,rfl,_,_,rfl,rfl,⟨M q9 (by decide),M bc (by decide)⟩,_,_,rfl,rfl,k⟩
theorem bG{x:Int}(h:x.natAbs<1024){k:Nat}(hk:10<=k):Bits k x:=Bits.mono (j:=10) h hk
def CT(H:Hp)(p:Addr)(a b c m:Int):Prop:=H p=some (.tup [.int a,.int b,.int c,.int m,.int 0])
def oM:Sp:=λvs H Q _=>∃(p:Addr) (a b c m:Int),vs=[.ref p]/\CT H p a b c m/\((CubOk a b c m/\mkL H Q (aL m a b c))\/(b=0/\c=0/\mkL H Q [-a,1]))
theorem yi(F:Fun K "_law_cube_shape" "_law_cube_shape" kn f fd)(T:Txt K mg)(nr:Cal P w K mg base 1 "_law_norm" ["_law_a","_law_b","_law_c","_law_m"] jy Bg A5):FnOk P w K mg base CX0 2 f fd ["_law_cube"] oM:=by
 obtain⟨mZ,kY,ly,mL⟩:=nr;refine F.ok sc__law_cube_shape (λvs H Q E h=>?_) (λcdv A outer s H vs Q E hr h=>?_)
 ·obtain⟨p,a,b,c,m,rfl,_⟩:=h;rfl
 ·obtain⟨p,a,b,c,m,rfl,hp,hk⟩:=h
  refine⟨_,(ag (aq (i:=1) sc__law_cube_shape.nd rfl (Or.inl rfl) (al (aw (K:=K) rfl) (pv 0) ac (λ_ _=>rfl)))
   (ag (aq (i:=2) sc__law_cube_shape.nd rfl (Or.inl rfl) (al (aw (K:=K) rfl) (pv 0) ac (λ_ _=>rfl)))
   (ag (aq (i:=3) sc__law_cube_shape.nd rfl (Or.inl rfl) (al (aw (K:=K) rfl) (pv 0) ac (λ_ _=>rfl)))
   (ag (aq (i:=4) sc__law_cube_shape.nd rfl (Or.inl rfl) (al (aw (K:=K) rfl) (pv 0) ac (λ_ _=>rfl)))
   (ag (aQ (PW.pt (cE (aC bz (pv 2) ac (ay _)) (cS (aC bz (pv 3) ac (ay _)))))
     (ak (aD (bI (aa (af aV ac (pv 1)) (aa ac ae)))))
     aR)
   (ak (aD (bI (aa (af aV ac (av mZ (hr.mono) rfl kY ly mL .nil au (aa (pv 1) (aa (pv 2) (aa (pv 3) (aa (pv 4) ae)))))) (aa (af aV (af aJ (af aJ ac (pv 1)) (pv 1)) (af aJ (af aJ (af aJ ac (pv 4)) (pv 2)) (pv 3))) (aa (af aJ (cx cp ac) (pv 1)) (aa ac ae)))))))))))),?_⟩
  refine aE ⟨_,rfl,p,_,_,_,rfl,rfl,SqT.of hp,rfl,?_⟩;refine aE ⟨_,rfl,p,_,_,_,rfl,rfl,SqT.of hp,rfl,?_⟩;refine aE ⟨_,rfl,p,_,_,_,rfl,rfl,SqT.of hp,rfl,?_⟩;refine aE ⟨_,rfl,p,_,_,_,rfl,rfl,SqT.of hp,rfl,?_⟩;show br _ _ _ _ _;refine pK (λσ' H'=>σ'=[some (.ref p),some (.int a),some (.int b),some (.int c),some (.int m)]/\H=H') ⟨rfl,rfl⟩ ?_;rintro σ' H' ⟨rfl,rfl⟩;rcases hk with⟨hC,k⟩ |⟨rfl,rfl,k⟩
  rotate_left
  ·refine ck (cK ⟨_,rfl,_,_,rfl,rfl,_,rfl,aG (λ_=>?_) (λz=>absurd rfl z)⟩);refine⟨_,rfl,_,_,rfl,rfl,_,rfl,aG (λ_=>?_) (λz=>absurd rfl z)⟩;refine bv ⟨_,rfl,_,_,rfl,rfl,by show 2<=sizeLine;decide,λq hq=>?_⟩;refine k q _ (Same.upd_new hq) hq ?_;rw[am,<- Gz];rfl
  have ba:∀{k:Nat},10<=k->Bits k a:=λh=>bG (by have:=hC.a9;omega) h
  have bb:∀{k:Nat},10<=k->Bits k b:=λh=>bG (by have:=hC.b3;omega) h
  have bc:∀{k:Nat},10<=k->Bits k c:=λh=>bG (by have:=hC.c3;omega) h
  have bm:∀{k:Nat},10<=k->Bits k m:=λh=>bG (by have:=hC.m2;have:=hC.m7;omega) h
  refine cJ (λσ' H'=>σ'=[some (.ref p),some (.int a),some (.int b),some (.int c),some (.int m)]/\H=H') ?_ ?_
  case refine_2 =>intro rest;refine cK ⟨_,rfl,_,_,rfl,rfl,_,rfl,aG (λh1=>?_) (λ_=>cP (rest _ _ ⟨rfl,rfl⟩))⟩;exact⟨_,rfl,_,_,rfl,rfl,_,rfl,aG (λh2=>absurd ⟨h1,h2⟩ hC.bc) (λ_=>rest _ _ ⟨rfl,rfl⟩)⟩
  rintro σ' H' ⟨rfl,rfl⟩;have b3:∀{k:Nat},10<=k->Bits k (3:Int):=λh=>bG (by decide) h
  refine bv ⟨_,rfl,_,rfl,_,rfl,_,rfl,a,b,c,m,rfl,ba (by decide),bb (by decide),bc (by decide),bm (by decide),_,_,rfl,rfl,?_⟩;refine⟨_,rfl,_,_,rfl,rfl,⟨b3 (by decide),ba (by decide)⟩,_,rfl,_,_,rfl,rfl,⟨Bits.mono (Bits.mul (b3 (k:=10) (by decide)) (ba (k:=10) (by decide))) (by decide),ba (by decide)⟩,_,rfl,_,_,rfl,rfl,⟨b3 (by decide),bm (by decide)⟩,_,rfl,_,_,rfl,rfl,⟨Bits.mono (Bits.mul (b3 (k:=10) (by decide)) (bm (k:=10) (by decide))) (by decide),bb (by decide)⟩,_,rfl,_,_,rfl,rfl,⟨Bits.mono (Bits.mul (Bits.mul (b3 (k:=10) (by decide)) (bm (k:=10) (by decide))) (bb (k:=10) (by decide))) (by decide),bc (by decide)⟩,_,_,rfl,rfl,?_⟩;refine⟨_,rfl,_,rfl,_,_,rfl,rfl,⟨bG (by decide) (by decide),ba (by decide)⟩,by show 4<=sizeLine;decide,λq hq=>?_⟩;refine k q _ (Same.upd_new hq) hq ?_;rw[am];have e1:0-nrm m a b c = -nrm m a b c:=Gz _;have e2:3*a*a-3*m*b*c=3*(a*a)-3*m*(b*c):=by grind
  show some (HO.lst [V.int (0-nrm m a b c),V.int (3*a*a-3*m*b*c),V.int (-3*a),V.int 1])=_;rw[e1,e2];rfl
def oP:Sp:=λvs H Q _=>∃x y mm:Int,vs=[.int x,.int y,.int mm]/\∀(p:Addr) (a b c:Int) (H':Hp),Same H H'->H p=none->CT H' p a b c (2+mm%6)->CubOk a b c (2+mm%6)->Q (.ref p) H'
theorem yj(F:Fun K "_law_cube_by" "_law_cube_by" ko f fd)(T:Txt K mg)(Dy:Cal P w K mg base 1 "_law_within" ["_law_cell","_law_most"] ou ES Ed):FnOk P w K mg base CX0 2 f fd ["_law_cell","_law_other","_law_m"] oP:=by
 obtain⟨mW,kU,lu,mI⟩:=Dy;refine F.ok sc__law_cube_by (λvs H Q E h=>?_) (λcdv A outer s H vs Q E hr h=>?_)
 ·obtain⟨x,y,mm,rfl,_⟩:=h;rfl
 ·obtain⟨x,y,mm,rfl,k⟩:=h;obtain⟨x1,x2⟩:=ci (x:=x) (m:=19) (by decide);obtain⟨y1,y2⟩:=ci (x:=y) (m:=7) (by decide);obtain⟨z1,z2⟩:=ci (x:=y/7) (m:=7) (by decide);obtain⟨m1,m2⟩:=ci (x:=mm) (m:=6) (by decide)
  refine⟨_,(ag (aq (i:=3) sc__law_cube_by.nd rfl (Or.inl rfl) (av mW (hr.mono) rfl kU lu mI .nil au (aa (pv 0) (aa ac ae))))
   (ag (aq (i:=4) sc__law_cube_by.nd rfl (Or.inl rfl) (av mW (hr.mono) rfl kU lu mI .nil au (aa (pv 1) (aa ac ae))))
   (ag (aq (i:=5) sc__law_cube_by.nd rfl (Or.inl rfl) (av mW (hr.mono) rfl kU lu mI .nil au (aa (af eU (pv 1) ac) (aa ac ae))))
   (ag (aQ (PW.pt (cE (aC bz (pv 4) ac (ay _)) (cS (aC bz (pv 5) ac (ay _)))))
     (ak (aq (i:=4) sc__law_cube_by.nd rfl (Or.inl rfl) ac))
     aR)
   (ak (aD (b5 (aa (pv 3) (aa (pv 4) (aa (pv 5) (aa (al (bj (K:=K) rfl) (bI (aa ac (aa ac (aa ac (aa ac (aa ac (aa ac ae))))))) (af bJ (pv 2) ac) (λ_ _=>rfl)) (aa ac ae)))))))))))),?_⟩
  refine aE ⟨_,rfl,x,9,rfl,by decide,bG (by decide) (by decide),?_⟩;refine aE ⟨_,rfl,y,3,rfl,by decide,bG (by decide) (by decide),?_⟩;refine aE ⟨_,rfl,_,_,rfl,rfl,⟨by show(0:Int)<7;decide,bG (by decide) (by decide)⟩,y/7,3,rfl,by decide,bG (by decide) (by decide),?_⟩;show br _ _ _ _ _;refine pK (λσ' H'=>σ'=[some (.int x),some (.int y),some (.int mm),some (.int (x%19-9)),some (.int (y%7-3)),some (.int (y/7%7-3))]/\H=H') ⟨rfl,rfl⟩ ?_;rintro σ' H' ⟨rfl,rfl⟩;refine cJ (λσ' H'=>∃b:Int,σ'=[some (.int x),some (.int y),some (.int mm),some (.int (x%19-9)),some (.int b),some (.int (y/7%7-3))]/\H=H' /\ -3<=b/\b<=3/\¬(b=0/\y/7%7-3=0)) ?_ ?_
  case refine_2 =>intro rest;refine cK ⟨_,rfl,_,_,rfl,rfl,_,rfl,aG (λh1=>?_) (λh1=>cP (rest _ _ ⟨_,rfl,rfl,by omega,by omega,λz=>h1 z.1⟩))⟩;refine⟨_,rfl,_,_,rfl,rfl,_,rfl,aG (λh2=>?_) (λh2=>rest _ _ ⟨_,rfl,rfl,by omega,by omega,λz=>h2 z.2⟩)⟩;exact rest _ _ ⟨1,rfl,rfl,by decide,by decide,λz=>absurd z.1 (by decide)⟩
  rintro σ' H' ⟨b,rfl,rfl,b1,b2,hbc⟩
  have hat:atI [V.int 2,V.int 3,V.int 4,V.int 5,V.int 6,V.int 7] (mm%6)=some (V.int (2+mm%6)):=by
   have:mm%6=0\/mm%6=1\/mm%6=2\/mm%6=3\/mm%6=4\/mm%6=5:=by omega
   rcases this with e |e |e |e |e |e<;>rw[e]<;>rfl
  refine bv ⟨_,rfl,_,rfl,_,rfl,by show 6<=sizeLine;decide,λq hq=>?_⟩;refine⟨_,rfl,_,_,rfl,rfl,(by show(0:Int)<6;decide),q,_,_,_,rfl,rfl,SqL.of am,hat,by show 5<=sizeLine;decide,λp hp=>?_⟩;have s1:Same H (upd H q (.lst [V.int 2,V.int 3,V.int 4,V.int 5,V.int 6,V.int 7])):=Same.upd_new hq;exact k p _ b _ _ (s1.then_new hp) (s1.free hp) am ⟨by omega,⟨b1,b2⟩,by omega,by omega,by omega,hbc⟩
structure CubB(a b c m:Int):Prop where
 a9 : -9<=a/\a<=9
 b3 : -3<=b/\b<=3
 c3 : -3<=c/\c<=3
 m2:2<=m
 m7:m<=7
theorem uZ{l:List Int}(h:SpK l):(∃a b c m:Int,l=[a,b,c,m,0]/\CubB a b c m)\/SpB l:=by
 rcases h with⟨a,b,c,m,rfl,hC⟩ |⟨a,rfl,h1,h2⟩ |⟨u,e,b,s,rfl,h1,h2,he,he',hb,hb',_⟩
 ·exact .inl ⟨a,b,c,m,rfl,hC.a9,hC.b3,hC.c3,hC.m2,hC.m7⟩
 ·exact .inl ⟨a,0,0,2,rfl,⟨h1,h2⟩,by decide,by decide,by decide,by decide⟩
 ·exact .inr ⟨u,e,b,s,rfl,by omega,by omega,he,he',hb,hb'⟩
def jv:Sp:=λvs H Q _=>∃(p:Addr) (l:List Int) (t n:Int),vs=[.ref p,.int t,.int n]/\H p=some (.tup (l.map V.int))/\SpK l/\Bits 900 t/\Bits 900 n/\Q (.int (bV l t n)) H
theorem xQ(F:Fun K "_law_way" "_law_way" jZ f fd)(T:Txt K mg)(nr:Cal P w K mg base 1 "_law_norm" ["_law_a","_law_b","_law_c","_law_m"] jy Bg A5)(DE:Cal P w K mg base 2 "_law_side" ["_law_spot","_law_top","_law_bottom"] ow EX Ei):FnOk P w K mg base CX0 3 f fd ["_law_spot","_law_top","_law_bottom"] jv:=by
 obtain⟨mZ,kY,ly,mL⟩:=nr;obtain⟨CY,zk,Ag,Cj⟩:=DE;refine F.ok sc__law_way (λvs H Q E h=>?_) (λcdv A outer s H vs Q E hr h=>?_)
 ·obtain⟨p,l,t,n,rfl,_⟩:=h;rfl
 ·obtain⟨p,l,t,n,rfl,hp,hl,bt,bn,k⟩:=h
  refine⟨_,(ag (aQ (aC bz (aP (aY (K:=K) rfl) (by rfl) T.len_ PySem.boot_len (aa (pv 0) ae)) ac (ay _))
   (ag (aq (i:=3) sc__law_way.nd rfl (Or.inl rfl) (af aV (af aJ (al (aw (K:=K) rfl) (pv 0) ac (λ_ _=>rfl)) (pv 2)) (pv 1)))
     (ag (aq (i:=4) sc__law_way.nd rfl (Or.inl rfl) (af aJ (al (aw (K:=K) rfl) (pv 0) ac (λ_ _=>rfl)) (pv 2)))
     (ak (aD (av mZ (hr.mono) rfl kY ly mL .nil au (aa (pv 3) (aa (pv 4) (aa (af aJ (al (aw (K:=K) rfl) (pv 0) ac (λ_ _=>rfl)) (pv 2)) (aa (al (aw (K:=K) rfl) (pv 0) ac (λ_ _=>rfl)) ae)))))))))
   aR)
   (ak (aD (av CY (hr.mono) rfl zk Ag Cj .nil au (aa (pv 0) (aa (pv 1) (aa (pv 2) ae))))))),?_⟩
  rcases uZ hl with⟨a,b,c,m,rfl,hC⟩ |hB
  ·have ba:Bits 10 a:=bG (by have:=hC.a9;omega) (by decide);have bb:Bits 10 b:=bG (by have:=hC.b3;omega) (by decide);have bc:Bits 10 c:=bG (by have:=hC.c3;omega) (by decide);have bm:Bits 10 m:=bG (by have:=hC.m2;have:=hC.m7;omega) (by decide);refine ck ⟨_,rfl,p,_,rfl,.inr (SqT.of hp),_,_,rfl,rfl,_,rfl,aG (λ_=>?_) (λz=>absurd rfl z)⟩;refine aE ⟨_,rfl,p,_,_,_,rfl,rfl,SqT.of hp,rfl,_,rfl,_,_,rfl,rfl,⟨ba.mono,bn.mono⟩,_,rfl,_,_,rfl,rfl,?_⟩;refine aE ⟨_,rfl,p,_,_,_,rfl,rfl,SqT.of hp,rfl,_,rfl,_,_,rfl,rfl,⟨bb.mono,bn.mono⟩,?_⟩;refine bv ⟨_,rfl,_,rfl,_,rfl,p,_,_,_,rfl,rfl,SqT.of hp,rfl,_,rfl,_,_,rfl,rfl,⟨bc.mono,bn.mono⟩,_,rfl,p,_,_,_,rfl,rfl,SqT.of hp,rfl,_,_,_,_,rfl,?_,?_,?_,bm,k⟩
   ·exact(((ba.mul bn).mono (k:=910) (by decide)).sub (bt.mono)).mono
   ·exact(bb.mul bn).mono
   ·exact(bc.mul bn).mono
  ·obtain⟨u,e,b,s,rfl,_⟩:=id hB;refine ck ⟨_,rfl,p,_,rfl,.inr (SqT.of hp),_,_,rfl,rfl,_,rfl,aG (λz=>absurd z (by show ¬((4:Nat):Int)=5;decide)) (λ_=>?_)⟩;exact bv ⟨_,rfl,_,rfl,_,rfl,p,_,t,n,rfl,hp,hB,bt.mono,bn.mono,k⟩
def ST(H:Hp)(t:Addr)(s:Int×Int×Int):Prop:=H t=some (.tup [.int s.1,.int s.2.1,.int s.2.2])
theorem jA{l:List Int}{s:Int×Int×Int}{j:Nat}(S:SpG l s j)(hj:j<=300):Bits 310 s.1/\Bits 310 s.2.1/\Bits 310 s.2.2:=by
 have h1:s.2.2<=2^300:=by
  rw[S.n];have:(2:Nat)^j<=2^300:=Hu (by decide) hj;have e:∀k:Nat,((2:Int)^k)=((2^k:Nat):Int):=λk=>by rw[Int.natCast_pow];rfl
  rw[e,e];exact Int.ofNat_le.mpr this
 have h2:=S.pos;have h3:=S.lo;have h4:=S.hi;have h5:=S.w;refine⟨?_,?_,?_⟩
 ·show s.1.natAbs<2^310;omega
 ·show s.2.1.natAbs<2^310;omega
 ·show s.2.2.natAbs<2^310;omega
def oR:Sp:=λvs H Q _=>∃(a p t:Addr) (ws:List Addr) (l:List Int) (ls:List (List Int)) (s:Int×Int×Int),vs=[.ref a,.ref p,.ref t]/\H a=some (.lst (ws.map V.ref))/\TuH H ws ls/\(∀x∈ls,SpK x)/\H p=some (.tup (l.map V.int))/\ST H t s/\Bits 310 s.1/\Bits 310 s.2.1/\Bits 310 s.2.2/\∀r:Bool,(r=true↔cO ls l s)->Q (.bl r) H
theorem yo(F:Fun K "_law_alone" "_law_alone" iq f fd)(T:Txt K mg)(ni:Cal P w K mg base 3 "_law_way" ["_law_spot","_law_top","_law_bottom"] jv Bb A1):FnOk P w K mg base CX0 4 f fd ["_law_spots","_law_spot","_law_span_here"] oR:=by
 obtain⟨ji,iI,iO,jd⟩:=ni;refine F.ok sc__law_alone (λvs H Q E h=>?_) (λcdv A outer s H vs Q E hr h=>?_)
 ·obtain⟨a,p,t,ws,l,ls,s,rfl,_⟩:=h;rfl
 ·obtain⟨a,p,t,ws,l,ls,sp,rfl,hl,hT,hK,hp,ht,b1,b2,b3,k⟩:=h;have hu2:(A.deeper (PyProof.Rows.envOfC (Str.ofString "_law_alone") (ax iq) s.heap.objs.size f cdv)).units+66<cLine:=by have:=hr.un;omega
  have w1:Bits 900 sp.1:=b1.mono;have w2:Bits 900 sp.2.1:=b2.mono;have w3:Bits 900 sp.2.2:=b3.mono
  refine⟨_,(ag (ca PassesOwn.never rfl (cm (K:=K) rfl (pv 0)) (aS (i:=3) sc__law_alone.nd rfl (Or.inl rfl))
   (ag (aq (i:=4) sc__law_alone.nd rfl (Or.inl rfl) (av ji (hr.mono) rfl iI iO jd .nil au (aa (pv 3) (aa (al (aw (K:=K) rfl) (pv 2) ac (λ_ _=>rfl)) (aa (al (aw (K:=K) rfl) (pv 2) ac (λ_ _=>rfl)) ae)))))
     (ag (aq (i:=5) sc__law_alone.nd rfl (Or.inl rfl) (av ji (hr.mono) rfl iI iO jd .nil au (aa (pv 3) (aa (al (aw (K:=K) rfl) (pv 2) ac (λ_ _=>rfl)) (aa (al (aw (K:=K) rfl) (pv 2) ac (λ_ _=>rfl)) ae)))))
     (ak (aQ (PW.pt (cE (aC (xg (K:=K) rfl hu2) (pv 3) (pv 1) (ay _)) (cE (aC qu (pv 4) ac (ay _)) (cS (aC fV (pv 5) ac (ay _))))))
       (ak (aD dD))
       aR)))))
   (ak (aD dD))),?_⟩
  refine⟨_,rfl,a,rfl,⟨_,SqL.of hl⟩,dJ (K:=K) (a:=a) (xs:=ws.map V.ref) (λi σ' H'=>∃z3 z4 z5:Option V,σ'=[some (.ref a),some (.ref p),some (.ref t),z3,z4,z5]/\H=H'/\cO (ls.take i) l sp) ⟨none,none,none,rfl,rfl,λx hx=>(nomatch hx)⟩ ?_ ?_ ?_⟩
  ·rintro i σ' H' _ ⟨z3,z4,z5,rfl,rfl,_⟩;exact SqL.of hl
  ·rintro i x σ' H' hi ⟨z3,z4,z5,rfl,rfl,hx⟩;obtain⟨q,y,rfl,eq,ey,hq,hlt⟩:=hT.of_get hi;have hy:=hK y (List.mem_of_getElem? ey);refine aE ⟨_,rfl,_,rfl,t,_,_,_,rfl,rfl,SqT.of ht,rfl,_,rfl,t,_,_,_,rfl,rfl,SqT.of ht,rfl,q,y,_,_,rfl,hq,hy,w1,w3,?_⟩;refine aE ⟨_,rfl,_,rfl,t,_,_,_,rfl,rfl,SqT.of ht,rfl,_,rfl,t,_,_,_,rfl,rfl,SqT.of ht,rfl,q,y,_,_,rfl,hq,hy,w2,w3,?_⟩
   have go:(y≠l->¬(0<=bV y sp.1 sp.2.2/\bV y sp.2.1 sp.2.2<=0))->cO (ls.take (i+1)) l sp:=λhn x hm=>by
    rw[Ge,ey]at hm;rcases FY.mp hm with h |h
    ·exact hx x h
    ·rw[Fu.mp h];exact hn
   refine fL (cK ⟨_,rfl,_,rfl,q,p,_,_,rfl,rfl,SqT.of hq,SqT.of hp,_,rfl,dP (λne=>?_) (λz=>cP ⟨_,_,_,rfl,rfl,go λy=>absurd z y⟩)⟩);refine cK ⟨_,rfl,_,_,rfl,rfl,_,rfl,aG (λh1=>?_) (λh1=>cP ⟨_,_,_,rfl,rfl,go λ_ z=>h1 z.1⟩)⟩;refine⟨_,rfl,_,_,rfl,rfl,_,rfl,aG (λh2=>?_) (λh2=>⟨_,_,_,rfl,rfl,go λ_ z=>h2 z.2⟩)⟩;exact bv (k false ⟨λz=>Bool.noConfusion z,λz=>absurd ⟨h1,h2⟩ (z y (List.mem_of_getElem? ey) ne)⟩)
  ·rintro σ' H' ⟨z3,z4,z5,rfl,rfl,hx⟩;rw[Fk,hT.1,FS]at hx;exact k true ⟨λ_=>hx,λ_=>rfl⟩
def oG:Sp:=λvs H Q _=>∃(t p:Addr) (l:List Int) (s:Int×Int×Int) (j:Nat),vs=[.ref t,.ref p]/\ST H t s/\H p=some (.tup (l.map V.int))/\SpK l/\SpG l s j/\j<=300/\∀(t':Addr) (H':Hp),Same H H'->H t'=none->ST H' t' (hfG l s)->Q (.ref t') H'
theorem yd(F:Fun K "_law_half" "_law_half" ki f fd)(T:Txt K mg)(ni:Cal P w K mg base 3 "_law_way" ["_law_spot","_law_top","_law_bottom"] jv Bb A1):FnOk P w K mg base CX0 4 f fd ["_law_span_here","_law_spot"] oG:=by
 obtain⟨ji,iI,iO,jd⟩:=ni;refine F.ok sc__law_half (λvs H Q E h=>?_) (λcdv A outer s H vs Q E hr h=>?_)
 ·obtain⟨t,p,l,s,j,rfl,_⟩:=h;rfl
 ·obtain⟨t,p,l,sp,j,rfl,ht,hp,hl,S,hj,k⟩:=h;obtain⟨b1,b2,b3⟩:=jA S hj;have b2':Bits 2 (2:Int):=by show(2:Int).natAbs<2^2;decide
  have M:∀{x:Int},Bits 310 x->Bits 1000000 x:=λh=>h.mono
  have M2:Bits 1000000 (2:Int):=b2'.mono
  refine⟨_,(ag (aq (i:=2) sc__law_half.nd rfl (Or.inl rfl) (af aZ (al (aw (K:=K) rfl) (pv 0) ac (λ_ _=>rfl)) (al (aw (K:=K) rfl) (pv 0) ac (λ_ _=>rfl))))
   (ag (aQ (aC fV (av ji (hr.mono) rfl iI iO jd .nil au (aa (pv 1) (aa (pv 2) (aa (af aJ ac (al (aw (K:=K) rfl) (pv 0) ac (λ_ _=>rfl))) ae)))) ac (ay _))
     (ak (aD (b5 (aa (af aJ ac (al (aw (K:=K) rfl) (pv 0) ac (λ_ _=>rfl))) (aa (pv 2) (aa (af aJ ac (al (aw (K:=K) rfl) (pv 0) ac (λ_ _=>rfl))) ae))))))
     aR)
   (ak (aD (b5 (aa (pv 2) (aa (af aJ ac (al (aw (K:=K) rfl) (pv 0) ac (λ_ _=>rfl))) (aa (af aJ ac (al (aw (K:=K) rfl) (pv 0) ac (λ_ _=>rfl))) ae)))))))),?_⟩
  refine aE ⟨_,rfl,t,_,_,_,rfl,rfl,SqT.of ht,rfl,_,rfl,t,_,_,_,rfl,rfl,SqT.of ht,rfl,_,_,rfl,rfl,?_⟩;refine ck ⟨_,rfl,_,rfl,_,rfl,t,_,_,_,rfl,rfl,SqT.of ht,rfl,_,_,rfl,rfl,⟨M2,M b3⟩,p,l,_,_,rfl,hp,hl,(b1.add b2).mono,(b2'.mul b3).mono,_,_,rfl,rfl,_,rfl,aG (λh1=>?_) (λh1=>?_)⟩
  ·refine bv ⟨_,rfl,t,_,_,_,rfl,rfl,SqT.of ht,rfl,_,_,rfl,rfl,⟨M2,M b1⟩,_,rfl,_,rfl,t,_,_,_,rfl,rfl,SqT.of ht,rfl,_,_,rfl,rfl,⟨M2,M b3⟩,by show 3<=sizeLine;decide,λt' ht'=>k t' _ (Same.upd_new ht') ht' ?_⟩;unfold ST hfG;rw[if_pos h1];exact am
  ·refine bv ⟨_,rfl,_,rfl,t,_,_,_,rfl,rfl,SqT.of ht,rfl,_,_,rfl,rfl,⟨M2,M b2⟩,_,rfl,t,_,_,_,rfl,rfl,SqT.of ht,rfl,_,_,rfl,rfl,⟨M2,M b3⟩,by show 3<=sizeLine;decide,λt' ht'=>k t' _ (Same.upd_new ht') ht' ?_⟩;unfold ST hfG;rw[if_neg h1];exact am
def oq:Sp:=λvs H Q _=>∃(a p:Addr) (more:Int) (ws:List Addr) (P l:List Int) (ls:List (List Int)),vs=[.ref a,.ref p,.int more]/\0<=more/\more<=20/\H a=some (.lst (ws.map V.ref))/\TuH H ws ls/\H p=some (.tup (l.map V.int))/\l∈ls/\Fel P ls/\∀(t:Addr) (H':Hp) (s:Int×Int×Int) (j:Nat),Same H H'->H t=none->ST H' t s->SpG l s j->cO ls l s->j<=230->Q (.ref t) H'
theorem xV(F:Fun K "_law_span" "_law_span" j6 f fd)(T:Txt K mg)(DS:Cal P w K mg base 4 "_law_alone" ["_law_spots","_law_spot","_law_span_here"] oR Fe Ex)(DK:Cal P w K mg base 4 "_law_half" ["_law_span_here","_law_spot"] oG E6 Eo):FnOk P w K mg base CX0 5 f fd ["_law_spots","_law_spot","_law_more_here"] oq:=by
 obtain⟨Df,zw,Aq,Cs⟩:=DS;obtain⟨ui,qZ,rC,tV⟩:=DK;refine F.ok sc__law_span (λvs H Q E h=>?_) (λcdv A outer s H vs Q E hr h=>?_)
 ·obtain⟨a,p,more,ws,P,l,ls,rfl,_⟩:=h;rfl
 ·obtain⟨a,p,more,ws,PP,l,ls,rfl,m0,m9,ha,hT,hp,hl,hF,k⟩:=h;have big:=sizeLine_eq;have hk:=hF.sp l hl
  refine⟨_,(ag (aq (i:=3) sc__law_span.nd rfl (Or.inl rfl) (b5 (aa (cx cp ac) (aa ac (aa ac ae)))))
   (ag (eJ PassesOwn.never (wC (wB (av Df (hr.mono) rfl zw Aq Cs .nil au (aa (pv 0) (aa (pv 1) (aa (pv 3) ae))))))
     (ak (aq (i:=3) sc__law_span.nd rfl (Or.inl rfl) (av ui (hr.mono) rfl qZ rC tV .nil au (aa (pv 3) (aa (pv 1) ae))))))
   (ag (ca PassesOwn.never rfl (gA rfl T.range_ (aa (pv 2) ae)) (aS (i:=4) sc__law_span.nd rfl (Or.inl rfl))
     (ak (aq (i:=3) sc__law_span.nd rfl (Or.inl rfl) (av ui (hr.mono) rfl qZ rC tV .nil au (aa (pv 3) (aa (pv 1) ae))))))
   (ak (aD (pv 3)))))),?_⟩
  refine aE ⟨_,rfl,by show 3<=sizeLine;decide,λt0 h0=>?_⟩;have s1:=Same.upd_new (o:=.tup [.int (-64),.int 64,.int 1]) h0;have e1:ST (upd H t0 (.tup [.int (-64),.int 64,.int 1])) t0 (itG l 0):=am;show br _ _ _ _ (upd H t0 (.tup [.int (-64),.int 64,.int 1]));generalize upd H t0 (.tup [.int (-64),.int 64,.int 1])=H1 at s1 e1 ⊢
  refine⟨λn σ' H'=>∃(t:Addr) (j:Nat),σ'=[some (.ref a),some (.ref p),some (.int more),some (.ref t),none]/\Same H H'/\H t=none/\ST H' t (itG l j)/\j<=207/\207-j=n,⟨207,t0,0,rfl,s1,h0,e1,by decide,rfl⟩,?_⟩;rintro n σ' H2 ⟨t,j,rfl,s2,ht,et,hj,rfl⟩;have S:=f6 hk j;obtain⟨b1,b2,b3⟩:=jA S (by omega);refine wj ⟨_,rfl,_,rfl,_,rfl,a,p,t,ws,l,ls,_,rfl,s2 _ _ ha,hT.same s2,hF.sp,s2 _ _ hp,et,b1,b2,b3,λr hr'=>⟨_,rfl,?_⟩⟩;cases r with
  |false =>
   refine cI ?_;have hj':j<207:=Nat.lt_of_not_le λz=>Bool.noConfusion (hr'.mpr (hF.far hl S z))
   refine⟨λσ'' H''=>∃n',n'<207-j/\∃(t:Addr) (j:Nat),σ''=[some (.ref a),some (.ref p),some (.int more),some (.ref t),none]/\Same H H''/\H t=none/\ST H'' t (itG l j)/\j<=207/\207-j=n',λ_ _ h=>h,?_⟩;refine cQ ⟨_,rfl,_,rfl,t,p,l,_,j,rfl,et,s2 _ _ hp,hk,S,by omega,λt' H' s' ht' et'=>?_⟩;exact⟨207-(j+1),by omega,t',j+1,rfl,s2.trans s',s2.free ht',et',by omega,rfl⟩
  |true =>
   refine cP ?_;have A0:cO ls l (itG l j):=hr'.mp rfl;have em:((more.toNat:Nat):Int)=more:=Ht m0;refine⟨_,rfl,more.toNat,by rw[em],by omega,by omega,r9 (lo:=0) (n:=more.toNat) (λi σ' H'=>∃(t:Addr) (z:Option V),σ'=[some (.ref a),some (.ref p),some (.int more),some (.ref t),z]/\Same H H'/\H t=none/\ST H' t (itG l (j+i))/\cO ls l (itG l (j+i))) ⟨t,none,rfl,s2,ht,et,A0⟩ ?_ ?_⟩
   ·rintro i σ' H3 hi ⟨t,z,rfl,s3,ht,et,hA⟩;refine cQ ⟨_,rfl,_,rfl,t,p,l,_,j+i,rfl,et,s3 _ _ hp,hk,f6 hk _,by omega,λt' H' s' ht' et'=>?_⟩;exact⟨t',_,rfl,s3.trans s',s3.free ht',et',hF.half hl (f6 hk _) hA⟩
   ·rintro σ' H3 ⟨t,z,rfl,s3,ht,et,hA⟩;exact⟨_,rfl,k t H3 _ _ s3 ht et (f6 hk _) hA (by omega)⟩
structure RwS(xs:List Int):Prop where
 tr:Tr xs
 ne:xs≠[]
 b:AllB 91260 xs
 l:xs.length<=7
theorem u9{Qd ys:List Int}{k:Nat}:sm Qd ys (k+(ys.length-1)) k=0:=fC λi hi=>by unfold tm;rw[if_pos (by omega),aN (l:=ys) (by omega),Fy]
theorem lW{xs ys:List Int}(hx:RwS xs)(hy:RwS ys):aW xs ys<=7/\AllB 730087 (aH xs ys)/\AllB 730087 (aj xs ys)/\Bits 638821 (aF xs ys):=by
 have n7:aW xs ys<=7:=by unfold aW;have:=hx.l;have:=Fm.mpr hy.ne;omega
 obtain⟨d1,d2⟩:=lX hx.b hy.b (aW xs ys);have mm:91260+aW xs ys*(91260+1)<=730087:=by have:=Gp (91260+1) n7;omega
 refine⟨n7,AllB.mono d1 mm,(AllB.trim d2).mono mm,?_⟩;have:=ft (ge (hy.b.cf (ys.length-1))) (aW xs ys);refine Bits.mono this ?_;have:=G6 91260 n7;omega
def yP(H:Hp)(Q:VK)(xs ys:List Int):Prop:=∀(t q r:Addr) (H':Hp),Same H H'->H t=none->H q=none->H r=none->H' t=some (.tup [.int (aF xs ys),.ref q,.ref r])->H' q=some (.lst ((aH xs ys).map V.int))->H' r=some (.lst ((aj xs ys).map V.int))->Q (.ref t) H'
def oJ:Sp:=λvs H Q _=>∃(a b:Addr) (xs ys:List Int),vs=[.ref a,.ref b]/\H a=some (.lst (xs.map V.int))/\H b=some (.lst (ys.map V.int))/\RwS xs/\RwS ys/\ys.length<=xs.length/\yP H Q xs ys
theorem yh(F:Fun K "_law_divided" "_law_divided" ip f fd)(T:Txt K mg)(hNS:base.NoSeer)(hTr:P.given.tree=none)(nj:Cal P w K mg base 1 "_law_trim" ["_law_row"] (gq K) Bc A2):FnOk P w K mg base CX0 33 f fd ["_law_kp","_law_kq"] oJ:=by
 obtain⟨jj,iJ,iP,je⟩:=nj;refine F.ok sc__law_divided (λvs H Q E h=>?_) (λcdv A outer s H vs Q E hr h=>?_)
 ·obtain⟨a,b,xs,ys,rfl,_⟩:=h;rfl
 ·obtain⟨a,b,xs,ys,rfl,hA,hB,rx,ry,hle,k⟩:=h;have hdp:(A.deeper (PyProof.Rows.envOfC (Str.ofString "_law_divided") (ax ip) s.heap.objs.size f cdv)).depth+100<recursionLimit:=by have:=hr.dp;omega
  have big:=sizeLine_eq;have hy:=ry.ne;have hyl:=Fm.mpr hy;have hxl:=rx.l;obtain⟨n7,bQ,bR,bF⟩:=lW rx ry;have hlast:=Cv hy;have l1:(xs.map V.int).length=xs.length:=Fk _;have l2:(ys.map V.int).length=ys.length:=Fk _;have hdn:((xs.map V.int).length:Int)-((ys.map V.int).length:Int)+1=(aW xs ys:Int):=by unfold aW;omega
  have eM:aW xs ys=xs.length-ys.length+1:=by unfold aW;omega
  have lQ:=gL (a:=xs) hy;have lR:(aj xs ys).length<ys.length:=dg hy;have eqn:=λn=>dN (a:=xs) hy n
  have ef:((cf ys (ys.length-1)).natAbs:Int)^aW xs ys=aF xs ys:=rfl;have hlc:cf ys (ys.length-1)≠0:=ry.tr (ys.length-1) (by omega);generalize hM:aW xs ys=M at n7 hdn eM lQ ef
  refine⟨_,(ag (aq (i:=2) sc__law_divided.nd rfl (Or.inr rfl) ac)
   (ag (ca PassesOwn.never rfl (gA rfl T.range_ (aa (af aZ (af aV (aP (aY (K:=K) rfl) (by rfl) T.len_ PySem.boot_len (aa (pv 0) ae)) (aP (aY (K:=K) rfl) (by rfl) T.len_ PySem.boot_len (aa (pv 1) ae))) ac) ae)) (aS (i:=3) sc__law_divided.nd rfl (Or.inl rfl))
     (ak (aq (i:=2) sc__law_divided.nd rfl (Or.inr rfl) (af aJ (pv 2) (aP gP (by rfl) T.abs_ PyProof.Rows.boot_abs (aa (al (bj (K:=K) rfl) (pv 1) (cx cp ac) (λ_ _=>rfl)) ae))))))
   (ag (kB (i:=4) sc__law_divided.nd rfl (Or.inl rfl) (own:=["_law_one"]) (fr:=["_law_factor"]) (js:=[2]) (by walk_at "comp_ok") rfl (cm (K:=K) rfl (pv 0)) (λ_ _ _ _=>(aS (i:=0) (show List.Nodup (["_law_one","_law_factor"]:List Str)from by decide +kernel) rfl (Or.inl rfl))) (λ_ _ _ _=>(af aJ (pv 1) (pv 0))) (by rfl))
   (ag (kB (i:=5) sc__law_divided.nd rfl (Or.inl rfl) (own:=["_law_k"]) (fr:=[]) (js:=[]) (by walk_at "comp_ok") rfl (gA rfl T.range_ (aa (af aZ (af aV (aP (aY (K:=K) rfl) (by rfl) T.len_ PySem.boot_len (aa (pv 0) ae)) (aP (aY (K:=K) rfl) (by rfl) T.len_ PySem.boot_len (aa (pv 1) ae))) ac) ae)) (λ_ _ _ _=>(aS (i:=0) (show List.Nodup (["_law_k"]:List Str)from by decide +kernel) rfl (Or.inl rfl))) (λ_ _ _ _=>ac) (by rfl))
   (ag (ca PassesOwn.never rfl (wV rfl T.reversed_ rfl T.range_ (aa (aP (aY (K:=K) rfl) (by rfl) T.len_ PySem.boot_len (aa (pv 5) ae)) ae)) (aS (i:=3) sc__law_divided.nd rfl (Or.inl rfl))
     (ag (cr (af (xk hNS hTr hdp rfl rfl rfl rfl rfl) (al (bj (K:=K) rfl) (pv 4) (af aV (af aZ (pv 3) (aP (aY (K:=K) rfl) (by rfl) T.len_ PySem.boot_len (aa (pv 1) ae))) ac) (λ_ _=>rfl)) (al (bj (K:=K) rfl) (pv 1) (cx cp ac) (λ_ _=>rfl))) (cw (pv 5) (pv 3) cq))
       (ak (ca PassesOwn.never rfl (eR rfl T.enumerate_ (aa (pv 1) ae)) (fR rfl (cv (aS (i:=6) sc__law_divided.nd rfl (Or.inl rfl)) (cv (aS (i:=7) sc__law_divided.nd rfl (Or.inl rfl)) eT)))
         (ak (cr (af aV (al (bj (K:=K) rfl) (pv 4) (af aZ (pv 3) (pv 6)) (λ_ _=>rfl)) (af aJ (al (bj (K:=K) rfl) (pv 5) (pv 3) (λ_ _=>rfl)) (pv 7))) (cw (pv 4) (af aZ (pv 3) (pv 6)) cq)))))))
   (ak (aD (b5 (aa (pv 2) (aa (av jj (hr.mono) rfl iJ iP je .nil au (aa (pv 5) ae)) (aa (av jj (hr.mono) rfl iJ iP je .nil au (aa (pv 4) ae)) ae))))))))))),?_⟩
  refine aE ?_;refine⟨_,rfl,a,_,rfl,.inl (SqL.of hA),_,rfl,b,_,rfl,.inl (SqL.of hB),_,_,rfl,rfl,_,_,rfl,rfl,(M:Int),congrArg (λz:Int=>[V.int z]) hdn,by omega,by omega,r9 (lo:=0) (n:=M) (λi σ' H'=>∃z3:Option V,σ'=[some (.ref a),some (.ref b),some (.int (((cf ys (ys.length-1)).natAbs:Int)^i)),z3,none,none,none,none]/\H=H') ⟨none,rfl,rfl⟩ ?_ ?_⟩
  ·rintro i σ' H' hi ⟨z3,rfl,rfl⟩;have bp:=ft (ge (ry.b.cf (ys.length-1))) i;have mi:91260*i+1<=1000000:=by have:=G6 91260 (show i<=7 by omega);omega
   refine cQ ⟨_,rfl,_,rfl,_,rfl,b,_,_,_,rfl,rfl,SqL.of hB,hlast,_,rfl,_,_,rfl,rfl,⟨bp.mono mi,?_⟩,?_⟩
   ·rw[dl];exact(ge (ry.b.cf (ys.length-1))).mono
   ·refine⟨some (.int (0+(i:Int))),?_,rfl⟩;rw[Gg,<- dl];rfl
  rintro σ' H' ⟨z3,rfl,rfl⟩;rw[ef];refine⟨_,rfl,a,rfl,⟨_,SqL.of hA⟩,fh (K:=K) (a:=a) (xs:=xs.map V.int) (λj ms σ' H'=>∃z0:Option V,σ'=[z0,some (.int (aF xs ys))]/\ms=(scL (aF xs ys) (xs.take j)).map V.int/\H=H') (by rw[Fk];omega) ⟨none,rfl,rfl,rfl⟩ ?_ ?_ ?_⟩
  ·rintro j ms σ' H' _ ⟨z0,rfl,rfl,rfl⟩;exact⟨SqL.of hA,by rw[Fk,b6,FE];exact G8 _ _⟩
  ·rintro j v ms σ' H' hj ⟨z0,rfl,rfl,rfl⟩;obtain⟨c,_,rfl,hmc,et⟩:=cX hj;refine⟨_,rfl,_,rfl,_,_,rfl,rfl,⟨bF.mono,(rx.b c hmc).mono⟩,_,rfl,?_,rfl⟩;rw[et];unfold scL;rw[FD,FD];rfl
  rintro ms σ' H' pr ⟨z0,rfl,rfl,rfl⟩ hpr;rw[Fk,FS];have s1:=Same.upd_new (o:=.lst ((scL (aF xs ys) xs).map V.int)) hpr;have e1:upd H pr (.lst ((scL (aF xs ys) xs).map V.int)) pr=some (.lst ((scL (aF xs ys) xs).map V.int)):=am;generalize upd H pr (.lst ((scL (aF xs ys) xs).map V.int))=H1 at s1 e1 ⊢
  refine pI ?_;refine⟨_,rfl,a,_,rfl,.inl (SqL.of (s1 _ _ hA)),_,rfl,b,_,rfl,.inl (SqL.of (s1 _ _ hB)),_,_,rfl,rfl,_,_,rfl,rfl,(M:Int),congrArg (λz:Int=>[V.int z]) hdn,by omega,by omega,jb (lo:=0) (n:=M) (λi ys' σ' H'=>∃z0:Option V,σ'=[z0]/\ys'=(List.replicate i (0:Int)).map V.int/\H1=H') (by omega) ⟨none,rfl,rfl,rfl⟩ ?_ ?_ ?_⟩
  ·rintro i ys' σ' H' hi ⟨z0,rfl,rfl,rfl⟩;simp
  ·rintro i ys' σ' H' hi ⟨z0,rfl,rfl,rfl⟩;refine⟨_,rfl,?_,rfl⟩;rw[List.replicate_succ',FD];rfl
  rintro ys' σ' H' pq ⟨z0,rfl,rfl,rfl⟩ hpq;have s2:=Same.upd_new (o:=.lst ((List.replicate M (0:Int)).map V.int)) hpq;have e2:upd H1 pq (.lst ((List.replicate M (0:Int)).map V.int)) pq=some (.lst ((List.replicate M (0:Int)).map V.int)):=am;have nrq:pr≠pq:=aK e1 hpq;have fq:H pq=none:=s1.free hpq;have e12:=s2 _ _ e1;generalize upd H1 pq (.lst ((List.replicate M (0:Int)).map V.int))=H2 at s2 e2 e12 ⊢
  refine pI ?_;have nbr:b≠pr:=λz=>by rw[z]at hB;rw[hB]at hpr;cases hpr
  have nbq:b≠pq:=λz=>by rw[z]at hB;rw[hB]at fq;cases fq
  refine⟨_,rfl,pq,_,rfl,.inl (SqL.of e2),_,rfl,by rw[Fk,Gr];omega,by rw[Fk,Gr];omega,?_⟩;rw[Fk,Gr,Int.toNat_natCast]
  refine AW (λi σ' H'=>∃(L G:List Int) (z3 z6 z7:Option V),σ'=[some (.ref a),some (.ref b),some (.int (aF xs ys)),z3,some (.ref pr),some (.ref pq),z6,z7]/\Same H H'/\H' pr=some (.lst (L.map V.int))/\H' pq=some (.lst (G.map V.int))/\L.length=xs.length/\G.length=M/\(∀n,cf L n=sm (aH xs ys) ys n (M-i)+cf (aj xs ys) n)/\(∀n,M<=n+i->cf G n=cf (aH xs ys) n))
   ⟨scL (aF xs ys) xs,List.replicate M 0,_,_,_,rfl,s1.trans s2,e12,e2,b6 _ _,Gr,λn=>by rw[bh,eqn n,GO,<- lQ];rfl,λn hn=>by rw[aN (l:=aH xs ys) (by omega),aN (by rw[Gr];omega)]⟩ ?_ ?_
  ·rintro i σ' H3 hi ⟨L,G,z3,z6,z7,rfl,s3,hl,hg,hLl,hGl,hLc,hGc⟩;have hB3:=s3 _ _ hB;have ek:((M:Int)-1)+(i:Int) * -1=((M-1-i:Nat):Int):=by omega
   dsimp only
   rw[ek];obtain⟨kk,hk⟩:∃kk,M-1-i=kk:=⟨_,rfl⟩;rw[hk];have hkG:kk<G.length:=by omega
   have hkL:kk+ys.length-1<L.length:=by omega
   have ekl:(kk:Int)+((ys.map V.int).length:Int)-1=((kk+ys.length-1:Nat):Int):=by rw[Fk];omega
   have eMi:M-i=kk+1:=by omega
   obtain⟨tp,etp⟩:∃tp,cf (aH xs ys) kk=tp:=⟨_,rfl⟩;have btp:Bits 730087 tp:=by rw[<- etp];exact bQ.cf kk
   have etop:Int.fdiv (cf L (kk+ys.length-1)) (cf ys (ys.length-1))=tp:=by
    have en:kk+ys.length-1=kk+(ys.length-1):=by omega
    have e5:cf (aj xs ys) (kk+(ys.length-1))=0:=aN (by omega);have e6:sm (aH xs ys) ys (kk+(ys.length-1)) (kk+1)=sm (aH xs ys) ys (kk+(ys.length-1)) kk+tm (aH xs ys) ys (kk+(ys.length-1)) kk:=rfl;rw[hLc,eMi,en,e5,e6,u9,Gv,Gf];unfold tm;rw[if_pos (by omega),show kk+(ys.length-1)-kk=ys.length-1 by omega,etp];exact Int.mul_fdiv_cancel _ hlc
   refine ky ⟨_,rfl,_,rfl,_,rfl,b,_,rfl,.inl (SqL.of hB3),_,_,rfl,rfl,_,_,rfl,rfl,pr,_,_,_,rfl,rfl,SqL.of hl,fu ekl hkL,_,rfl,_,rfl,b,_,_,_,rfl,rfl,SqL.of hB3,hlast,_,_,rfl,rfl,hlc,_,rfl,_,rfl,pq,_,_,kk,rfl,rfl,hg,db rfl (by rw[Fk];exact hkG),?_⟩;refine fM (H2:=upd H3 pq (.lst ((G.set kk tp).map V.int))) ?_ ?_
   ·show upd H3 pq (.lst ((G.map V.int).set kk (.int (Int.fdiv (cf L (kk+ys.length-1)) (cf ys (ys.length-1))))))=_;rw[etop,gG]
   have e4:upd H3 pq (.lst ((G.set kk tp).map V.int)) pq=some (.lst ((G.set kk tp).map V.int)):=am;have hl4:upd H3 pq (.lst ((G.set kk tp).map V.int)) pr=some (.lst (L.map V.int)):=by rw[upd_ne nrq];exact hl
   have hB4:upd H3 pq (.lst ((G.set kk tp).map V.int)) b=some (.lst (ys.map V.int)):=by rw[upd_ne nbq];exact hB3
   have s4:Same H (upd H3 pq (.lst ((G.set kk tp).map V.int))):=bW s3 fq;have hcG:∀n,cf (G.set kk tp) n=if n=kk then tp else cf G n:=λn=>fj hkG
   have hG2l:(G.set kk tp).length=M:=by rw[Ga];exact hGl
   generalize G.set kk tp=G2 at e4 hl4 hB4 s4 hcG hG2l ⊢
   generalize upd H3 pq (.lst (G2.map V.int))=H4 at e4 hl4 hB4 s4 ⊢
   refine⟨_,rfl,b,rfl,⟨_,SqL.of hB4⟩,gJ (K:=K) (a:=b) (xs:=ys.map V.int) (λj σ' H'=>∃(acc:List Int) (z6 z7:Option V),σ'=[some (.ref a),some (.ref b),some (.int (aF xs ys)),some (.int (kk:Int)),some (.ref pr),some (.ref pq),z6,z7]/\SameB pr H4 H'/\H' pr=some (.lst (acc.map V.int))/\acc.length=L.length/\∀n,n<acc.length->cf acc n=cf L n-(if kk<=n/\n-kk<j then tp*cf ys (n-kk)else 0))
    ⟨L,z6,z7,rfl,SameB.refl _ _,hl4,rfl,λn _=>by rw[if_neg (by omega)];omega⟩ ?_ ?_ ?_⟩
   ·rintro j σ' H' _ ⟨acc,z6,z7,rfl,sb,_⟩;exact SqL.of (sb _ _ nbr hB4)
   ·rintro j v σ' H' q' hj ⟨acc,z6,z7,rfl,sb,hpa,hal,hac⟩ hq
    have hjl:j<ys.length:=by apply Classical.byContradiction;intro hn;rw[List.getElem?_eq_none_iff.mpr (by rw[Fk];omega)]at hj;cases hj
    rw[List.getElem?_map,de hjl]at hj;obtain rfl:=Option.some.inj hj;refine⟨q',_,rfl,SqT.of am,rfl,_,_,rfl,_,_,rfl,rfl,?_⟩;have nqp:pr≠q':=aK hpa hq;have hpa':upd H' q' (.tup [.int j,.int (cf ys j)]) pr=some (.lst (acc.map V.int)):=by rw[upd_ne nqp];exact hpa
    have hG5:H' pq=some (.lst (G2.map V.int)):=sb _ _ (Ne.symm nrq) e4;have nq3:pq≠q':=aK hG5 hq;have hG6:upd H' q' (.tup [.int j,.int (cf ys j)]) pq=some (.lst (G2.map V.int)):=by rw[upd_ne nq3];exact hG5
    have ekj:(kk:Int)+(j:Int)=((kk+j:Nat):Int):=by omega
    have hkj:kk+j<acc.length:=by omega
    have etp2:cf G2 kk=tp:=by rw[hcG,if_pos rfl]
    refine⟨_,rfl,_,rfl,_,rfl,_,_,rfl,rfl,pr,_,_,_,rfl,rfl,SqL.of hpa',fu ekj hkj,_,rfl,_,rfl,pq,_,_,_,rfl,rfl,SqL.of hG6,fu (l:=G2) (j:=kk) rfl (by omega),_,rfl,_,_,rfl,rfl,?_⟩;rw[etp2];refine⟨⟨btp.mono,(ry.b.cf j).mono⟩,_,_,rfl,rfl,_,rfl,_,rfl,_,rfl,_,_,rfl,rfl,pr,_,_,kk+j,rfl,rfl,hpa',db ekj (by rw[Fk];exact hkj),?_⟩;refine⟨acc.set (kk+j) (cf acc (kk+j)-tp*cf ys j),_,_,rfl,(sb.then_new hq).then_upd,by rw[am,gG],by rw[Ga];exact hal,λn hn=>?_⟩;rw[Ga]at hn;rw[fj hkj];by_cases z:n=kk+j
    ·rw[if_pos z,z,hac (kk+j) hkj,if_neg (by omega),if_pos (by omega)];have:kk+j-kk=j:=by omega
     rw[this];omega
    ·rw[if_neg z,hac n hn];by_cases z2:kk<=n/\n-kk<j
     ·rw[if_pos z2,if_pos (by omega)]
     ·rw[if_neg z2,if_neg (by omega)]
   ·rintro σ' H6 ⟨acc,z6,z7,rfl,sb,hpa,hal,hac⟩;rw[Fk]at hac;have s6:Same H H6:=λc o e=>sb c o (λz=>by rw[z]at e;rw[e]at hpr;cases hpr) (s4 _ _ e)
    have hG7:H6 pq=some (.lst (G2.map V.int)):=sb _ _ (Ne.symm nrq) e4
    have hcA:∀n,cf acc n=cf L n-(if kk<=n then tp*cf ys (n-kk)else 0):=λn=>by
     by_cases hn:n<acc.length
     ·rw[hac n hn];by_cases z:kk<=n
      ·rw[if_pos z];by_cases z2:n-kk<ys.length
       ·rw[if_pos ⟨z,z2⟩]
       ·rw[if_neg (by omega),aN (l:=ys) (by omega),Fy]
      ·rw[if_neg z,if_neg (by omega)]
     ·rw[aN (l:=acc) (by omega),aN (l:=L) (by omega)];split
      ·rw[aN (l:=ys) (by omega),Fy];rfl
      ·rfl
    refine⟨acc,G2,_,_,_,rfl,s6,hpa,hG7,by omega,hG2l,λn=>?_,λn hn=>?_⟩
    ·have e6:sm (aH xs ys) ys n (kk+1)=sm (aH xs ys) ys n kk+tm (aH xs ys) ys n kk:=rfl;rw[hcA,hLc,eMi,e6,show M-(i+1)=kk by omega];unfold tm;rw[etp];omega
    ·rw[hcG];by_cases z:n=kk
     ·rw[if_pos z,z,etp]
     ·rw[if_neg z];exact hGc n (by omega)
  ·rintro σ' H3 ⟨L,G,z3,z6,z7,rfl,s3,hl,hg,hLl,hGl,hLc,hGc⟩
   have eG:trim G=aH xs ys:=by
    refine dM (bZ _) (sI hy rx.tr ry.tr) λn=>?_
    rw[di];exact hGc n (by omega)
   have eL:trim L=aj xs ys:=by
    refine dM (bZ _) (bZ _) λn=>?_
    rw[di,hLc,Nat.sub_self];show(0:Int)+_=_;rw[Gv]
   refine⟨_,rfl,_,rfl,pq,G,rfl,SqL.of hg,λq H4 s4 hq e4=>?_⟩;rw[eG]at e4;refine⟨_,rfl,pr,L,rfl,SqL.of (s4 _ _ hl),λr H5 s5 hr5 e5=>?_⟩;rw[eL]at e5;refine⟨by show 3<=sizeLine;decide,λt ht=>?_⟩;have s6:=Same.upd_new (o:=.tup [.int (aF xs ys),.ref q,.ref r]) ht;exact k t q r _ (s3.trans (s4.trans (s5.trans s6))) ((s3.trans (s4.trans s5)).free ht) (s3.free hq) ((s3.trans s4).free hr5) am ((s5.trans s6) _ _ e4) (s6 _ _ e5)
theorem zC{a b:List Int}(ha:RwS a)(hb:RwS b):LkB (cU a b):=by
 have n7:aW a b<=7:=by unfold aW;have:=ha.l;have:=Fm.mpr hb.ne;omega
 obtain⟨d1,d2⟩:=lX ha.b hb.b (aW a b);have mm:91260+aW a b*(91260+1)<=91260+7*91261:=by have:=Gp (91260+1) n7;omega
 refine⟨?_,?_,?_,?_⟩
 ·have:=ft (ge (hb.b.cf (b.length-1))) (aW a b);refine Bits.mono this ?_;have:=G6 91260 n7;omega
 ·show Bits 900000 ((ai (aj a b):Nat):Int);have hr:AllB (91260+aW a b*(91260+1)) (aj a b):=AllB.trim d2;by_cases z:aj a b=[]
  ·rw[z];exact Bits.zero
  ·have t:Tr (aj a b):=bZ _;have h1:=Fm.mpr z;have h2:cf (aj a b) ((aj a b).length-1)≠0:=t _ (by omega);refine((hr.cf ((aj a b).length-1)).of_le (?_:(((ai (aj a b):Nat):Int)).natAbs<=_)).mono (by omega);rw[FQ];exact Nat.le_of_dvd (Gw.mpr h2) (dvd_cf.mp (Gx _) _)
 ·exact AllB.mono d1 (by omega)
 ·show(aH a b).length<=1000;rw[gL hb.ne];omega
theorem BR(l:List Int)(n k:Nat):cf (l.take n) k=if k<n then cf l k else 0:=by unfold cf;rw[List.getD_eq_getElem?_getD,List.getD_eq_getElem?_getD,List.getElem?_take];split<;>rfl
theorem va(kps:List Int):cj ((List.range kps.length).map λ(j:Nat)=>(j:Int)*cf kps j) (some 1) none=slopeL kps:=by
 refine cY ?_ λn hn=>?_
 ·unfold cj slopeL;rw[HT.sIx_none,show(some (1:Int))=some ((1:Nat):Int)from rfl,HT.sIx_nat];simp;omega
 ·unfold cj slopeL;rw[HT.sIx_none,show(some (1:Int))=some ((1:Nat):Int)from rfl,HT.sIx_nat]
  have hn':n<kps.length-1:=by
   unfold cj at hn
   rw[HT.sIx_none,show(some (1:Int))=some ((1:Nat):Int)from rfl,HT.sIx_nat]at hn;simp at hn
   omega
  rw[d7,if_pos hn',BR,Fk,FW];have hm:min 1 kps.length=1:=by omega
  rw[hm,if_pos (by omega)]
  have e3:cf (List.drop 1 ((List.range kps.length).map λ(j:Nat)=>(j:Int)*cf kps j)) n=cf ((List.range kps.length).map λ(j:Nat)=>(j:Int)*cf kps j) (n+1):=by unfold cf;simp[List.getD,List.getElem?_drop,Nat.add_comm]
  rw[e3,d7,if_pos (by omega)];show((n+1:Nat):Int)*_=_;rw[Int.natCast_add];rfl
structure PapR(kp:List Int)(r:List (List Int)):Prop where
 two:2<=r.length
 few:r.length<=100
 fst:r.getD 0 []=kp
 snd:r.getD 1 []=ah (slopeL kp)
 last:(r.getD (r.length-1) []).length=1
 step:∀k,k+2<r.length->r.getD (k+2) []=nxt (r.getD k []) (r.getD (k+1) [])
 rws:∀xs∈r,RwS xs
 tr:Tr kp
 b:AllB 1000 kp
 l:kp.length<=7
theorem PapR.at{kp:List Int}{r:List (List Int)}(R:PapR kp r){k:Nat}(h:k<r.length):RwS (r.getD k []):=by refine R.rws _ ?_;rw[List.getD_eq_getElem?_getD,List.getElem?_eq_getElem h];exact Gb _
theorem PapR.rwb{kp:List Int}{r:List (List Int)}(R:PapR kp r):RwB r:=λxs h=>⟨by have:=(R.rws xs h).l;omega,(R.rws xs h).b.mono⟩
theorem PapR.dec{kp:List Int}{r:List (List Int)}(R:PapR kp r):∀k,k+1<r.length->(r.getD (k+1) []).length<=(r.getD k []).length
 |0,_=>by rw[R.fst,R.snd];unfold ah;rw[Fk,hI];omega
 |k+1,h=>by rw[R.step k h];exact GI (iD (R.at (by omega)).ne)
theorem PapR.lnk{kp:List Int}{r:List (List Int)}(R:PapR kp r){k:Nat}(h:k+2<r.length):LnkF (r.getD k []) (r.getD (k+1) []) :=
 zz (R.at (by omega)).tr (R.at (by omega)).tr (R.at (by omega)).ne (by rw[<- R.step k h];exact(R.at h).ne)
theorem re{r:List (List Int)}{k:Nat}{x:Lnk}(h:(bi r)[k]?=some x):k+2<r.length/\x=cU (r.getD k []) (r.getD (k+1) []):=by
 unfold bi at h
 have hk:k<r.length-2:=by have:=(List.getElem?_eq_some_iff.mp h).1;rw[Fk,FW]at this;exact this
 rw[List.getElem?_map,List.getElem?_range hk]at h;exact⟨by omega,(Option.some.inj h).symm⟩
theorem PapR.hot{kp:List Int}{r:List (List Int)}(R:PapR kp r):HotP kp r (bi r):=by
 refine⟨R.two,?_,R.fst,R.snd,R.last,λk x hx=>?_⟩
 ·unfold bi;rw[Fk,FW];have:=R.two;omega
 ·obtain⟨hk,rfl⟩:=re hx;have L:=R.lnk hk;refine⟨L.f,L.g,?_⟩;rw[R.step k hk];exact L.sub (R.at (by omega)).tr
theorem PapR.lkb{kp:List Int}{r:List (List Int)}(R:PapR kp r):∀x∈bi r,LkB x:=λx hx=>by obtain⟨k,hk,rfl⟩:=Gu hx;obtain⟨h,e⟩:=re (List.getElem?_eq_getElem hk);rw[e];exact zC (R.at (by omega)) (R.at (by omega))
theorem n9:∀{r:List (List Int)},SRow r->(r.getD (r.length-1) []).length=1
 |_,.last _=>rfl
 |_,.two _=>rfl
 |_,.cons (a:=a) (b:=b) (c:=c) (r:=r) _ _ _ h=>by
  have:=n9 h;have e:(a::b::c::r).length-1=(b::c::r).length-1+1:=by simp
  rw[e,List.getD_cons_succ];exact this
theorem xa{kp:List Int}{S:List (Rat->Int)}(hp:Pln kp)(C:Cts kp S)(hl:kp.length<=7)(h2:2<=kp.length)(hb:AllB 500 kp):PapR kp (aO 9 kp (ah (slopeL kp)))/\Run 9 (ah kp) (ah (slopeL kp))/\ah kp=kp:=by
 have e:=wR hp;obtain⟨R1,R2,R3⟩:=wa hp.tr (hb.mono) hl;have tS:=gj hp.tr;have copS:=C.cop.shr hp.tr hp.ne tS;have lS:(ah (slopeL kp)).length=kp.length-1:=by unfold ah;rw[Fk,e8]
 have hs:ah (slopeL kp)≠[]:=λz=>by rw[z]at lS;simp at lS;omega
 rw[e]at R2 R3 copS;have st:=kv 8 kp (ah (slopeL kp)) (by omega) hp.tr hp.ne (cZ tS) copS;obtain⟨ch,f⟩:=pD 9 kp (ah (slopeL kp)) R2;obtain⟨f0,f1,f2,_⟩:=f hp.ne;obtain⟨f3,f4⟩:=f2 hs;refine⟨⟨f4,by have:=pC 9 kp (ah (slopeL kp));omega,f0,f3,n9 st,ch.step,λxs hx=>?_,hp.tr,hb.mono,hl⟩,R1,e⟩;obtain⟨g1,g2,g3⟩:=R3 xs hx;exact⟨g1,ch.ne xs hx,g2,g3⟩
theorem xY(F:Fun K "_law_shared" "_law_shared" j8 f fd)(T:Txt K mg)(ny:Cal P w K mg base 1 "_law_gcd" ["_law_a","_law_b"] sp2 Bj A8):FnOk P w K mg base CX0 2 f fd ["_law_kp"] (g7 K):=by
 obtain⟨m8,k9,lE,mO⟩:=ny;refine F.ok sc__law_shared (λvs H Q E h=>?_) (λcdv A outer s H vs Q E hr h=>?_)
 ·obtain⟨a,ns,rfl,_⟩:=h;rfl
 ·obtain⟨a,ns,rfl,hS,k⟩:=h
  refine⟨_,(ag (aq (i:=1) sc__law_shared.nd rfl (Or.inl rfl) ac)
   (ag (ca PassesOwn.never rfl (cm (K:=K) rfl (pv 0)) (aS (i:=2) sc__law_shared.nd rfl (Or.inl rfl))
     (ak (aq (i:=1) sc__law_shared.nd rfl (Or.inl rfl) (av m8 (hr.mono) rfl k9 lE mO .nil au (aa (pv 1) (aa (pv 2) ae))))))
   (ak (aD (pv 1))))),?_⟩
  refine aE ?_;refine⟨_,rfl,a,rfl,⟨_,hS⟩,dJ (K:=K) (a:=a) (xs:=ns.map V.int) (λi σ' H'=>∃z:Option V,σ'=[some (.ref a),some (.int (ai (ns.take i):Nat)),z]/\H=H') ⟨none,rfl,rfl⟩ (λi σ' H' _ ⟨z,_,e⟩=>by rw[<- e];exact hS) ?_ ?_⟩
  ·rintro i y σ' H' hi ⟨z,rfl,rfl⟩;obtain⟨n,e,rfl,_,et⟩:=cX hi;refine⟨_,rfl,_,rfl,_,_,rfl,?_⟩;refine⟨some (.int n),?_,rfl⟩;rw[et,lJ,FQ];rfl
  ·rintro σ' H' ⟨z,rfl,rfl⟩;refine⟨_,rfl,?_⟩;rw[Fk,FS];exact k
theorem yv{one other:List Int}(ho:other≠[])(hR:aj one other≠[]):(aj one other).map (λv=>0-v/(ai (aj one other):Int))=nxt one other:=by
 have tR:Tr (aj one other):=bZ _;have g:=gI tR hR;have er:rst one other=aj one other:=by unfold rst;rw[if_neg ho]
 have ex:nxt one other=ah (aT [] (aj one other)):=by unfold nxt;rw[er]
 have ts:Tr (aT [] (aj one other)):=by unfold aT;exact bZ _
 have ns:aT [] (aj one other)≠[]:=λz=>by have h1:=Fm.mpr hR;have h2:=tR ((aj one other).length-1) (by omega);have h3:=mr (aj one other) ((aj one other).length-1);rw[z,show cf [] ((aj one other).length-1)=0 from aN (Fn _)]at h3;omega
 obtain⟨_,t2,_,e2⟩:=eD ts ns;rw[rW]at e2;rw[ex]
 have key:∀k,(ai (aj one other):Int)*cf ((aj one other).map (λv=>0-v/(ai (aj one other):Int))) k = -cf (aj one other) k:=λk=>by
  by_cases hk:k<(aj one other).length
  ·rw[bO (by rw[Fk];exact hk),List.getElem_map,bO hk];have d:(ai (aj one other):Int)∣(aj one other)[k]:=fb (Gb hk);have:=Hx d;rw[Gz,Int.mul_neg,this]
  ·rw[aN (by rw[Fk];omega),aN (l:=aj one other) (by omega),Fy];rfl
 have eq:∀k,cf ((aj one other).map (λv=>0-v/(ai (aj one other):Int))) k=cf (ah (aT [] (aj one other))) k:=λk=>by have h1:=key k;have h2:=e2 k;rw[mr]at h2;rw[h2]at h1;exact G3 (by omega) h1
 refine dM (λn hn=>?_) t2 eq;rw[Fk]at hn;have h2:=tR n hn;have h3:=key n;intro z;rw[z,Fy]at h3;omega
def LkX(H:Hp)(l lk:Addr)(ps:List Addr)(xs:List Lnk):Prop:=ps.length=xs.length/\∀(i:Nat) (p:Addr) (x:Lnk),ps[i]?=some p->xs[i]?=some x->∃qa,H p=some (.tup [.int x.1,.ref qa,.int x.2.2])/\H qa=some (.lst (x.2.1.map V.int))/\qa≠l/\qa≠lk
theorem LkX.toH{H:Hp}{l lk:Addr}{ps:List Addr}{xs:List Lnk}(h:LkX H l lk ps xs):LkH H ps xs:=⟨h.1,λi p x a b=>let⟨qa,h1,h2,_⟩:=h.2 i p x a b;⟨qa,h1,h2⟩⟩
theorem LkX.same{H H':Hp}{l lk:Addr}{ps:List Addr}{xs:List Lnk}(h:LkX H l lk ps xs)(s:Same H H'):LkX H' l lk ps xs:=⟨h.1,λi p x a b=>let⟨qa,h1,h2,h3⟩:=h.2 i p x a b;⟨qa,s _ _ h1,s _ _ h2,h3⟩⟩
theorem LkX.upd_l{H:Hp}{l lk:Addr}{ps:List Addr}{xs:List Lnk}{vs:List V}{o:HO}(h:LkX H l lk ps xs)(hl:H l=some (.lst vs)):LkX (upd H l o) l lk ps xs:=⟨h.1,λi p x a b=>let⟨qa,h1,h2,h3,h4⟩:=h.2 i p x a b;⟨qa,by rw[upd_ne (λz=>by rw[z,hl]at h1;cases h1)];exact h1,by rw[upd_ne h3];exact h2,h3,h4⟩⟩
theorem LkX.upd_k{H:Hp}{l lk:Addr}{ps:List Addr}{xs:List Lnk}{vs:List V}{o:HO}(h:LkX H l lk ps xs)(hl:H lk=some (.lst vs)):LkX (upd H lk o) l lk ps xs:=⟨h.1,λi p x a b=>let⟨qa,h1,h2,h3,h4⟩:=h.2 i p x a b;⟨qa,by rw[upd_ne (λz=>by rw[z,hl]at h1;cases h1)];exact h1,by rw[upd_ne h4];exact h2,h3,h4⟩⟩
theorem LkX.snoc{H:Hp}{l lk:Addr}{ps:List Addr}{xs:List Lnk}{p qa:Addr}{x:Lnk}(h:LkX H l lk ps xs)(h1:H p=some (.tup [.int x.1,.ref qa,.int x.2.2]))(h2:H qa=some (.lst (x.2.1.map V.int)))(h3:qa≠l)(h4:qa≠lk):LkX H l lk (ps++[p]) (xs++[x]):=by
 refine⟨by rw[Fp,Fp,h.1];rfl,λi q y a b=>?_⟩;by_cases hi:i<ps.length
 ·rw[List.getElem?_append_left hi]at a;rw[List.getElem?_append_left (by rw[<- h.1];exact hi)]at b;exact h.2 i q y a b
 ·rw[List.getElem?_append_right (by omega)]at a;rw[List.getElem?_append_right (by rw[<- h.1];omega),<- h.1]at b;by_cases h0:i-ps.length=0
  ·rw[h0]at a b;obtain rfl:p=q:=by simpa using a
   obtain rfl:x=y:=by simpa using b
   exact⟨qa,h1,h2,h3,h4⟩
  ·rw[List.getElem?_eq_none_iff.mpr (by simp;omega)]at a;cases a
theorem iL{r:List (List Int)}{k:Nat}(h:k+2<r.length):(bi r)[k]?=some (cU (r.getD k []) (r.getD (k+1) [])):=by unfold bi;rw[List.getElem?_map,List.getElem?_range (by omega)];rfl
theorem jp{r:List (List Int)}{k:Nat}(h:k<r.length):r.take (k+1)=r.take k++[r.getD k []]:=by rw[Ge,List.getD_eq_getElem?_getD,List.getElem?_eq_getElem h];rfl
theorem rT{r:List (List Int)}{k n:Nat}(h:k<n):(r.take n).getD k []=r.getD k []:=by rw[List.getD_eq_getElem?_getD,List.getD_eq_getElem?_getD,List.getElem?_take,if_pos h]
def oB:Sp:=λvs H Q _=>∃(a:Addr) (kp:List Int) (r:List (List Int)),vs=[.ref a]/\H a=some (.lst (kp.map V.int))/\PapR kp r/\∀(t l lk:Addr) (ps ls:List Addr) (H':Hp),Same H H'->H' t=some (.tup [.ref l,.ref lk])->H' l=some (.lst (ps.map V.ref))->RwH H' ps r->H' lk=some (.lst (ls.map V.ref))->LkH H' ls (bi r)->Q (.ref t) H'
theorem x8(F:Fun K "_law_paper" "_law_paper" im f fd)(T:Txt K mg)(hNS:base.NoSeer)(hTr:P.given.tree=none)(nk:Cal P w K mg base 33 "_law_shrunk" ["_law_kp"] gt Be A3)(DN:Cal P w K mg base 33 "_law_divided" ["_law_kp","_law_kq"] oJ E9 Es)(DF:Cal P w K mg base 2 "_law_shared" ["_law_kp"] (g7 K) EY Ej):FnOk P w K mg base CX0 34 f fd ["_law_kp"] oB:=by
 obtain⟨mX,kW,lv,mJ⟩:=nk;obtain⟨uj,ra,rD,tW⟩:=DN;obtain⟨CZ,zn,Ah,Ck⟩:=DF;refine F.ok sc__law_paper (λvs H Q E h=>?_) (λcdv A outer s H vs Q E hr h=>?_)
 ·obtain⟨a,kp,r,rfl,_⟩:=h;rfl
 ·obtain⟨a,kp,r,rfl,hA,PR,k⟩:=h;have hdp:(A.deeper (PyProof.Rows.envOfC (Str.ofString "_law_paper") (ax im) s.heap.objs.size f cdv)).depth+100<recursionLimit:=by have:=hr.dp;omega
  have big:=sizeLine_eq;have r2:=PR.two;have r100:=PR.few;have kl:=PR.l;have hkl:(kp.map V.int).length=kp.length:=Fk _
  refine⟨_,(ag (aq (i:=1) sc__law_paper.nd rfl (Or.inl rfl) (bI (aa (dQ (fo (K:=K) rfl) (by rfl) T.list_ PyProof.Rows.boot_list (aa (pv 0) ae)) (aa (av mX (hr.mono) rfl kW lv mJ .nil au (aa (fS (fD (K:=K) rfl) (c7 (own:=["_law_k","_law_one"]) (fr:=[]) (js:=[]) (by walk_at "comp_ok") rfl (eR rfl T.enumerate_ (aa (pv 0) ae)) (λ_ _ _ _=>(qm (K:=K) (n:=2) rfl rfl (cv (aS (i:=0) (show List.Nodup (["_law_k","_law_one"]:List Str)from by decide +kernel) rfl (Or.inl rfl) (Or.inr rfl)) (cv (aS (i:=1) (show List.Nodup (["_law_k","_law_one"]:List Str)from by decide +kernel) rfl (Or.inl rfl) (Or.inr rfl)) eT rfl) rfl) rfl rfl)) (λ_ _ _ _=>(af aJ (pv 0) (pv 1)))) (fO ac) fQ) ae)) ae))))
   (ag (aq (i:=2) sc__law_paper.nd rfl (Or.inl rfl) (bI ae))
   (ag (aq (i:=3) sc__law_paper.nd rfl (Or.inl rfl) (av uj (hr.mono) rfl ra rD tW .nil au (aa (al (bj (K:=K) rfl) (pv 1) ac (λ_ _=>rfl)) (aa (al (bj (K:=K) rfl) (pv 1) ac (λ_ _=>rfl)) ae))))
   (ag (eJ PassesOwn.never (aC cT (aP (aY (K:=K) rfl) (by rfl) T.len_ PySem.boot_len (aa (al (aw (K:=K) rfl) (pv 3) ac (λ_ _=>rfl)) ae)) ac (ay _))
     (ag (aq (i:=4) sc__law_paper.nd rfl (Or.inr rfl) (av CZ (hr.mono) rfl zn Ah Ck .nil au (aa (al (aw (K:=K) rfl) (pv 3) ac (λ_ _=>rfl)) ae)))
       (ag (dA (dB PySem.F.plainAttrs_list PySem.F.slot_list_append PySem.F.type_list_append eV (pv 2) (aa (b5 (aa (al (aw (K:=K) rfl) (pv 3) ac (λ_ _=>rfl)) (aa (al (aw (K:=K) rfl) (pv 3) ac (λ_ _=>rfl)) (aa (pv 4) ae)))) ae)))
       (ag (dA (dB PySem.F.plainAttrs_list PySem.F.slot_list_append PySem.F.type_list_append eV (pv 1) (aa (c7 (own:=["_law_one"]) (fr:=["_law_divisor"]) (js:=[4]) (by walk_at "comp_ok") rfl (cm (K:=K) rfl (al (aw (K:=K) rfl) (pv 3) ac (λ_ _=>rfl))) (λ_ _ _ _=>(aS (i:=0) (show List.Nodup (["_law_one","_law_divisor"]:List Str)from by decide +kernel) rfl (Or.inl rfl))) (λ_ _ _ _=>(af aV ac (af (kF hNS hTr hdp rfl rfl rfl rfl rfl) (pv 0) (pv 1))))) ae)))
       (ak (aq (i:=3) sc__law_paper.nd rfl (Or.inl rfl) (av uj (hr.mono) rfl ra rD tW .nil au (aa (al (bj (K:=K) rfl) (pv 1) (cx cp ac) (λ_ _=>rfl)) (aa (al (bj (K:=K) rfl) (pv 1) (cx cp ac) (λ_ _=>rfl)) ae)))))))))
   (ak (aD (b5 (aa (pv 1) (aa (pv 2) ae))))))))),?_⟩
  refine aE ⟨_,rfl,a,_,rfl,.inl (SqL.of hA),λp0 hp0=>?_⟩;have s0:=Same.upd_new (o:=.lst (kp.map V.int)) hp0;have e0:upd H p0 (.lst (kp.map V.int)) p0=some (.lst (kp.map V.int)):=am;generalize upd H p0 (.lst (kp.map V.int))=H0 at s0 e0 ⊢
  have hA0:=s0 _ _ hA;refine⟨_,rfl,a,rfl,⟨_,SqL.of hA0⟩,sW (K:=K) (a:=a) (xs:=kp.map V.int) (λi ys σ' H'=>∃z y:Option V,σ'=[z,y]/\ys=((List.range i).map λ(j:Nat)=>(j:Int)*cf kp j).map V.int/\Same H0 H') (by rw[hkl];omega) ⟨none,none,rfl,rfl,λ_ _ e=>e⟩ ?_ ?_ ?_⟩
  ·rintro i ys σ' H' _ ⟨z,y,rfl,rfl,sm⟩;exact⟨SqL.of (sm _ _ hA0),by simp⟩
  ·rintro i v ys σ' H' q hi ⟨z,y,rfl,rfl,sm⟩ hq;obtain⟨c,ec,rfl,hcm,_⟩:=cX hi;have hc:cf kp i=c:=tE ec;have hil:i<kp.length:=(List.getElem?_eq_some_iff.mp ec).1;refine⟨q,_,rfl,SqT.of am,rfl,_,_,rfl,_,_,rfl,rfl,?_⟩;refine⟨_,rfl,_,rfl,_,_,rfl,rfl,⟨bG (by omega) (by decide),(PR.b c hcm).mono⟩,_,_,rfl,?_,sm.then_new hq⟩;rw[List.range_succ,FD,FD,<- hc];rfl
  rintro ys σ' H1 q1 ⟨z,y,rfl,rfl,s1⟩ hq1;have t1:=s1.then_new (o:=.lst (((List.range (kp.map V.int).length).map λ(j:Nat)=>(j:Int)*cf kp j).map V.int)) hq1;refine⟨1,rfl,q1,_,rfl,SqL.of am,λq2 hq2=>?_⟩;rw[sR,hkl,va];rw[hkl]at t1 hq2;have t2:=t1.then_new (o:=.lst ((slopeL kp).map V.int)) hq2;have e2:upd (upd H1 q1 (.lst (((List.range kp.length).map λ(j:Nat)=>(j:Int)*cf kp j).map V.int))) q2 (.lst ((slopeL kp).map V.int)) q2=some (.lst ((slopeL kp).map V.int)):=am;generalize upd (upd H1 q1 (.lst (((List.range kp.length).map λ(j:Nat)=>(j:Int)*cf kp j).map V.int))) q2 (.lst ((slopeL kp).map V.int))=H2 at t2 e2 ⊢
  refine⟨q2,_,rfl,e2,jo PR.tr,by rw[hI];omega,λq3 H3 s3 hq3 e3=>?_⟩;have t3:=t2.trans s3;have e03:=t3 _ _ e0;refine⟨by show 2<=sizeLine;decide,λl hl=>?_⟩;have t4:=t3.then_new (o:=.lst [.ref p0,.ref q3]) hl;have u4:=Same.upd_new (o:=.lst [.ref p0,.ref q3]) hl;have el:upd H3 l (.lst [.ref p0,.ref q3]) l=some (.lst ([p0,q3].map V.ref)):=am;have e04:=u4 _ _ e03;have e34:=u4 _ _ e3;have n0l:p0≠l:=aK e03 hl;have n3l:q3≠l:=aK e3 hl;have fl:H l=none:=(s0.trans t3).free hl;show br _ _ _ _ (upd H3 l (.lst [.ref p0,.ref q3]));generalize upd H3 l (.lst [.ref p0,.ref q3])=H4 at t4 u4 el e04 e34 ⊢
  refine aE ⟨Fn _,λlk hlk=>?_⟩;have u5:=Same.upd_new (o:=.lst []) hlk;have ek:upd H4 lk (.lst []) lk=some (.lst (([]:List Addr).map V.ref)):=am;have el5:=u5 _ _ el;have e05:=u5 _ _ e04;have e35:=u5 _ _ e34;have n0k:p0≠lk:=aK e04 hlk;have n3k:q3≠lk:=aK e34 hlk;have nlk:l≠lk:=aK el hlk;have t5:=s0.trans (t4.trans u5);have fk:H lk=none:=(s0.trans t4).free hlk;show br _ _ _ _ (upd H4 lk (.lst []));generalize upd H4 lk (.lst [])=H5 at u5 ek el5 e05 e35 t5 ⊢
  have RS0:=PR.at (show 0<r.length by omega);have RS1:=PR.at (show 1<r.length by omega);have e05':H5 p0=some (.lst ((r.getD 0 []).map V.int)):=by rw[PR.fst];exact e05
  have e35':H5 q3=some (.lst ((r.getD 1 []).map V.int)):=by rw[PR.snd];exact e35
  refine aE ⟨_,rfl,l,_,_,_,rfl,rfl,SqL.of el5,rfl,_,rfl,l,_,_,_,rfl,rfl,SqL.of el5,rfl,p0,q3,_,_,rfl,e05',e35',RS0,RS1,PR.dec 0 (by omega),λt q rr H6 s6 ht hq hrr et eq err=>?_⟩;refine⟨λm σ' H'=>∃(i:Nat) (t q rr:Addr) (ps ls:List Addr) (z4:Option V),σ'=[some (.ref a),some (.ref l),some (.ref lk),some (.ref t),z4]/\i+2<=r.length/\r.length-(i+2)=m/\Same H H'/\H' l=some (.lst (ps.map V.ref))/\RwH H' ps (r.take (i+2))/\(∀p∈ps,p≠l/\p≠lk)/\H' lk=some (.lst (ls.map V.ref))/\LkX H' l lk ls ((bi r).take i)/\H' t=some (.tup [.int (aF (r.getD i []) (r.getD (i+1) [])),.ref q,.ref rr])/\H' q=some (.lst ((aH (r.getD i []) (r.getD (i+1) [])).map V.int))/\H' rr=some (.lst ((aj (r.getD i []) (r.getD (i+1) [])).map V.int))/\q≠l/\q≠lk/\rr≠l/\rr≠lk,⟨_,0,t,q,rr,[p0,q3],[],none,rfl,r2,rfl,t5.trans s6,s6 _ _ el5,?_,?_,s6 _ _ ek,?_,et,eq,err,?_,?_,?_,?_⟩,?_⟩
  ·have e:r.take (0+2)=[]++[r.getD 0 []]++[r.getD 1 []]:=by rw[jp (show 1<r.length by omega),jp (show 0<r.length by omega),GT]
   rw[e];exact(RwH.nil.snoc (s6 _ _ e05')).snoc (s6 _ _ e35')
  ·intro p hp;simp only[Ft,G7,or_false]at hp;rcases hp with rfl |rfl
   ·exact⟨n0l,n0k⟩
   ·exact⟨n3l,n3k⟩
  ·rw[GT];exact⟨rfl,λi p x h=>by simp at h⟩
  ·exact Ne.symm (aK el5 hq)
  ·exact Ne.symm (aK ek hq)
  ·exact Ne.symm (aK el5 hrr)
  ·exact Ne.symm (aK ek hrr)
  clear et eq err ht hq hrr s6 H6 t q rr;rintro m σ' H6 ⟨i,t,q,rr,ps,ls,z4,rfl,hi,rfl,s6,el6,hR,hav,ek6,hL,et,eq,err,nql,nqk,nrl,nrk⟩;have RSi:=PR.at (show i<r.length by omega);have RSj:=PR.at (show i+1<r.length by omega);have lR:((aj (r.getD i []) (r.getD (i+1) [])).map V.int).length=(aj (r.getD i []) (r.getD (i+1) [])).length:=Fk _;refine⟨_,rfl,t,_,_,_,rfl,rfl,SqT.of et,rfl,rr,_,rfl,.inl (SqL.of err),_,_,rfl,rfl,_,rfl,aG (λhgt=>?_) (λhle=>?_)⟩
  rotate_left
  ·have hle':¬(0:Int)<(((aj (r.getD i []) (r.getD (i+1) [])).map V.int).length:Int):=hle;have dz:aj (r.getD i []) (r.getD (i+1) [])=[]:=Gc.mp (by omega)
   have ei:i+2=r.length:=by
    rcases Nat.lt_or_ge (i+2) r.length with z |z
    ·exfalso;have h1:=(PR.at z).ne;rw[PR.step i z]at h1;apply h1;unfold nxt rst;rw[if_neg RSj.ne,dz];rfl
    ·omega
   have et2:r.take (i+2)=r:=List.take_of_length_le (by omega);have lt2:(bi r).take i=bi r:=List.take_of_length_le (by unfold bi;rw[Fk,FW];omega);rw[et2]at hR;rw[lt2]at hL;refine⟨_,rfl,_,rfl,by show 2<=sizeLine;decide,λtt htt=>?_⟩;have s7:=Same.upd_new (o:=.tup [.ref l,.ref lk]) htt;exact k tt l lk ps ls _ (s6.trans s7) am (s7 _ _ el6) (hR.same s7) (s7 _ _ ek6) (hL.toH.same s7)
  ·have hgt':(0:Int)<(((aj (r.getD i []) (r.getD (i+1) [])).map V.int).length:Int):=hgt;have dn:aj (r.getD i []) (r.getD (i+1) [])≠[]:=λz=>by rw[z]at hgt';exact absurd hgt' (by decide)
   have i3:i+2<r.length:=by
    rcases Nat.lt_or_ge (i+2) r.length with z |z
    ·exact z
    ·exfalso;have e1:i+1=r.length-1:=by omega
     have h1:=PR.last;rw[<- e1]at h1;have h2:=dg (a:=r.getD i []) RSj.ne;have:=Fm.mpr dn;omega
   have RSk:=PR.at i3;obtain⟨n7,bQ,bR,bF⟩:=lW RSi RSj;have gp:=gI (bZ _:Tr (aj (r.getD i []) (r.getD (i+1) []))) dn;refine⟨λσ'' H''=>∃m',m'<r.length-(i+2)/\∃(i:Nat) (t q rr:Addr) (ps ls:List Addr) (z4:Option V),σ''=[some (.ref a),some (.ref l),some (.ref lk),some (.ref t),z4]/\i+2<=r.length/\r.length-(i+2)=m'/\Same H H''/\H'' l=some (.lst (ps.map V.ref))/\RwH H'' ps (r.take (i+2))/\(∀p∈ps,p≠l/\p≠lk)/\H'' lk=some (.lst (ls.map V.ref))/\LkX H'' l lk ls ((bi r).take i)/\H'' t=some (.tup [.int (aF (r.getD i []) (r.getD (i+1) [])),.ref q,.ref rr])/\H'' q=some (.lst ((aH (r.getD i []) (r.getD (i+1) [])).map V.int))/\H'' rr=some (.lst ((aj (r.getD i []) (r.getD (i+1) [])).map V.int))/\q≠l/\q≠lk/\rr≠l/\rr≠lk,λ_ _ h=>h,?_⟩;refine aE ⟨_,rfl,t,_,_,_,rfl,rfl,SqT.of et,rfl,rr,_,rfl,SqL.of err,?_⟩;have psl:ps.length=i+2:=by rw[hR.1,FE];omega
   have lsl:ls.length=i:=by rw[hL.1,FE];unfold bi;rw[Fk,FW];omega
   refine ir ⟨_,rfl,.inl ⟨rfl,_,SqL.of ek6⟩,_,rfl,t,_,_,_,rfl,rfl,SqT.of et,rfl,_,rfl,t,_,_,_,rfl,rfl,SqT.of et,rfl,_,rfl,by show 3<=sizeLine;decide,λtl htl=>?_⟩;have s7:=Same.upd_new (o:=.tup [.int (aF (r.getD i []) (r.getD (i+1) [])),.ref q,.int (ai (aj (r.getD i []) (r.getD (i+1) [])):Nat)]) htl;have e7:upd H6 tl (.tup [.int (aF (r.getD i []) (r.getD (i+1) [])),.ref q,.int (ai (aj (r.getD i []) (r.getD (i+1) [])):Nat)]) tl=some (.tup [.int (cU (r.getD i []) (r.getD (i+1) [])).1,.ref q,.int (cU (r.getD i []) (r.getD (i+1) [])).2.2]):=am;generalize upd H6 tl (.tup [.int (aF (r.getD i []) (r.getD (i+1) [])),.ref q,.int (ai (aj (r.getD i []) (r.getD (i+1) [])):Nat)])=H7 at s7 e7 ⊢
   have ek7:=s7 _ _ ek6;have hL7:=(hL.same s7).snoc e7 (s7 _ _ eq) nql nqk;refine⟨lk,_,_,rfl,rfl,ek7,by rw[Fk];omega,?_⟩;have s8:=bW (o:=.lst (ls.map V.ref++[.ref tl])) (s6.trans s7) fk;have ek8:upd H7 lk (.lst (ls.map V.ref++[.ref tl])) lk=some (.lst ((ls++[tl]).map V.ref)):=by rw[am,eW]
   have el8:upd H7 lk (.lst (ls.map V.ref++[.ref tl])) l=some (.lst (ps.map V.ref)):=by rw[upd_ne nlk];exact s7 _ _ el6
   have hL8:=hL7.upd_k (o:=.lst (ls.map V.ref++[.ref tl])) ek7;have hR8:=(hR.same s7).upd_no (o:=.lst (ls.map V.ref++[.ref tl])) λp hp=>(hav p hp).2
   have et8:upd H7 lk (.lst (ls.map V.ref++[.ref tl])) t=some (.tup [.int (aF (r.getD i []) (r.getD (i+1) [])),.ref q,.ref rr]):=by have:=s7 _ _ et;rw[upd_ne (λz=>by rw[z,ek7]at this;cases this)];exact this
   have er8:upd H7 lk (.lst (ls.map V.ref++[.ref tl])) rr=some (.lst ((aj (r.getD i []) (r.getD (i+1) [])).map V.int)):=by rw[upd_ne nrk];exact s7 _ _ err
   show br _ _ _ _ (upd H7 lk (.lst (ls.map V.ref++[.ref tl])));generalize upd H7 lk (.lst (ls.map V.ref++[.ref tl]))=H8 at s8 ek8 el8 hL8 hR8 et8 er8 ⊢
   refine ir ⟨_,rfl,.inl ⟨rfl,_,SqL.of el8⟩,?_⟩;refine⟨_,rfl,t,_,_,_,rfl,rfl,SqT.of et8,rfl,rr,rfl,⟨_,SqL.of er8⟩,fh (K:=K) (a:=rr) (xs:=(aj (r.getD i []) (r.getD (i+1) [])).map V.int) (λj ms σ' H'=>∃z0:Option V,σ'=[z0,some (.int (ai (aj (r.getD i []) (r.getD (i+1) [])):Nat))]/\ms=(((aj (r.getD i []) (r.getD (i+1) [])).take j).map (λv=>0-v/(ai (aj (r.getD i []) (r.getD (i+1) [])):Int))).map V.int/\H8=H') (by rw[lR];have:=dg (a:=r.getD i []) RSj.ne;have:=RSj.l;omega) ⟨none,rfl,rfl,rfl⟩ ?_ ?_ ?_⟩
   ·rintro j ms σ' H' _ ⟨z0,rfl,rfl,rfl⟩;exact⟨SqL.of er8,by rw[Fk,Fk,FE];exact G8 _ _⟩
   ·rintro j v ms σ' H' hj ⟨z0,rfl,rfl,rfl⟩;obtain⟨c,_,rfl,hmc,et'⟩:=cX hj;refine⟨_,rfl,_,rfl,_,_,rfl,rfl,gp,_,_,rfl,rfl,_,rfl,?_,rfl⟩;rw[et'];simp
   rintro ms σ' H' pn ⟨z0,rfl,rfl,rfl⟩ hpn;rw[lR,FS,yv RSj.ne dn,<- PR.step i i3];have s9:=Same.upd_new (o:=.lst ((r.getD (i+2) []).map V.int)) hpn;have e9:upd H8 pn (.lst ((r.getD (i+2) []).map V.int)) pn=some (.lst ((r.getD (i+2) []).map V.int)):=am;have npl:pn≠l:=Ne.symm (aK el8 hpn);have npk:pn≠lk:=Ne.symm (aK ek8 hpn);generalize upd H8 pn (.lst ((r.getD (i+2) []).map V.int))=H9 at s9 e9 ⊢
   have el9:=s9 _ _ el8;refine⟨l,_,_,rfl,rfl,el9,by rw[Fk];omega,?_⟩;have sA:=bW (o:=.lst (ps.map V.ref++[.ref pn])) (s8.trans s9) fl;have elA:upd H9 l (.lst (ps.map V.ref++[.ref pn])) l=some (.lst ((ps++[pn]).map V.ref)):=by rw[am,eW]
   have ekA:upd H9 l (.lst (ps.map V.ref++[.ref pn])) lk=some (.lst ((ls++[tl]).map V.ref)):=by rw[upd_ne (Ne.symm nlk)];exact s9 _ _ ek8
   have hLA:=(hL8.same s9).upd_l (o:=.lst (ps.map V.ref++[.ref pn])) el9
   have havA:∀p∈ps++[pn],p≠l/\p≠lk:=λp hp=>by
    rcases FY.mp hp with h |h
    ·exact hav p h
    ·rw[Fu.mp h];exact⟨npl,npk⟩
   have hRA:=((hR8.same s9).snoc e9).upd_no (o:=.lst (ps.map V.ref++[.ref pn])) λp hp=>(havA p hp).1
   rw[<- jp i3]at hRA;have lA:(bi r).take i++[cU (r.getD i []) (r.getD (i+1) [])]=(bi r).take (i+1):=by rw[Ge,iL i3];rfl
   rw[lA]at hLA;dsimp only
   generalize upd H9 l (.lst (ps.map V.ref++[.ref pn]))=HA at sA elA ekA hLA hRA ⊢
   have rl:(r.take (i+2+1)).length=i+3:=by rw[FE];omega
   obtain⟨pa,ea,ha⟩:=mP hRA (show 0<2 by decide) (by omega);obtain⟨pb,eb,hb⟩:=mP hRA (show 0<1 by decide) (by omega);rw[rl,rT (by omega)]at ha hb;have ha':HA pa=some (.lst ((r.getD (i+1) []).map V.int)):=ha;have hb':HA pb=some (.lst ((r.getD (i+2) []).map V.int)):=hb;refine cQ ⟨_,rfl,_,rfl,l,_,_,_,rfl,rfl,SqL.of elA,ea,_,rfl,_,rfl,l,_,_,_,rfl,rfl,SqL.of elA,eb,pa,pb,_,_,rfl,ha',hb',RSj,RSk,PR.dec (i+1) (by omega),λt' q' rr' HB sB ht' hq' hrr' et' eq' err'=>?_⟩;exact⟨r.length-(i+1+2),by omega,i+1,t',q',rr',ps++[pn],ls++[tl],_,rfl,by omega,rfl,sA.trans sB,sB _ _ elA,hRA.same sB,havA,sB _ _ ekA,hLA.same sB,et',eq',err',Ne.symm (aK elA hq'),Ne.symm (aK ekA hq'),Ne.symm (aK elA hrr'),Ne.symm (aK ekA hrr')⟩
def jz:Sp:=λvs H Q _=>∃(a:Addr) (xs:List Int) (pl:Nat) (my:Int),vs=[.ref a,.int (pl:Int),.int my]/\H a=some (.lst (xs.map V.int))/\pl<=1000/\xs.length<=1000/\∀(p:Addr) (ys:List Int) (H':Hp),Same H H'->H p=none->H' p=some (.lst (ys.map V.int))->Tr ys->(∀n,cf ys n=cf xs n+if n=pl then my else 0)->ys.length<=pl+1000->Q (.ref p) H'
theorem yc(F:Fun K "_law_more" "_law_more" kh f fd)(T:Txt K mg)(nj:Cal P w K mg base 1 "_law_trim" ["_law_row"] (gq K) Bc A2):FnOk P w K mg base CX0 2 f fd ["_law_kp","_law_place","_law_many"] jz:=by
 obtain⟨jj,iJ,iP,je⟩:=nj;refine F.ok sc__law_more (λvs H Q E h=>?_) (λcdv A outer s H vs Q E hr h=>?_)
 ·obtain⟨a,xs,pl,my,rfl,_⟩:=h;rfl
 ·obtain⟨a,xs,pl,my,rfl,hA,hpl,hxl,k⟩:=h;have big:=sizeLine_eq
  refine⟨_,(ag (aq (i:=3) sc__law_more.nd rfl (Or.inl rfl) (dQ (fo (K:=K) rfl) (by rfl) T.list_ PyProof.Rows.boot_list (aa (pv 0) ae)))
   (ag (eJ PassesOwn.never (aC fV (aP (aY (K:=K) rfl) (by rfl) T.len_ PySem.boot_len (aa (pv 3) ae)) (pv 1) (ay _))
     (ak (dA (dB PySem.F.plainAttrs_list PySem.F.slot_list_append PySem.F.type_list_append eV (pv 3) (aa ac ae)))))
   (ag (cr (af aZ (al (bj (K:=K) rfl) (pv 3) (pv 1) (λ_ _=>rfl)) (pv 2)) (cw (pv 3) (pv 1) cq))
   (ak (aD (av jj (hr.mono) rfl iJ iP je .nil au (aa (pv 3) ae))))))),?_⟩
  refine aE ⟨_,rfl,a,_,rfl,.inl (SqL.of hA),λp hp=>?_⟩;have s1:=Same.upd_new (o:=.lst (xs.map V.int)) hp;have e1:upd H p (.lst (xs.map V.int)) p=some (.lst (xs.map V.int)):=am;show br _ _ _ _ (upd H p (.lst (xs.map V.int)));generalize upd H p (.lst (xs.map V.int))=H1 at s1 e1 ⊢
  refine⟨λm σ' H'=>∃ys:List Int,σ'=[some (.ref a),some (.int (pl:Int)),some (.int my),some (.ref p)]/\Same H H'/\H' p=some (.lst (ys.map V.int))/\(∀k,cf ys k=cf xs k)/\ys.length<=pl+1000/\pl+1-ys.length=m,⟨_,xs,rfl,s1,e1,λ_=>rfl,by omega,rfl⟩,?_⟩;rintro m σ' H2 ⟨ys,rfl,s2,e2,hc,hl,rfl⟩;have hyl:(ys.map V.int).length=ys.length:=Fk _;refine⟨_,rfl,p,_,rfl,.inl (SqL.of e2),_,rfl,_,_,rfl,rfl,_,rfl,aG (λh1=>?_) (λh1=>?_)⟩
  ·have h1':((ys.map V.int).length:Int)<=(pl:Int):=h1;refine⟨λσ'' H''=>∃m',m'<pl+1-ys.length/\∃ys:List Int,σ''=[some (.ref a),some (.int (pl:Int)),some (.int my),some (.ref p)]/\Same H H''/\H'' p=some (.lst (ys.map V.int))/\(∀k,cf ys k=cf xs k)/\ys.length<=pl+1000/\pl+1-ys.length=m',λ_ _ h=>h,?_⟩;refine gw ⟨_,rfl,.inl ⟨rfl,_,SqL.of e2⟩,p,_,_,rfl,rfl,e2,by omega,?_⟩;refine⟨pl+1-(ys.length+1),by omega,ys++[0],rfl,bW s2 hp,by rw[am,<- yU],λk=>?_,by rw[Fp];show ys.length+1<=_;omega,by rw[Fp];rfl⟩;rw[<- hc k];by_cases hk:k<ys.length
   ·rw[bO (by rw[Fp];show k<ys.length+1;omega),bO hk,List.getElem_append_left hk]
   ·rw[aN (l:=ys) (by omega)];by_cases hk2:k=ys.length
    ·rw[bO (by rw[Fp];show k<ys.length+1;omega),HH (by omega)];simp
    ·rw[aN (by rw[Fp];show ys.length+1<=k;omega)]
  ·have h1':¬((ys.map V.int).length:Int)<=(pl:Int):=h1;have hlt:pl<ys.length:=by omega
   dsimp only
   refine ky ⟨_,rfl,_,rfl,p,_,_,_,rfl,rfl,SqL.of e2,fu rfl hlt,_,rfl,_,_,rfl,rfl,_,rfl,_,rfl,p,_,_,pl,rfl,rfl,e2,db rfl (by rw[hyl];exact hlt),?_⟩;have s3:=bW (o:=.lst ((ys.set pl (cf ys pl+my)).map V.int)) s2 hp;have e3:upd H2 p (.lst ((ys.set pl (cf ys pl+my)).map V.int)) p=some (.lst ((ys.set pl (cf ys pl+my)).map V.int)):=am;refine fM (H2:=upd H2 p (.lst ((ys.set pl (cf ys pl+my)).map V.int))) (by rw[<- gG]) ?_;generalize upd H2 p (.lst ((ys.set pl (cf ys pl+my)).map V.int))=H3 at s3 e3 ⊢
   refine⟨_,rfl,p,_,rfl,SqL.of e3,λp' H4 s4 hp' e4=>k p' _ H4 (s3.trans s4) (s3.free hp') e4 (bZ _) (λn=>?_) ?_⟩
   ·rw[di,fj hlt];by_cases z:n=pl
    ·rw[if_pos z,if_pos z,z,hc]
    ·rw[if_neg z,if_neg z,hc,Gf]
   ·have h9:=rf (ys.set pl (cf ys pl+my));rw[Ga]at h9;omega
theorem LkH.zip{H:Hp}{ps:List Addr}{xs:List Lnk}(h:LkH H ps xs):∃zs:List (Addr×Lnk),ps=zs.map (·.1)/\xs=zs.map (·.2)/\∀z∈zs,LkA H z.1 z.2:=by refine⟨ps.zip xs,(List.map_fst_zip (by rw[h.1];exact Fl _)).symm,(List.map_snd_zip (by rw[h.1];exact Fl _)).symm,λz hz=>?_⟩;obtain⟨i,hi,e⟩:=Gu hz;have hi':=hi;rw[List.length_zip]at hi';rw[List.getElem_zip]at e;rw[<- e];exact h.2 i _ _ (List.getElem?_eq_getElem (by omega)) (List.getElem?_eq_getElem (by omega))
theorem LkH.of{H:Hp}{zs:List (Addr×Lnk)}(h:∀z∈zs,LkA H z.1 z.2):LkH H (zs.map (·.1)) (zs.map (·.2)):=by
 refine⟨by rw[Fk,Fk],λi p x h1 h2=>?_⟩;rw[List.getElem?_map]at h1 h2;cases e:zs[i]? with
 |none=>rw[e]at h1;cases h1
 |some z =>rw[e]at h1 h2;cases h1;cases h2;exact h z (List.mem_of_getElem? e)
theorem bo{t1 u:TS}{D:Ends}{σ:St}{H:Hp}{i:Nat}{w j:Int}(e:σ[i]?=some (some (.int w)))(h:¬w=j)(k:u D σ H):br (eu (jq (tOp (rI0 λi j=>V.bl (decide (i=j))) (gX i) (tC (V.int j)))) t1 gY) u D σ H :=
 pH ⟨_,e,_,_,rfl,rfl,_,rfl,aG (λz=>absurd z h) (λ_=>k)⟩
theorem fJ{t1 u:TS}{D:Ends}{σ:St}{H:Hp}{i:Nat}{w j:Int}(e:σ[i]?=some (some (.int w)))(h:w=j)(k:t1 { D with nx:=u D } σ H):br (eu (jq (tOp (rI0 λi j=>V.bl (decide (i=j))) (gX i) (tC (V.int j)))) t1 gY) u D σ H :=
 pH ⟨_,e,_,_,rfl,rfl,_,rfl,aG (λ_=>k) (λz=>absurd h z)⟩
theorem nQ{l:List Int}(h:Tr l){n:Nat}(hz:∀k,n<=k->cf l k=0):l.length<=n:=Gd λz=>by have:=h (l.length-1) (by omega);exact this (hz _ (by omega))
theorem v9{kp:List Int}{r:List (List Int)}(PR:PapR kp r){at':Nat}(ha:at'<r.length){ys:List Int}(ty:Tr ys)(ne:ys≠r.getD at' []):¬HotP kp (r.set at' ys) (bi r):=λh=>by
 have gs:∀k,(r.set at' ys).getD k []=if k=at' then ys else r.getD k []:=λk=>by
  rw[List.getD_eq_getElem?_getD,List.getElem?_set,List.getD_eq_getElem?_getD];by_cases z:at'=k
  ·rw[if_pos z,if_pos z.symm,if_pos ha];rfl
  ·rw[if_neg z,if_neg (Ne.symm z)]
 rcases(show at'=0\/at'=1\/∃k,at'=k+2 from by
  match at' with
  |0=>exact .inl rfl
  |1=>exact .inr (.inl rfl)
  |k+2=>exact .inr (.inr ⟨k,rfl⟩))with e |e |⟨k,e⟩
 ·subst e;have:=h.fst;rw[gs,if_pos rfl]at this;exact ne (by rw[this,PR.fst])
 ·subst e;have:=h.snd;rw[gs,if_pos rfl]at this;exact ne (by rw[this,PR.snd])
 ·subst e;have L:=PR.lnk ha;have:=(h.lks k _ (iL ha)).2.2;rw[gs,gs,gs,if_neg (by omega),if_neg (by omega),if_pos rfl]at this;apply ne;rw[PR.step k ha];refine dM ty L.tn λn=>?_
  have h1:cf (ad [(cU (r.getD k []) (r.getD (k+1) [])).1] (r.getD k [])) n=cf (aT (ad (cU (r.getD k []) (r.getD (k+1) [])).2.1 (r.getD (k+1) [])) (ad [(cU (r.getD k []) (r.getD (k+1) [])).2.2] ys)) n:=congrArg (λz=>cf z n) this;rw[dR,jc,dR,aB]at h1;have h2:=L.eq n
  have h3:(ai (aj (r.getD k []) (r.getD (k+1) [])):Int)*cf ys n=(ai (aj (r.getD k []) (r.getD (k+1) [])):Int)*cf (nxt (r.getD k []) (r.getD (k+1) [])) n:=by have h1':aF (r.getD k []) (r.getD (k+1) [])*cf (r.getD k []) n=ao (aH (r.getD k []) (r.getD (k+1) [])) (r.getD (k+1) []) n-(ai (aj (r.getD k []) (r.getD (k+1) [])):Int)*cf ys n:=h1;omega
  exact G3 (by have:=L.g;omega) h3
theorem zA{kp:List Int}{r:List (List Int)}(PR:PapR kp r){k:Nat}(hk:k+2<r.length){f g my:Int}{q:List Int}(hm:my≠0)(h:(f=aF (r.getD k []) (r.getD (k+1) [])+my/\q=aH (r.getD k []) (r.getD (k+1) [])/\g=(ai (aj (r.getD k []) (r.getD (k+1) [])):Int))\/(f=aF (r.getD k []) (r.getD (k+1) [])/\(∃pl,∀n,cf q n=cf (aH (r.getD k []) (r.getD (k+1) [])) n+if n=pl then my else 0)/\g=(ai (aj (r.getD k []) (r.getD (k+1) [])):Int))\/(f=aF (r.getD k []) (r.getD (k+1) [])/\q=aH (r.getD k []) (r.getD (k+1) [])/\g=(ai (aj (r.getD k []) (r.getD (k+1) [])):Int)+my)):¬gh r k (f,q,g):=λok=>by
 have L:=PR.lnk hk;have R0:=PR.at (show k<r.length by omega);have R1:=PR.at (show k+1<r.length by omega);have R2:=PR.at hk;have nz:∀{l:List Int},Tr l->l≠[]->∃n,cf l n≠0:=λ{l} t ne=>⟨l.length-1,t _ (by have:=Fm.mpr ne;omega)⟩
 have eqn:∀n,f*cf (r.getD k []) n=ao q (r.getD (k+1) []) n-g*cf (r.getD (k+2) []) n:=λn=>by have h1:cf (ad [f] (r.getD k [])) n=cf (aT (ad q (r.getD (k+1) [])) (ad [g] (r.getD (k+2) []))) n:=congrArg (λz=>cf z n) ok.2.2;rw[dR,jc,dR,aB]at h1;exact h1
 have old:=L.eq;rw[<- PR.step k hk]at old;rcases h with⟨rfl,rfl,rfl⟩ |⟨rfl,⟨pl,hq⟩,rfl⟩ |⟨rfl,rfl,rfl⟩
 ·obtain⟨n,hn⟩:=nz R0.tr R0.ne;have h1:=eqn n;rw[<- old n,Int.add_mul]at h1;have:my*cf (r.getD k []) n=0:=by omega
  rcases FH.mp this with z |z
  ·exact hm z
  ·exact hn z
 ·have e:∀n,cf q n=1*cf (aH (r.getD k []) (r.getD (k+1) [])) n+my*cf (List.replicate pl 0++[1]) n:=λn=>by
   rw[hq n,FJ]
   congr 1
   by_cases z:n=pl
   ·rw[if_pos z,z,bO (by simp),HH (by simp)];simp
   ·rw[if_neg z];by_cases z2:n<pl
    ·rw[bO (by simp;omega),List.getElem_append_left (by simpa using z2)];simp
    ·rw[aN (by simp;omega),Fy]
  have m0:∀n,ao (List.replicate pl 0++[1]) (r.getD (k+1) []) n=0:=λn=>by
   have h1:=eqn n;rw[cG (x:=1) (y:=my) e,FJ]at h1;have h2:=old n;have:my*ao (List.replicate pl 0++[1]) (r.getD (k+1) []) n=0:=by omega
   rcases FH.mp this with z |z
   ·exact absurd z hm
   ·exact z
  have:=kO (d:=List.replicate pl 0++[1]) R1.ne R1.tr (λn _=>m0 n) pl;rw[bO (by simp),HH (by simp)]at this;simp at this
 ·obtain⟨n,hn⟩:=nz R2.tr R2.ne;have h1:=eqn n;rw[Int.add_mul]at h1;have h2:=old n;have:my*cf (r.getD (k+2) []) n=0:=by omega
  rcases FH.mp this with z |z
  ·exact hm z
  ·exact hn z
def oo:Sp:=λvs H Q _=>∃(l:Addr) (ps:List Addr) (kp:List Int) (r:List (List Int)) (cell my:Int),vs=[.ref l,.int cell,.int my]/\H l=some (.lst (ps.map V.ref))/\RwH H ps r/\PapR kp r/\my≠0/\Bits 10 my/\∀(l':Addr) (ps':List Addr) (r':List (List Int)) (H':Hp),Same H H'->H' l'=some (.lst (ps'.map V.ref))->RwH H' ps' r'->RwB r'->r'.length<=100->¬HotP kp r' (bi r)->Q (.ref l') H'
theorem xT(F:Fun K "_law_spoilt_row" "_law_spoilt_row" j4 f fd)(T:Txt K mg)(nv:Cal P w K mg base 2 "_law_more" ["_law_kp","_law_place","_law_many"] jz Bi A7):FnOk P w K mg base CX0 3 f fd ["_law_row","_law_cell","_law_many"] oo:=by
 obtain⟨m6,k8,lD,mN⟩:=nv;refine F.ok sc__law_spoilt_row (λvs H Q E h=>?_) (λcdv A outer s H vs Q E hr h=>?_)
 ·obtain⟨l,ps,kp,r,cell,my,rfl,_⟩:=h;rfl
 ·obtain⟨l,ps,kp,r,cell,my,rfl,hl,hR,PR,m0,bm,k⟩:=h;have big:=sizeLine_eq;have r2:=PR.two;have r100:=PR.few;have pl:(ps.map V.ref).length=r.length:=by rw[Fk,hR.1]
  refine⟨_,(ag (aq (i:=3) sc__law_spoilt_row.nd rfl (Or.inl rfl) (dQ (fo (K:=K) rfl) (by rfl) T.list_ PyProof.Rows.boot_list (aa (pv 0) ae)))
   (ag (aq (i:=4) sc__law_spoilt_row.nd rfl (Or.inl rfl) (af bJ (pv 1) (aP (aY (K:=K) rfl) (by rfl) T.len_ PySem.boot_len (aa (pv 0) ae))))
   (ag (cr (av m6 (hr.mono) rfl k8 lD mN .nil au (aa (al (bj (K:=K) rfl) (pv 0) (pv 4) (λ_ _=>rfl)) (aa (af bJ (af eU (pv 1) ac) (af aZ (aP (aY (K:=K) rfl) (by rfl) T.len_ PySem.boot_len (aa (al (bj (K:=K) rfl) (pv 0) (pv 4) (λ_ _=>rfl)) ae)) ac)) (aa (pv 2) ae)))) (cw (pv 3) (pv 4) cq))
   (ak (aD (pv 3)))))),?_⟩
  refine aE ⟨_,rfl,l,_,rfl,.inl (SqL.of hl),λlm hlm=>?_⟩;have s1:=Same.upd_new (o:=.lst (ps.map V.ref)) hlm;have e1:upd H lm (.lst (ps.map V.ref)) lm=some (.lst (ps.map V.ref)):=am;show br _ _ _ _ (upd H lm (.lst (ps.map V.ref)));generalize upd H lm (.lst (ps.map V.ref))=H1 at s1 e1 ⊢
  have hl1:=s1 _ _ hl
  obtain⟨i,hi,ei⟩:∃i:Nat,i<r.length/\cell%((ps.map V.ref).length:Int)=(i:Int):=by rw[pl];obtain⟨c1,c2⟩:=ci (x:=cell) (m:=(r.length:Int)) (by omega);exact⟨(cell%(r.length:Int)).toNat,by omega,by rw[Ht c1]⟩
  refine aE ⟨_,rfl,_,rfl,l,_,rfl,.inl (SqL.of hl1),_,_,rfl,rfl,(by show(0:Int)<((ps.map V.ref).length:Int);rw[pl];omega),?_⟩;show br _ _ _ [some (.ref l),some (.int cell),some (.int my),some (.ref lm),some (.int (cell%((ps.map V.ref).length:Int)))] H1;rw[ei];obtain⟨p,ea,hp⟩:=gd (hR.same s1) hi (rfl:((i:Nat):Int)=i);have RS:=PR.at hi;have lr:((r.getD i []).map V.int).length=(r.getD i []).length:=Fk _;have rl:=RS.l
  obtain⟨pn,hpn,epn⟩:∃pn:Nat,pn<=(r.getD i []).length/\cell/7%((((r.getD i []).map V.int).length:Int)+1)=(pn:Int):=by rw[lr];obtain⟨c1,c2⟩:=ci (x:=cell/7) (m:=((r.getD i []).length:Int)+1) (by omega);exact⟨(cell/7%(((r.getD i []).length:Int)+1)).toNat,by omega,by rw[Ht c1]⟩
  refine ky ⟨_,rfl,_,rfl,l,_,_,_,rfl,rfl,SqL.of hl1,ea,?_⟩;refine⟨_,rfl,_,_,rfl,rfl,⟨by show(0:Int)<7;decide,bG (by decide) (by decide)⟩,_,rfl,_,rfl,l,_,_,_,rfl,rfl,SqL.of hl1,ea,p,_,rfl,.inl (SqL.of hp),_,_,rfl,rfl,_,_,rfl,rfl,(by show(0:Int)<(((r.getD i []).map V.int).length:Int)+1;omega),_,rfl,p,r.getD i [],pn,my,by rw[<- epn];rfl,hp,by omega,by omega,λp' ys H2 s2 hp' e2 ty hc _=>?_⟩;have e12:=s2 _ _ e1;have ilen:i<ps.length:=by rw[hR.1];exact hi
  refine⟨_,rfl,_,rfl,lm,_,_,i,rfl,rfl,e12,db rfl (by rw[Fk];exact ilen),?_⟩;have t2:=s1.trans s2;have s3:=bW (o:=.lst ((ps.map V.ref).set i (.ref p'))) t2 hlm;have e3:upd H2 lm (.lst ((ps.map V.ref).set i (.ref p'))) lm=some (.lst ((ps.set i p').map V.ref)):=by rw[am,List.map_set]
  have npm:p'≠lm:=Ne.symm (aK e1 hp');refine⟨_,rfl,k lm (ps.set i p') (r.set i ys) _ s3 e3 ⟨by rw[Ga,Ga,hR.1],λj q xs h1 h2=>?_⟩ (λxs hx=>?_) (by rw[Ga];omega) ?_⟩
  ·have hjl:j<ps.length:=by have:=(List.getElem?_eq_some_iff.mp h1).1;rw[Ga]at this;exact this
   rw[List.getElem?_set]at h1 h2;by_cases z:i=j
   ·rw[if_pos z,if_pos (by omega)]at h1;rw[if_pos z,if_pos (by rw[<- hR.1];omega)]at h2;cases h1;cases h2;rw[upd_ne npm];exact e2
   ·rw[if_neg z]at h1 h2;have hq:=hR.2 j q xs h1 h2;rw[upd_ne (aK hq hlm)];exact t2 _ _ hq
  ·rcases Hs hx with h |h
   ·exact PR.rwb xs h
   ·rw[h];refine⟨?_,AllB.of_cf λn=>?_⟩
    ·have:ys.length<=8:=nQ ty λn hn=>by rw[hc n,aN (by omega),if_neg (by omega)];rfl
     omega
    ·rw[hc n];refine(Bits.add (k:=94000) ((RS.b.cf n).mono) ?_).mono;split
     ·exact bm.mono
     ·exact Bits.zero
  ·refine v9 PR hi ty λz=>m0 ?_
   have:=hc pn;rw[z,if_pos rfl]at this;omega
theorem vE{n i:Nat}(h:i<n):seqIndex? (i:Int) n=some i:=by
 unfold seqIndex?;have h1:¬(i:Int)<0:=by omega
 have h2:(0:Int)<=(i:Int):=by omega
 have h3:(i:Int)<(n:Int):=by omega
 simp[h1,h2,h3]
theorem lU{α β:Type}(f:α->β):∀(l:List α) (i:Nat),(l.map f).eraseIdx i=(l.eraseIdx i).map f
 | [],_=>by simp
 |a::l,0=>rfl
 |a::l,i+1=>by show f a::(l.map f).eraseIdx i=f a::(l.eraseIdx i).map f;rw[lU f l i]
theorem zB{a b:List Int}(ha:RwS a)(hb:RwS b):Bits 730087 (aF a b)/\AllB 730087 (aH a b)/\Bits 730087 ((ai (aj a b):Nat):Int)/\(aH a b).length<=7:=by
 obtain⟨n7,bQ,bR,bF⟩:=lW ha hb;refine⟨bF.mono,bQ,?_,by rw[gL hb.ne];exact n7⟩;by_cases z:aj a b=[]
 ·rw[z];exact Bits.zero
 ·have t:Tr (aj a b):=bZ _;have h1:=Fm.mpr z;have h2:cf (aj a b) ((aj a b).length-1)≠0:=t _ (by omega);refine(bR.cf ((aj a b).length-1)).of_le (?_:(((ai (aj a b):Nat):Int)).natAbs<=_);rw[FQ];exact Nat.le_of_dvd (Gw.mpr h2) (dvd_cf.mp (Gx _) _)
def ot:Sp:=λvs H Q _=>∃(l:Addr) (ls:List Addr) (kp:List Int) (r:List (List Int)) (way cell my:Int),vs=[.ref l,.int way,.int cell,.int my]/\H l=some (.lst (ls.map V.ref))/\LkH H ls (bi r)/\PapR kp r/\0<(bi r).length/\0<way/\way<7/\my≠0/\Bits 10 my/\∀(l':Addr) (ls':List Addr) (xs':List Lnk) (H':Hp),Same H H'->H' l'=some (.lst (ls'.map V.ref))->LkH H' ls' xs'->(∀x∈xs',LkB x)->xs'.length<=200->¬HotP kp r xs'->Q (.ref l') H'
theorem xU(F:Fun K "_law_spoilt_links" "_law_spoilt_links" j5 f fd)(T:Txt K mg)(nv:Cal P w K mg base 2 "_law_more" ["_law_kp","_law_place","_law_many"] jz Bi A7):FnOk P w K mg base CX0 3 f fd ["_law_links","_law_way_here","_law_cell","_law_many"] ot:=by
 obtain⟨m6,k8,lD,mN⟩:=nv;refine F.ok sc__law_spoilt_links (λvs H Q E h=>?_) (λcdv A outer s H vs Q E hr h=>?_)
 ·obtain⟨l,ls,kp,r,way,cell,my,rfl,_⟩:=h;rfl
 ·obtain⟨l,ls,kp,r,way,cell,my,rfl,hl,hL,PR,l0,w0,w7,m0,bm,k⟩:=h;have big:=sizeLine_eq;have r2:=PR.two;have r100:=PR.few;have xl:(bi r).length=r.length-2:=by unfold bi;rw[Fk,FW]
  obtain⟨zs,rfl,ez,hz⟩:=hL.zip;have zl:zs.length=(bi r).length:=by rw[ez,Fk]
  have pl:((zs.map (·.1)).map V.ref).length=zs.length:=by rw[Fk,Fk]
  have hB:∀z∈zs,LkB z.2:=λz h=>PR.lkb z.2 (by rw[ez];exact Fo.mpr ⟨z,h,rfl⟩)
  refine⟨_,(ag (aq (i:=4) sc__law_spoilt_links.nd rfl (Or.inl rfl) (dQ (fo (K:=K) rfl) (by rfl) T.list_ PyProof.Rows.boot_list (aa (pv 0) ae)))
   (ag (aq (i:=5) sc__law_spoilt_links.nd rfl (Or.inl rfl) (af bJ (pv 2) (aP (aY (K:=K) rfl) (by rfl) T.len_ PySem.boot_len (aa (pv 0) ae))))
   (ag (aq (i:=6) sc__law_spoilt_links.nd rfl (Or.inl rfl) (al (bj (K:=K) rfl) (pv 0) (pv 5) (λ_ _=>rfl)))
   (ag (aQ (aC bz (pv 1) ac (ay _))
     (ak (cr (b5 (aa (af aZ (al (aw (K:=K) rfl) (pv 6) ac (λ_ _=>rfl)) (pv 3)) (aa (al (aw (K:=K) rfl) (pv 6) ac (λ_ _=>rfl)) (aa (al (aw (K:=K) rfl) (pv 6) ac (λ_ _=>rfl)) ae)))) (cw (pv 4) (pv 5) cq)))
     aR)
   (ag (aQ (aC bz (pv 1) ac (ay _))
     (ak (cr (b5 (aa (al (aw (K:=K) rfl) (pv 6) ac (λ_ _=>rfl)) (aa (av m6 (hr.mono) rfl k8 lD mN .nil au (aa (al (aw (K:=K) rfl) (pv 6) ac (λ_ _=>rfl)) (aa (af bJ (af eU (pv 2) ac) (af aZ (aP (aY (K:=K) rfl) (by rfl) T.len_ PySem.boot_len (aa (al (aw (K:=K) rfl) (pv 6) ac (λ_ _=>rfl)) ae)) ac)) (aa (pv 3) ae)))) (aa (al (aw (K:=K) rfl) (pv 6) ac (λ_ _=>rfl)) ae)))) (cw (pv 4) (pv 5) cq)))
     aR)
   (ag (aQ (aC bz (pv 1) ac (ay _))
     (ak (cr (b5 (aa (al (aw (K:=K) rfl) (pv 6) ac (λ_ _=>rfl)) (aa (al (aw (K:=K) rfl) (pv 6) ac (λ_ _=>rfl)) (aa (af aZ (al (aw (K:=K) rfl) (pv 6) ac (λ_ _=>rfl)) (pv 3)) ae)))) (cw (pv 4) (pv 5) cq)))
     aR)
   (ag (aQ (aC bz (pv 1) ac (ay _))
     (ak (cr (b5 (aa (af aV ac (al (aw (K:=K) rfl) (pv 6) ac (λ_ _=>rfl))) (aa (c7 (own:=["_law_one"]) (fr:=[]) (js:=[]) (by walk_at "comp_ok") rfl (cm (K:=K) rfl (al (aw (K:=K) rfl) (pv 6) ac (λ_ _=>rfl))) (λ_ _ _ _=>(aS (i:=0) (show List.Nodup (["_law_one"]:List Str)from by decide +kernel) rfl (Or.inl rfl))) (λ_ _ _ _=>(af aV ac (pv 0)))) (aa (af aV ac (al (aw (K:=K) rfl) (pv 6) ac (λ_ _=>rfl))) ae)))) (cw (pv 4) (pv 5) cq)))
     aR)
   (ag (aQ (aC bz (pv 1) ac (ay _))
     (ak (dA (dB PySem.F.plainAttrs_list PySem.F.slot_list_pop PySem.F.type_list_pop yM (pv 4) (aa (pv 5) ae))))
     aR)
   (ag (aQ (aC bz (pv 1) ac (ay _))
     (ak (dA (dB PySem.F.plainAttrs_list PySem.F.slot_list_insert PySem.F.type_list_insert yN (pv 4) (aa (pv 5) (aa (pv 6) ae)))))
     aR)
   (ak (aD (pv 4)))))))))))),?_⟩
  refine aE ⟨_,rfl,l,_,rfl,.inl (SqL.of hl),λlm hlm=>?_⟩;have s1:=Same.upd_new (o:=.lst ((zs.map (·.1)).map V.ref)) hlm;have e1:upd H lm (.lst ((zs.map (·.1)).map V.ref)) lm=some (.lst ((zs.map (·.1)).map V.ref)):=am;show br _ _ _ _ (upd H lm (.lst ((zs.map (·.1)).map V.ref)));generalize upd H lm (.lst ((zs.map (·.1)).map V.ref))=H1 at s1 e1 ⊢
  have hl1:=s1 _ _ hl
  obtain⟨i,hi,ei⟩:∃i:Nat,i<zs.length/\cell%(((zs.map (·.1)).map V.ref).length:Int)=(i:Int):=by rw[pl];obtain⟨c1,c2⟩:=ci (x:=cell) (m:=(zs.length:Int)) (by omega);exact⟨(cell%(zs.length:Int)).toNat,by omega,by rw[Ht c1]⟩
  refine aE ⟨_,rfl,_,rfl,l,_,rfl,.inl (SqL.of hl1),_,_,rfl,rfl,(by show(0:Int)<(((zs.map (·.1)).map V.ref).length:Int);rw[pl];omega),?_⟩;show br _ _ _ [some (.ref l),some (.int way),some (.int cell),some (.int my),some (.ref lm),some (.int (cell%(((zs.map (·.1)).map V.ref).length:Int))),none] H1;rw[ei];have ik:i+2<r.length:=by omega
  have ga:zs[i]?=some zs[i]:=List.getElem?_eq_getElem hi
  have ex:zs[i].2=cU (r.getD i []) (r.getD (i+1) []):=by have h1:=iL ik;rw[ez,List.getElem?_map,ga]at h1;exact Option.some.inj h1
  have zm:zs[i]∈zs:=Gb hi;have hzi:=hz _ zm;rw[ex]at hzi;obtain⟨pp,epp⟩:∃pp,zs[i].1=pp:=⟨_,rfl⟩;rw[epp]at hzi;obtain⟨qa,hp,hq⟩:=hzi;have RS0:=PR.at (show i<r.length by omega);have RS1:=PR.at (show i+1<r.length by omega);obtain⟨bf,bq,bg,lq⟩:=zB RS0 RS1;have L:=PR.lnk ik;have bad:∀{f g:Int} {q:List Int},((f=aF (r.getD i []) (r.getD (i+1) [])+my/\q=aH (r.getD i []) (r.getD (i+1) [])/\g=(ai (aj (r.getD i []) (r.getD (i+1) [])):Int))\/(f=aF (r.getD i []) (r.getD (i+1) [])/\(∃pl,∀n,cf q n=cf (aH (r.getD i []) (r.getD (i+1) [])) n+if n=pl then my else 0)/\g=(ai (aj (r.getD i []) (r.getD (i+1) [])):Int))\/(f=aF (r.getD i []) (r.getD (i+1) [])/\q=aH (r.getD i []) (r.getD (i+1) [])/\g=(ai (aj (r.getD i []) (r.getD (i+1) [])):Int)+my))->¬gh r i (f,q,g):=λh=>zA PR ik m0 h
  replace hp:H pp=some (.tup [.int (aF (r.getD i []) (r.getD (i+1) [])),.ref qa,.int (ai (aj (r.getD i []) (r.getD (i+1) [])):Int)]):=hp
  replace hq:H qa=some (.lst ((aH (r.getD i []) (r.getD (i+1) [])).map V.int)):=hq
  clear L;generalize aF (r.getD i []) (r.getD (i+1) [])=F0 at hp bf bad
  generalize aH (r.getD i []) (r.getD (i+1) [])=Q0 at hq bq lq bad
  generalize ((ai (aj (r.getD i []) (r.getD (i+1) [])):Nat):Int)=G0 at hp bg bad
  have hat:atI ((zs.map (·.1)).map V.ref) (i:Int)=some (.ref pp):=fv (by rw[List.getElem?_map,List.getElem?_map,ga];show some (V.ref zs[i].1)=_;rw[epp]);refine aE ⟨_,rfl,_,rfl,l,_,_,_,rfl,rfl,SqL.of hl1,hat,?_⟩;show br _ _ _ [some (.ref l),some (.int way),some (.int cell),some (.int my),some (.ref lm),some (.int (i:Int)),some (.ref pp)] H1;have hp1:=s1 _ _ hp;have hq1:=s1 _ _ hq;have nlen:i<((zs.map (·.1)).map V.ref).length:=by rw[pl];exact hi
  have put:∀{t qb:Addr} {x:Lnk} {H3:Hp},Same H1 H3->H1 t=none->H3 t=some (.tup [.int x.1,.ref qb,.int x.2.2])->H3 qb=some (.lst (x.2.1.map V.int))->qb≠lm->LkB x->¬gh r i x->Q (.ref lm) (upd H3 lm (.lst (((zs.map (·.1)).map V.ref).set i (.ref t)))):=λ{t qb x H3} s3 ht et eb nb hbx nok=>by
   have nt:t≠lm:=Ne.symm (aK e1 ht);have e3:=s3 _ _ e1;have es:((zs.map (·.1)).map V.ref).set i (.ref t)=((zs.set i (t,x)).map (·.1)).map V.ref:=by rw[List.map_set,List.map_set]
   rw[es];refine k lm ((zs.set i (t,x)).map (·.1)) ((zs.set i (t,x)).map (·.2)) _ (bW (s1.trans s3) hlm) am (LkH.of λz h=>?_) (λy hy=>?_) (by rw[Fk,Ga];omega) (λhot=>?_)
   ·rcases Hs h with h |h
    ·exact(hz z h).same (bW (s1.trans s3) hlm)
    ·rw[h];exact⟨qb,by rw[upd_ne nt];exact et,by rw[upd_ne nb];exact eb⟩
   ·obtain⟨z,h,rfl⟩:=Fo.mp hy;rcases Hs h with h |h
    ·exact hB z h
    ·rw[h];exact hbx
   ·refine nok (hot.lks i x ?_);rw[List.getElem?_map,List.getElem?_set,if_pos rfl,if_pos hi];rfl
  have nqm:qa≠lm:=aK hq hlm;have rng:way=1\/way=2\/way=3\/way=4\/way=5\/way=6:=by omega
  rcases rng with rfl |rfl |rfl |rfl |rfl |rfl
  ·refine fJ rfl rfl ?_;refine⟨_,rfl,pp,_,_,_,rfl,rfl,SqT.of hp1,rfl,_,rfl,_,_,rfl,rfl,_,rfl,pp,_,_,_,rfl,rfl,SqT.of hp1,rfl,_,rfl,pp,_,_,_,rfl,rfl,SqT.of hp1,rfl,by show 3<=sizeLine;decide,λt ht=>?_⟩;have s3:=Same.upd_new (o:=.tup [.int (F0+my),.ref qa,.int G0]) ht;refine⟨_,rfl,_,rfl,lm,_,_,i,rfl,rfl,s3 _ _ e1,db rfl nlen,?_⟩;dsimp only
   refine bo rfl (by decide) (bo rfl (by decide) (bo rfl (by decide) (bo rfl (by decide) (bo rfl (by decide) ⟨_,rfl,put (x:=(F0+my,Q0,G0)) s3 ht am (s3 _ _ hq1) nqm ⟨(bf.add (bm.mono)).mono,bg.mono,bq.mono,by show Q0.length<=1000;omega⟩ (bad (.inl ⟨rfl,rfl,rfl⟩))⟩))))
  ·refine bo rfl (by decide) (fJ rfl rfl ?_);have lqm:(Q0.map V.int).length=Q0.length:=Fk _
   obtain⟨pn,hpn,epn⟩:∃pn:Nat,pn<=Q0.length/\cell/7%(((Q0.map V.int).length:Int)+1)=(pn:Int):=by rw[lqm];obtain⟨c1,c2⟩:=ci (x:=cell/7) (m:=(Q0.length:Int)+1) (by omega);exact⟨(cell/7%((Q0.length:Int)+1)).toNat,by omega,by rw[Ht c1]⟩
   refine⟨_,rfl,pp,_,_,_,rfl,rfl,SqT.of hp1,rfl,_,rfl,pp,_,_,_,rfl,rfl,SqT.of hp1,rfl,_,rfl,_,_,rfl,rfl,⟨by show(0:Int)<7;decide,bG (by decide) (by decide)⟩,_,rfl,pp,_,_,_,rfl,rfl,SqT.of hp1,rfl,qa,_,rfl,.inl (SqL.of hq1),_,_,rfl,rfl,_,_,rfl,rfl,(by show(0:Int)<((Q0.map V.int).length:Int)+1;omega),_,rfl,qa,Q0,pn,my,by rw[<- epn];rfl,hq1,by omega,by omega,λqb ys H2 s2 hqb e2 ty hc _=>?_⟩;have hp2:=s2 _ _ hp1;refine⟨_,rfl,pp,_,_,_,rfl,rfl,SqT.of hp2,rfl,by show 3<=sizeLine;decide,λt ht=>?_⟩;have s3:=Same.upd_new (o:=.tup [.int F0,.ref qb,.int G0]) ht;have t3:=s2.trans s3;refine⟨_,rfl,_,rfl,lm,_,_,i,rfl,rfl,t3 _ _ e1,db rfl nlen,?_⟩;dsimp only
   have yl:ys.length<=8:=nQ ty λn hn=>by rw[hc n,aN (by omega),if_neg (by omega)];rfl
   have yb:AllB 800000 ys:=AllB.of_cf λn=>by
    rw[hc n];refine(Bits.add (k:=730087) (bq.cf n) ?_).mono;split
    ·exact bm.mono
    ·exact Bits.zero
   refine bo rfl (by decide) (bo rfl (by decide) (bo rfl (by decide) (bo rfl (by decide) ⟨_,rfl,put (x:=(F0,ys,G0)) t3 (s2.free ht) am (s3 _ _ e2) (Ne.symm (aK e1 hqb)) ⟨bf.mono,bg.mono,yb.mono,by show ys.length<=1000;omega⟩ (bad (.inr (.inl ⟨rfl,⟨pn,hc⟩,rfl⟩)))⟩)))
  ·refine bo rfl (by decide) (bo rfl (by decide) (fJ rfl rfl ?_));refine⟨_,rfl,pp,_,_,_,rfl,rfl,SqT.of hp1,rfl,_,rfl,pp,_,_,_,rfl,rfl,SqT.of hp1,rfl,_,rfl,pp,_,_,_,rfl,rfl,SqT.of hp1,rfl,_,rfl,_,_,rfl,rfl,by show 3<=sizeLine;decide,λt ht=>?_⟩;have s3:=Same.upd_new (o:=.tup [.int F0,.ref qa,.int (G0+my)]) ht;refine⟨_,rfl,_,rfl,lm,_,_,i,rfl,rfl,s3 _ _ e1,db rfl nlen,?_⟩;dsimp only
   refine bo rfl (by decide) (bo rfl (by decide) (bo rfl (by decide) ⟨_,rfl,put (x:=(F0,Q0,G0+my)) s3 ht am (s3 _ _ hq1) nqm ⟨bf.mono,(bg.add (bm.mono)).mono,bq.mono,by show Q0.length<=1000;omega⟩ (bad (.inr (.inr ⟨rfl,rfl,rfl⟩)))⟩))
  ·refine bo rfl (by decide) (bo rfl (by decide) (bo rfl (by decide) (fJ rfl rfl ?_)))
   have f0:0<F0:=(PR.hot.lks i _ (iL ik)).1 |> λh=>by
    have hz2:=hz _ zm;rw[ex]at hz2;obtain⟨qa2,h2,_⟩:=hz2;rw[epp,hp]at h2
    injection h2 with h2
    injection h2 with h2
    injection h2 with h3 _
    injection h3 with h3
    rw[h3];exact h
   refine⟨_,rfl,pp,_,_,_,rfl,rfl,SqT.of hp1,rfl,_,_,rfl,rfl,?_⟩;refine⟨_,rfl,pp,_,_,_,rfl,rfl,SqT.of hp1,rfl,qa,rfl,⟨_,SqL.of hq1⟩,fh (K:=K) (a:=qa) (xs:=Q0.map V.int) (λj ms σ' H'=>∃z0:Option V,σ'=[z0]/\ms=((Q0.take j).map (λv=>0-v)).map V.int/\H1=H') (by rw[Fk];omega) ⟨none,rfl,rfl,rfl⟩ ?_ ?_ ?_⟩
   ·rintro j ms σ' H' _ ⟨z0,rfl,rfl,rfl⟩;exact⟨SqL.of hq1,by rw[Fk,Fk,FE];exact G8 _ _⟩
   ·rintro j v ms σ' H' hj ⟨z0,rfl,rfl,rfl⟩;obtain⟨c,_,rfl,hmc,et'⟩:=cX hj;refine⟨_,rfl,_,_,rfl,rfl,_,rfl,?_,rfl⟩;rw[et'];simp
   rintro ms σ' H' qb ⟨z0,rfl,rfl,rfl⟩ hqb;rw[Fk,FS];have s2:=Same.upd_new (o:=.lst ((Q0.map (λv=>0-v)).map V.int)) hqb;have e2:upd H1 qb (.lst ((Q0.map (λv=>0-v)).map V.int)) qb=some (.lst ((Q0.map (λv=>0-v)).map V.int)):=am;generalize upd H1 qb (.lst ((Q0.map (λv=>0-v)).map V.int))=H2 at s2 e2 ⊢
   have hp2:=s2 _ _ hp1;refine⟨_,rfl,pp,_,_,_,rfl,rfl,SqT.of hp2,rfl,_,_,rfl,rfl,by show 3<=sizeLine;decide,λt ht=>?_⟩;have s3:=Same.upd_new (o:=.tup [.int (0-F0),.ref qb,.int (0-G0)]) ht;have t3:=s2.trans s3;refine⟨_,rfl,_,rfl,lm,_,_,i,rfl,rfl,t3 _ _ e1,db rfl nlen,?_⟩;dsimp only
   have nb:AllB 730087 (Q0.map (λv=>0-v)):=λx hx=>by obtain⟨v,hv,rfl⟩:=Fo.mp hx;rw[Gz];exact(bq v hv).neg
   refine bo rfl (by decide) (bo rfl (by decide) ⟨_,rfl,put (x:=(0-F0,Q0.map (λv=>0-v),0-G0)) t3 (s2.free ht) am (s3 _ _ e2) (Ne.symm (aK e1 hqb)) ⟨by show Bits 900000 (0-F0);rw[Gz];exact bf.neg.mono,by show Bits 900000 (0-G0);rw[Gz];exact bg.neg.mono,nb.mono,by show(Q0.map (λv=>0-v)).length<=1000;rw[Fk];omega⟩ (λok=>by have h9:0<0-F0:=ok.1;omega)⟩)
  ·refine bo rfl (by decide) (bo rfl (by decide) (bo rfl (by decide) (bo rfl (by decide) (fJ rfl rfl ?_))));refine gw ⟨_,rfl,.inl ⟨rfl,_,SqL.of e1⟩,_,rfl,lm,_,(i:Int),i,.ref pp,rfl,rfl,e1,by omega,by omega,vE nlen,?_,?_⟩
   ·rw[List.getElem?_map,List.getElem?_map,ga];show some (V.ref zs[i].1)=_;rw[epp]
   dsimp only
   refine bo rfl (by decide) ⟨_,rfl,?_⟩;have es:((zs.map (·.1)).map V.ref).eraseIdx i=((zs.eraseIdx i).map (·.1)).map V.ref:=by rw[lU,lU]
   rw[es];refine k lm _ ((zs.eraseIdx i).map (·.2)) _ (bW s1 hlm) am (LkH.of λz h=>(hz z (List.mem_of_mem_eraseIdx h)).same (bW s1 hlm)) (λy hy=>?_) (by rw[Fk];have:=List.length_eraseIdx_le zs i;omega) (λhot=>?_)
   ·obtain⟨z,h,rfl⟩:=Fo.mp hy;exact hB z (List.mem_of_mem_eraseIdx h)
   ·have h9:=hot.len;rw[Fk,List.length_eraseIdx_of_lt hi]at h9;omega
  ·refine bo rfl (by decide) (bo rfl (by decide) (bo rfl (by decide) (bo rfl (by decide) (bo rfl (by decide) (fJ rfl rfl ?_)))));refine gw ⟨_,rfl,.inl ⟨rfl,_,SqL.of e1⟩,_,rfl,_,rfl,lm,_,(i:Int),.ref pp,rfl,rfl,e1,by omega,by omega,by rw[pl];omega,?_⟩;dsimp only
   refine⟨_,rfl,?_⟩
   have es:lG ((zs.map (·.1)).map V.ref) ((i:Int).toNat) (.ref pp)=((zs.take i++zs[i]::zs.drop i).map (·.1)).map V.ref:=by unfold lG;rw[Int.toNat_natCast,<- epp];simp
   rw[es]
   have mem:∀z∈zs.take i++zs[i]::zs.drop i,z∈zs:=λz h=>by
    rcases FY.mp h with h |h
    ·exact HC h
    ·rcases Ft.mp h with h |h
     ·rw[h];exact zm
     ·exact List.mem_of_mem_drop h
   have ll:(zs.take i++zs[i]::zs.drop i).length=zs.length+1:=by simp;omega
   refine k lm _ ((zs.take i++zs[i]::zs.drop i).map (·.2)) _ (bW s1 hlm) am (LkH.of λz h=>(hz z (mem z h)).same (bW s1 hlm)) (λy hy=>?_) (by rw[Fk,ll];omega) (λhot=>?_)
   ·obtain⟨z,h,rfl⟩:=Fo.mp hy;exact hB z (mem z h)
   ·have h9:=hot.len;rw[Fk,ll]at h9;omega
theorem pB{k:Nat}{t b:Int}(hb:b≠0)(h:Bits k t):Bits k (rt t b):=h.of_le (vV hb)
theorem pL{k:Nat}{t b:Int}(hb:b≠0)(h:Bits k b):Bits k (rb t b):=h.of_le (wl hb)
def oQ(C:Addr):Sp:=λvs H Q _=>∃(pk l lk:Addr) (ps ls:List Addr) (kp:List Int) (r:List (List Int)) (xs:List Lnk) (lo hi n:Int),vs=[.ref pk,.int lo,.int hi,.ref l,.ref lk,.int n]/\H pk=some (.lst (kp.map V.int))/\H l=some (.lst (ps.map V.ref))/\RwH H ps r/\RwB r/\H lk=some (.lst (ls.map V.ref))/\LkH H ls xs/\(∀x∈xs,LkB x)/\Tr kp/\kp.length<=20/\AllB 95000 kp/\r.length<=1000/\xs.length<=1000/\0<n/\Bits 400 lo/\Bits 400 hi/\Bits 400 n/\∀(b:Bool) (H':Hp),Same H H'->(b=true↔jh kp r xs (rt lo n) (rb lo n) (rt hi n) (rb hi n))->Q (.bl b) H'
theorem yn(F:Fun K "_law_asked" "_law_asked" kt f fd)(T:Txt K mg)(R:RCI K mg C)(Dr:Cal P w K mg base 35 "just_one" ["polynomial","low","high","paper"] (oE C) EJ D7)(DU:KCal P w K mg base 2 C "Ratio" ["self","top","bottom"] (g9 C) Fg Ez Fh [.int 1]):FnOk P w K mg base CX0 36 f fd ["_law_kp","_law_low","_law_high","_law_row","_law_links","_law_bottom"] (oQ C):=by
 obtain⟨CO,zd,zZ,Cc⟩:=Dr;obtain⟨uk,ub,rc,tX,Fj,Fi⟩:=DU;refine F.ok sc__law_asked (λvs H Q E h=>?_) (λcdv A outer s H vs Q E hr h=>?_)
 ·obtain⟨pk,l,lk,ps,ls,kp,r,xs,lo,hi,n,rfl,_⟩:=h;rfl
 ·obtain⟨pk,l,lk,ps,ls,kp,r,xs,lo,hi,n,rfl,hk,hl,hR,hB,hlk,hL,hX,tk,kl,kb,r1000,x1000,n0,b1,b2,b3,k⟩:=h;have big:=sizeLine_eq;have ne:n≠0:=by omega
  have pl:(ps.map V.ref).length=r.length:=by rw[Fk,hR.1]
  refine⟨_,(ag (aq (i:=6) sc__law_asked.nd rfl (Or.inl rfl) (b5 (aa (c7 (own:=["_law_one"]) (fr:=[]) (js:=[]) (by walk_at "comp_ok") rfl (cm (K:=K) rfl (pv 3)) (λ_ _ _ _=>(aS (i:=0) (show List.Nodup (["_law_one"]:List Str)from by decide +kernel) rfl (Or.inl rfl))) (λ_ _ _ _=>(dQ (fo (K:=K) rfl) (by rfl) T.list_ PyProof.Rows.boot_list (aa (pv 0) ae)))) (aa (dQ (fo (K:=K) rfl) (by rfl) T.list_ PyProof.Rows.boot_list (aa (pv 4) ae)) ae))))
   (ak (aD (av CO (hr.mono) rfl zd zZ Cc .nil au (aa (dQ (fo (K:=K) rfl) (by rfl) T.list_ PyProof.Rows.boot_list (aa (pv 0) ae)) (aa (qp ub uk (hr.mono) rfl rc tX .nil au (aa (pv 1) (aa (pv 5) ae))) (aa (qp ub uk (hr.mono) rfl rc tX .nil au (aa (pv 2) (aa (pv 5) ae))) (aa (pv 6) ae)))))))),?_⟩
  refine aE ⟨_,rfl,l,rfl,⟨_,SqL.of hl⟩,fh (K:=K) (a:=l) (xs:=ps.map V.ref) (λi ys σ' H'=>∃(z0:Option V) (qs:List Addr),σ'=[z0]/\ys=qs.map V.ref/\Same H H'/\RwH H' qs (r.take i)) (by omega) ⟨none,[],rfl,rfl,Same.refl _,by rw[GT];exact RwH.nil⟩ ?_ ?_ ?_⟩
  ·rintro i ys σ' H' hi ⟨z0,qs,rfl,rfl,sm,hq⟩;refine⟨SqL.of (sm _ _ hl),?_⟩;have:=hq.1;rw[FE]at this;rw[Fk];omega
  ·rintro i v ys σ' H' hi ⟨z0,qs,rfl,rfl,sm,hq⟩;obtain⟨p,zs,rfl,ep,ex,hp,hlt⟩:=(hR.same sm).of_get hi;refine⟨_,rfl,p,_,rfl,.inl (SqL.of hp),λp' hp'=>?_⟩;have s1:=Same.upd_new (o:=.lst (zs.map V.int)) hp';refine⟨_,qs++[p'],rfl,by rw[FD];rfl,sm.trans s1,?_⟩;rw[Ge,ex];exact(hq.same s1).snoc am
  rintro ys σ' H1 l' ⟨z0,qs,rfl,rfl,s1,hq⟩ hl';rw[pl,FS]at hq;have s2:=Same.upd_new (o:=.lst (qs.map V.ref)) hl';have e2:upd H1 l' (.lst (qs.map V.ref)) l'=some (.lst (qs.map V.ref)):=am;generalize upd H1 l' (.lst (qs.map V.ref))=H2 at s2 e2 ⊢
  have t2:=s1.trans s2;refine⟨_,rfl,lk,_,rfl,.inl (SqL.of (t2 _ _ hlk)),λlk' hlk'=>?_⟩;have s3:=Same.upd_new (o:=.lst (ls.map V.ref)) hlk';have e3:upd H2 lk' (.lst (ls.map V.ref)) lk'=some (.lst (ls.map V.ref)):=am;generalize upd H2 lk' (.lst (ls.map V.ref))=H3 at s3 e3 ⊢
  refine⟨by show 2<=sizeLine;decide,λpp hpp=>?_⟩;have s4:=Same.upd_new (o:=.tup [.ref l',.ref lk']) hpp;have e4:upd H3 pp (.tup [.ref l',.ref lk']) pp=some (.tup [.ref l',.ref lk']):=am;have t4:=t2.trans (s3.trans s4);dsimp only
  generalize upd H3 pp (.tup [.ref l',.ref lk'])=H4 at s4 e4 t4 ⊢
  refine bv ⟨_,rfl,pk,_,rfl,.inl (SqL.of (t4 _ _ hk)),λpk' hpk'=>?_⟩;have s5:=Same.upd_new (o:=.lst (kp.map V.int)) hpk';have e5:upd H4 pk' (.lst (kp.map V.int)) pk'=some (.lst (kp.map V.int)):=am;generalize upd H4 pk' (.lst (kp.map V.int))=H5 at s5 e5 ⊢
  refine⟨_,rfl,_,rfl,qU ne (b3.mono) λx H6 s6 hx rx=>?_⟩;refine⟨_,rfl,_,rfl,qU ne (b3.mono) λy H7 s7 hy ry=>?_⟩;have u7:=s5.trans (s6.trans s7);have t7:=t4.trans u7;refine⟨_,rfl,pk',x,y,pp,l',lk',qs,ls,kp,r,xs,_,_,_,_,rfl,u7 _ _ e4,rx.same s7,ry,pB ne b1,pL ne b3,pB ne b2,pL ne b3,(s6.trans s7) _ _ e5,(s3.trans (s4.trans u7)) _ _ e2,hq.same (s2.trans (s3.trans (s4.trans u7))),hB,(s4.trans u7) _ _ e3,hL.same t7,hX,tk,kl,kb,r1000,x1000,λb H8 s8 hb=>k b H8 (t7.trans s8) hb⟩
theorem TuH.app{H:Hp}{ps qs:List Addr}{xs ys:List (List Int)}(h:TuH H ps xs)(h':TuH H qs ys):TuH H (ps++qs) (xs++ys):=by
 refine⟨by rw[Fp,Fp,h.1,h'.1],λi p zs e1 e2=>?_⟩;by_cases hi:i<ps.length
 ·rw[List.getElem?_append_left hi]at e1;rw[List.getElem?_append_left (by rw[<- h.1];exact hi)]at e2;exact h.2 i p zs e1 e2
 ·rw[List.getElem?_append_right (by omega)]at e1;rw[List.getElem?_append_right (by rw[<- h.1];omega),<- h.1]at e2;exact h'.2 _ p zs e1 e2
theorem sP:∀ss:List (List Int),(∀s∈ss,2<=s.length)->ss.length<=cz ss
 | [],_=>Fl _
 |s::ss,h=>by
  have h1:=h s (Fx ..);have h2:=sP ss λx hx=>h x (Fs _ hx)
  rw[FI,cz];omega
theorem qf:∀ss:List (List Int),(∀s∈ss,s≠[])->(prd ss).length=cz ss+1/\prd ss≠[]
 | [],_=>⟨rfl,by decide⟩
 |s::ss,h=>by
  have h1:=h s (Fx ..);obtain⟨h2,h3⟩:=qf ss λx hx=>h x (Fs _ hx)
  have e:(ad s (prd ss)).length=s.length+(prd ss).length-1:=bN h1 h3;have h4:=Fm.mpr h1;show(ad s (prd ss)).length=(s.length-1)+cz ss+1/\ad s (prd ss)≠[];refine⟨by omega,λz=>?_⟩;rw[z]at e;have:0=s.length+(prd ss).length-1:=e;omega
theorem sU{a b c m:Int}(h:CubOk a b c m):AllB 14 (aL m a b c):=by
 obtain⟨s1,s2,s3⟩:=h.small;have a9:=h.a9;have q1:(a*a).natAbs<=9*9:=bU (by omega) (by omega);have q2:(a*a*a).natAbs<=9*9*9:=bU q1 (by omega);have q3:(3*m*(b*c)*a).natAbs<=3*7*(3*3)*9:=bU s3 (by omega);have en:=kJ m a b c;intro x hx;simp only[aL,Ft,G7,or_false]at hx;rcases hx with rfl |rfl |rfl |rfl
 ·rw[en];show(-(a*a*a+m*(b*b*b)+m*m*(c*c*c)-3*m*(b*c)*a)).natAbs<16384;omega
 ·show(3*(a*a)-3*m*(b*c)).natAbs<16384;omega
 ·show(-3*a).natAbs<16384;omega
 ·show(1:Int).natAbs<16384;decide
theorem iY{f:List Int}(h:Fac 11 f):Fac11 f:=h
theorem lO{f:List Int}(h:Fac 11 f):Fac 100000000 f:=by obtain⟨u,e,b,rfl,h1,h2,h3,h4,h5,h6,h7⟩:=h;exact⟨u,e,b,rfl,by omega,by omega,h3,h4,h5,h6,h7⟩
theorem oi{f l:List Int}(h:Fac 11 f)(hl:l∈spF f):SpK l/\bX l=sdR l:=by obtain⟨u,e,b,rfl,h1,h2,h3,h4,h5,h6,h7⟩:=h;obtain⟨_,s,rfl,he,hs⟩:=eC rfl h5 hl;exact⟨.inr (.inr ⟨u,e,b,s,rfl,h1,h2,he,h4,h5,h6,hs⟩),rfl⟩
theorem oj{fs:List (List Int)}(hF:∀f∈fs,Fac 11 f):(∀l∈spots fs,SpK l)/\(spots fs).map bX=(spots fs).map sdR:=by
 refine⟨λl hl=>?_,GF λl hl=>?_⟩
 ·obtain⟨f,hf,hm⟩:=List.mem_flatMap.mp hl;exact(oi (hF f hf) hm).1
 ·obtain⟨f,hf,hm⟩:=List.mem_flatMap.mp hl;exact(oi (hF f hf) hm).2
structure PolK(KP:List Int)(ls:List (List Int)):Prop where
 fel:Fel KP ls
 pln:Pln KP
 two:2<=KP.length
 len:KP.length<=7
 b:AllB 500 KP
 ne:0<ls.length
 few:ls.length<=10
theorem wQ{a b c m:Int}(hC:CubOk a b c m){fs:List (List Int)}(hF:∀f∈fs,Fac 11 f)(hn:(fs.map ar).Nodup)(hd:cz (fs.map ar)<=2):PolK (ad (aL m a b c) (prd (fs.map ar))) ([a,b,c,m,0]::spots fs)/\bH [1] (fs.map ar)=prd (fs.map ar)/\fs.length<=2/\AllB 160 (prd (fs.map ar))/\(prd (fs.map ar)).length<=3:=by
 have hFb:∀f∈fs,Fac 100000000 f:=λf h=>lO (hF f h)
 have hFG:∀f∈fs,FacG f:=λf h=>(iY (hF f h)).g
 have ne:∀s∈fs.map ar,s≠[]:=λs hs=>by obtain⟨f,hf,rfl⟩:=Fo.mp hs;exact(fE (hFb f hf)).2.1
 have fl:fs.length<=2:=by
  have:=sP (fs.map ar) λx hx=>by obtain⟨y,hy,rfl⟩:=Fo.mp hx;exact(fE (hFb y hy)).2.2.2.1
  rw[Fk]at this;omega
 obtain⟨pl,pn⟩:=qf _ ne
 have ep:bH [1] (fs.map ar)=prd (fs.map ar):=kC λs hs=>by obtain⟨f,hf,rfl⟩:=Fo.mp hs;exact fc (hFG f hf)
 obtain⟨i1,_⟩:=kD hFb fs.length (Fl _) (by omega);rw[FS,ep]at i1;have i2:AllB 160 (prd (fs.map ar)):=i1.mono (by omega);have c4:(aL m a b c).length=4:=rfl;have ll:(ad (aL m a b c) (prd (fs.map ar))).length=(aL m a b c).length+(prd (fs.map ar)).length-1:=bN (fg m a b c).ne pn;have ct:=Bs hC (λf h=>iY (hF f h)) hn rfl (by omega);obtain⟨sp,em⟩:=oj hF;refine⟨⟨⟨?_,λl hl=>?_⟩,?_,by omega,by omega,?_,Nat.succ_pos _,?_⟩,ep,fl,i2,by omega⟩
 ·rw[FZ,em];exact ct
 ·rcases Ft.mp hl with rfl |hl
  ·exact .inl ⟨a,b,c,m,rfl,hC⟩
  ·exact sp l hl
 ·exact gz (aL m a b c::fs.map ar) λs hs=>by
   rcases Ft.mp hs with rfl |hs
   ·exact fg m a b c
   ·obtain⟨f,hf,rfl⟩:=Fo.mp hs;exact(fc (hFG f hf)).pln
 ·exact qS ((sU hC).mono (k:=14) (by decide)) i2 (by rw[c4];decide)
 ·have:=gn fs;rw[FI];omega
theorem wP{l:List Int}(h:Fac 11 l)(he:0<=cf l 1):PolK (ar l) (spots [l]):=by
 obtain⟨g1,g2,g3,g4,g5⟩:=fE (lO h);have hFG:∀f∈[l],FacG f:=λf hf=>by rw[Fu.mp hf];exact(iY h).g
 have ct:=Br (fs:=[l]) hFG (by simp) (P:=ar l) (by show ar l=ad (ar l) [1];rw[iG]) (by omega);obtain⟨sp,em⟩:=oj (fs:=[l]) λf hf=>by rw[Fu.mp hf];exact h
 refine⟨⟨by rw[em];exact ct,sp⟩,(fc (iY h).g).pln,g4,by omega,g3.mono,?_,?_⟩
 ·have:spots [l]=spF l:=by unfold spots;rw[List.flatMap_cons,List.flatMap_nil,List.append_nil]
  rw[this];unfold spF;rw[if_pos he];simp
 ·have:=gn [l];have:([l]:List (List Int)).length=1:=rfl;omega
theorem o9{t n t' n':Int}(hn:0<n)(hn':0<n')(e:t*n'=t'*n)(r:List (List Int)):sgs t n r=sgs t' n' r:=by
 unfold sgs;refine GF λf _=>?_
 rw[dw hn,dw hn'];have:((t:Rat)/(n:Rat))=((t':Rat)/(n':Rat)):=Rat.le_antisymm (Gj.mp λw=>absurd ((cR hn' hn).mp w) (by omega)) (Gj.mp λw=>absurd ((cR hn hn').mp w) (by omega));rw[this]
theorem ix{t b:Int}(hb:b≠0):rt t b*b=t*rb t b:=by
 have h1:=pA (t:=t) hb;have h2:=kz (t:=t) hb;generalize dv t b=d at h1 h2
 generalize rt t b=x at h1 ⊢
 generalize rb t b=y at h2 ⊢
 rw[<- h1,<- h2];grind
theorem qi{KP:List Int}{ls:List (List Int)}(K:PolK KP ls){l:List Int}(hl:l∈ls){s:Int×Int×Int}{j:Nat}(S:SpG l s j)(hA:cO ls l s):PapR KP (aO 9 KP (ah (slopeL KP)))/\Run 9 (ah KP) (ah (slopeL KP))/\ah KP=KP/\(chS (sgs s.1 s.2.2 (aO 9 KP (ah (slopeL KP))))).1-(chS (sgs s.2.1 s.2.2 (aO 9 KP (ah (slopeL KP))))).1=1:=by
 obtain⟨R1,R2,R3⟩:=xa K.pln K.fel.ct K.len K.two K.b;have p:=S.pos;have hs:slopeL KP≠[]:=λz=>by have:=e8 KP;rw[z]at this;have:0=KP.length-1:=this;have:=K.two;omega
 have c:=K.fel.ct.row hs (N:=8) (by have:=K.len;omega) (t:=s.1) (t':=s.2.1) p p (Gy (by have:=S.w;omega) p);rw[R3,K.fel.one hl S hA]at c;refine⟨R1,R2,R3,?_⟩;rw[tz,tz];exact c
theorem wO{KP:List Int}{ls:List (List Int)}(K:PolK KP ls){l:List Int}(hl:l∈ls){s:Int×Int×Int}{j:Nat}(S:SpG l s j)(hA:cO ls l s):jh KP (aO 9 KP (ah (slopeL KP))) (bi (aO 9 KP (ah (slopeL KP)))) (rt s.1 s.2.2) (rb s.1 s.2.2) (rt s.2.1 s.2.2) (rb s.2.1 s.2.2):=by
 obtain⟨R1,_,_,c⟩:=qi K hl S hA;have p:=S.pos;have ne:s.2.2≠0:=by omega
 have e1:=ix (t:=s.1) ne;have e2:=ix (t:=s.2.1) ne;have q1:=iw (t:=s.1) ne;have q2:=iw (t:=s.2.1) ne;refine⟨R1.hot,?_,?_⟩
 ·refine G1 (a:=s.2.2) ?_ (Fq p);have h1:rt s.1 s.2.2*rb s.2.1 s.2.2*s.2.2=s.1*(rb s.1 s.2.2*rb s.2.1 s.2.2):=by rw[show ∀x y z:Int,x*y*z=x*z*y fromλx y z=>by grind,e1];grind
  have h2:rt s.2.1 s.2.2*rb s.1 s.2.2*s.2.2=s.2.1*(rb s.1 s.2.2*rb s.2.1 s.2.2):=by rw[show ∀x y z:Int,x*y*z=x*z*y fromλx y z=>by grind,e2];grind
  rw[h1,h2];exact Gy (by have:=S.w;omega) (Fz q1 q2)
 ·rw[o9 q1 p e1,o9 q2 p e2];exact c
theorem BI(x:Rat)(s:Rat->Int)(S:List (Rat->Int)):cpr x (S++[s])=cpr x (s::S):=by rw[ja];simp only[cpr];rw[FT,FX]
theorem BH{P:List Int}{s:Rat->Int}{S:List (Rat->Int)}(C:Cts P (s::S)):Cts P (S++[s]):=by
 obtain⟨t,n,c,cu,⟨ε,hε,hs⟩,ap⟩:=C;refine⟨t,n,c,λu hu=>?_,⟨ε,hε,λx=>by rw[BI];exact hs x⟩,λx y hxy hw=>?_⟩
 ·rcases FY.mp hu with h |h
  ·exact cu u (Fs _ h)
  ·rw[Fu.mp h];exact cu s (Fx ..)
 ·obtain⟨h1,h2⟩:=Hy.mp (ap x y hxy hw);refine List.pairwise_append.mpr ⟨h2,by simp,λa ha b hb=>?_⟩;rw[Fu.mp hb]
  exactλz=>h1 a ha ⟨z.2,z.1⟩
theorem wM{KP l:List Int}{ls:List (List Int)}(K:PolK KP (l::ls)):PolK KP (ls++[l]):=by
 obtain⟨⟨ct,sp⟩,p,t,n,b,ne,few⟩:=K;refine⟨⟨?_,λx hx=>?_⟩,p,t,n,b,by rw[Fp];show 0<ls.length+1;omega,by rw[Fp];rw[FI]at few;exact few⟩
 ·rw[FD];rw[FZ]at ct;exact BH ct
 ·rcases FY.mp hx with h |h
  ·exact sp x (Fs _ h)
  ·rw[Fu.mp h];exact sp l (Fx ..)
theorem wN{a:Int}(h1 : -9<=a)(h2:a<=9):PolK [-a,1] [[a,0,0,2,0]]:=by
 have hf:Fac 11 [a,0,1]:=⟨a,0,1,rfl,by omega,by omega,by decide,by decide,by decide,by decide,.inl (Gs _)⟩;obtain⟨⟨ct,sp⟩,p,t,n,b,ne,few⟩:=wP hf (Gs _);rw[xv]at ct p t n b;have es:spots [[a,0,1]]=[[a,0,1,1]]:=rfl;rw[es]at ct;refine⟨⟨?_,λl hl=>?_⟩,p,t,n,b,Nat.one_pos,by show 1<=10;decide⟩
 ·have e:([[a,0,1,1]]:List (List Int)).map bX=[[a,0,0,2,0]].map bX:=by show[bX [a,0,1,1]]=[bX [a,0,0,2,0]];rw[lY];rfl
  rw[<- e];exact ct
 ·rw[Fu.mp hl];exact .inr (.inl ⟨a,rfl,h1,h2⟩)
theorem sS(xs:List V):cN xs none (some (-1))=xs.take (xs.length-1):=by
 unfold cN HT.sIx;simp
 congr 1
 omega
theorem Ax{kp:List Int}{r:List (List Int)}(PR:PapR kp r)(ys:List Lnk):¬HotP kp (r.take (r.length-1)) ys:=λh=>by
 have h2:=h.two;have hl:(r.take (r.length-1)).length=r.length-1:=by rw[FE];omega
 rw[hl]at h2;have h3:=h.lst;rw[hl,rT (by omega)]at h3;have e:r.length-1=(r.length-3)+2:=by omega
 have hs:=PR.step (r.length-3) (by omega);have nl:=iD (one:=r.getD (r.length-3) []) (PR.at (show r.length-3+1<r.length by omega)).ne;rw[<- hs,<- e,PR.last,show r.length-3+1=r.length-1-1 by omega,h3]at nl;omega
theorem BZ{kp:List Int}{r:List (List Int)}{xs:List Lnk}{s:Int×Int×Int}(n0:0<s.2.2)(w:s.2.1=s.1+128):¬jh kp r xs (rt s.2.1 s.2.2) (rb s.2.1 s.2.2) (rt s.1 s.2.2) (rb s.1 s.2.2):=λh=>by
 have ne:s.2.2≠0:=by omega
 have e1:=ix (t:=s.1) ne;have e2:=ix (t:=s.2.1) ne;have q1:=iw (t:=s.1) ne;have q2:=iw (t:=s.2.1) ne;have h1:=Gy h.2.1 n0;have h2:rt s.1 s.2.2*rb s.2.1 s.2.2*s.2.2=s.1*(rb s.1 s.2.2*rb s.2.1 s.2.2):=by rw[show ∀x y z:Int,x*y*z=x*z*y fromλx y z=>by grind,e1];grind
 have h3:rt s.2.1 s.2.2*rb s.1 s.2.2*s.2.2=s.2.1*(rb s.1 s.2.2*rb s.2.1 s.2.2):=by rw[show ∀x y z:Int,x*y*z=x*z*y fromλx y z=>by grind,e2];grind
 rw[h2,h3]at h1;have:=Gy (show s.1<s.2.1 by omega) (Fz q1 q2);omega
theorem wk{Kk:Bool->Hp->Prop}{t1 t2 t3:TT}{σ:St}{H:Hp}{p1 p2 p3:Prop}[Decidable p1][Decidable p2][Decidable p3](h1:∀K':Bool->Hp->Prop,K' (decide p1) H->t1 σ H K')(h2:∀K':Bool->Hp->Prop,K' (decide p2) H->t2 σ H K')(h3:∀K':Bool->Hp->Prop,K' (decide p3) H->t3 σ H K')(yes:p1->p2->p3->Kk true H)(no:¬(p1/\p2/\p3)->Kk false H):gZ t1 (gZ t2 t3) σ H Kk:=by
 refine cK (h1 _ ?_);refine aG (λq1=>?_) (λq1=>no λz=>q1 z.1);refine cK (h2 _ ?_);refine aG (λq2=>?_) (λq2=>no λz=>q2 z.2.1);refine h3 _ ?_;by_cases q3:p3
 ·rw[decide_eq_true q3];exact yes q1 q2 q3
 ·rw[decide_eq_false q3];exact no λz=>q3 z.2.2
theorem xI(F:Fun K "law" "law" ii f fd)(T:Txt K mg)(R:RCI K mg C)(DP:Cal P w K mg base 2 "_law_cube_by" ["_law_cell","_law_other","_law_m"] oP Fb Eu)(DQ:Cal P w K mg base 1 "_law_cell_at" ["_law_script","_law_k"] (hG K) Fc Ev)(DL:Cal P w K mg base 36 "_law_factors_by" ["_law_drawn","_law_most","_law_room"] (oH K) E7 Ep)(nu:Cal P w K mg base 1 "_law_mul" ["_law_kp","_law_kq"] dO Bh A6)(DH:Cal P w K mg base 36 "_law_product" ["_law_factors"] oz E3 El)(DO:Cal P w K mg base 2 "_law_cube_shape" ["_law_cube"] oM Fa Et)(DC:Cal P w K mg base 5 "_law_span" ["_law_spots","_law_spot","_law_more_here"] oq EW Eh)(DG:Cal P w K mg base 1 "_law_roots_of" ["_law_factors"] oy EZ Ek)(DJ:Cal P w K mg base 34 "_law_paper" ["_law_kp"] oB E5 En)(DB:Cal P w K mg base 3 "_law_spoilt_links" ["_law_links","_law_way_here","_law_cell","_law_many"] ot EV Eg)(DA:Cal P w K mg base 3 "_law_spoilt_row" ["_law_row","_law_cell","_law_many"] oo EU Ef)(DR:Cal P w K mg base 36 "_law_asked" ["_law_kp","_law_low","_law_high","_law_row","_law_links","_law_bottom"] (oQ C) Fd Ew):FnOk P w K mg base CX0 40 f fd ["_law_script"] (g8 K):=by
 obtain⟨De,zv,Ap,Cr⟩:=DP;obtain⟨dq,c9,da,dk⟩:=DQ;obtain⟨Db,zr,Am,Co⟩:=DL;obtain⟨m5,kZ,lC,mM⟩:=nu;obtain⟨C4,zp,Aj,Cm⟩:=DH;obtain⟨Dd,zu,Ao,Cq⟩:=DO;obtain⟨CW,zj,Af,Ci⟩:=DC;obtain⟨C0,zo,Ai,Cl⟩:=DG;obtain⟨Da,zq,Ak,Cn⟩:=DJ;obtain⟨CV,zi,Ae,Ch⟩:=DB;obtain⟨CU,zh,Ad,Cg⟩:=DA;obtain⟨jk,iK,iQ,jf⟩:=DR;refine F.ok sc_law (λvs H Q E h=>?_) (λcdv A outer s H vs Q E hr h=>?_)
 ·obtain⟨a,ns,rfl,_⟩:=h;rfl
 ·obtain⟨sa,ns,rfl,hS,hlen,fin⟩:=h;have hu:(A.deeper (PyProof.Rows.envOfC (Str.ofString "law") (ax ii) s.heap.objs.size f cdv)).units+66<cLine:=by have:=hr.un;omega
  have big:=sizeLine_eq
  refine⟨_,(ag (aq (i:=1) sc_law.nd rfl (Or.inl rfl) (av De (hr.mono) rfl zv Ap Cr .nil au (aa (av dq (hr.mono) rfl c9 da dk .nil au (aa (pv 0) (aa ac ae))) (aa (av dq (hr.mono) rfl c9 da dk .nil au (aa (pv 0) (aa ac ae))) (aa (av dq (hr.mono) rfl c9 da dk .nil au (aa (pv 0) (aa ac ae))) ae)))))
   (ag (aq (i:=2) sc_law.nd rfl (Or.inl rfl) (av Db (hr.mono) rfl zr Am Co .nil au (aa (fS (fD (K:=K) rfl) (pv 0) (fO ac) fQ) (aa ac (aa ac ae)))))
   (ag (aQ (aC bz (af bJ (av dq (hr.mono) rfl c9 da dk .nil au (aa (pv 0) (aa ac ae))) ac) ac (ay _))
     (ag (aq (i:=1) sc_law.nd rfl (Or.inl rfl) (b5 (aa (al (aw (K:=K) rfl) (pv 1) ac (λ_ _=>rfl)) (aa ac (aa ac (aa ac (aa ac ae)))))))
       (ak (aq (i:=2) sc_law.nd rfl (Or.inl rfl) (bI ae))))
     aR)
   (ag (aq (i:=3) sc_law.nd rfl (Or.inl rfl) (av m5 (hr.mono) rfl kZ lC mM .nil au (aa (av C4 (hr.mono) rfl zp Aj Cm .nil au (aa (pv 2) ae)) (aa (av Dd (hr.mono) rfl zu Ao Cq .nil au (aa (pv 1) ae)) ae))))
   (ag (aq (i:=4) sc_law.nd rfl (Or.inl rfl) (av CW (hr.mono) rfl zj Af Ci .nil au (aa (af xr (av C0 (hr.mono) rfl zo Ai Cl .nil au (aa (pv 2) ae)) (bI (aa (pv 1) ae))) (aa (pv 1) (aa (af bJ (af eU (av dq (hr.mono) rfl c9 da dk .nil au (aa (pv 0) (aa ac ae))) ac) ac) ae)))))
   (ag (aq (i:=5) sc_law.nd rfl (Or.inl rfl) (av Da (hr.mono) rfl zq Ak Cn .nil au (aa (pv 3) ae)))
   (ag (aq (i:=6) sc_law.nd rfl (Or.inl rfl) (al (aw (K:=K) rfl) (pv 5) ac (λ_ _=>rfl)))
   (ag (aq (i:=7) sc_law.nd rfl (Or.inl rfl) (al (aw (K:=K) rfl) (pv 5) ac (λ_ _=>rfl)))
   (ag (aq (i:=8) sc_law.nd rfl (Or.inl rfl) (af bJ (av dq (hr.mono) rfl c9 da dk .nil au (aa (pv 0) (aa ac ae))) ac))
   (ag (aq (i:=9) sc_law.nd rfl (Or.inl rfl) (af aJ (af aZ ac (af bJ (af eU (av dq (hr.mono) rfl c9 da dk .nil au (aa (pv 0) (aa ac ae))) ac) ac)) (af aV ac (af aJ ac (af bJ (av dq (hr.mono) rfl c9 da dk .nil au (aa (pv 0) (aa ac ae))) ac)))))
   (ag (aq (i:=10) sc_law.nd rfl (Or.inl rfl) (af bJ (av dq (hr.mono) rfl c9 da dk .nil au (aa (pv 0) (aa ac ae))) ac))
   (ag (aQ (PW.pt (cE (aC cT (pv 10) ac (ay _)) (cE (aC cF (pv 10) ac (ay _)) (cS (aC cT (aP (aY (K:=K) rfl) (by rfl) T.len_ PySem.boot_len (aa (pv 7) ae)) ac (ay _))))))
     (ak (aq (i:=7) sc_law.nd rfl (Or.inl rfl) (av CV (hr.mono) rfl zi Ae Ch .nil au (aa (pv 7) (aa (pv 10) (aa (pv 8) (aa (pv 9) ae)))))))
     (ak (aQ (aC bz (pv 10) ac (ay _))
       (ag (aq (i:=6) sc_law.nd rfl (Or.inl rfl) (fS (fD (K:=K) rfl) (pv 6) fQ (fO (cx cp ac))))
         (ak (aq (i:=7) sc_law.nd rfl (Or.inl rfl) (fS (fD (K:=K) rfl) (pv 7) fQ (fO (cx cp ac))))))
       (ak (aQ (aC cF (pv 10) ac (ay _))
         (ak (aq (i:=6) sc_law.nd rfl (Or.inl rfl) (av CU (hr.mono) rfl zh Ad Cg .nil au (aa (pv 6) (aa (pv 8) (aa (pv 9) ae))))))
         aR)))))
   (ag (aq (i:=11) sc_law.nd rfl (Or.inl rfl) (bI (aa dD (aa dD ae))))
   (ag (ca PassesOwn.never rfl (cm (K:=K) rfl (al (bj (K:=K) rfl) (bI (aa (bI (aa ac (aa ac ae))) (aa (bI (aa ac (aa ac ae))) ae))) (af bJ (af eU (av dq (hr.mono) rfl c9 da dk .nil au (aa (pv 0) (aa ac ae))) ac) ac) (λ_ _=>rfl))) (aS (i:=12) sc_law.nd rfl (Or.inl rfl))
     (ag (aQ (aC bz (pv 12) ac (ay _))
       (ak (cr (av jk (hr.mono) rfl iK iQ jf .nil au (aa (pv 3) (aa (al (aw (K:=K) rfl) (pv 4) ac (λ_ _=>rfl)) (aa (al (aw (K:=K) rfl) (pv 4) ac (λ_ _=>rfl)) (aa (al (aw (K:=K) rfl) (pv 5) ac (λ_ _=>rfl)) (aa (al (aw (K:=K) rfl) (pv 5) ac (λ_ _=>rfl)) (aa (al (aw (K:=K) rfl) (pv 4) ac (λ_ _=>rfl)) ae))))))) (cw (pv 11) ac cq)))
       aR)
       (ag (aQ (PW.pt (cE (aC bz (pv 12) ac (ay _)) (cS (aC cF (pv 10) ac (ay _)))))
         (ak (cr (av jk (hr.mono) rfl iK iQ jf .nil au (aa (pv 3) (aa (al (aw (K:=K) rfl) (pv 4) ac (λ_ _=>rfl)) (aa (al (aw (K:=K) rfl) (pv 4) ac (λ_ _=>rfl)) (aa (pv 6) (aa (pv 7) (aa (al (aw (K:=K) rfl) (pv 4) ac (λ_ _=>rfl)) ae))))))) (cw (pv 11) ac cq)))
         aR)
       (ag (aQ (PW.pt (cE (aC bz (pv 12) ac (ay _)) (cS (aC bz (pv 10) ac (ay _)))))
         (ak (cr (av jk (hr.mono) rfl iK iQ jf .nil au (aa (pv 3) (aa (al (aw (K:=K) rfl) (pv 4) ac (λ_ _=>rfl)) (aa (al (aw (K:=K) rfl) (pv 4) ac (λ_ _=>rfl)) (aa (pv 6) (aa (pv 7) (aa (al (aw (K:=K) rfl) (pv 4) ac (λ_ _=>rfl)) ae))))))) (cw (pv 11) ac cq)))
         aR)
       (ak (aQ (PW.pt (cE (aC bz (pv 12) ac (ay _)) (cS (aC bz (pv 10) ac (ay _)))))
         (ak (cr (av jk (hr.mono) rfl iK iQ jf .nil au (aa (pv 3) (aa (al (aw (K:=K) rfl) (pv 4) ac (λ_ _=>rfl)) (aa (al (aw (K:=K) rfl) (pv 4) ac (λ_ _=>rfl)) (aa (pv 6) (aa (pv 7) (aa (al (aw (K:=K) rfl) (pv 4) ac (λ_ _=>rfl)) ae))))))) (cw (pv 11) ac cq)))
         aR))))))
   (ak (aD (iB (aP (tH (K:=K) rfl) (by rfl) T.isinstance_ PyProof.Rows.boot_isinstance (aa (al (bj (K:=K) rfl) (pv 11) ac (λ_ _=>rfl)) (aa (qq (v:=.ty "bool") (by rfl) T.bool_ PyProof.Rows.boot_bool (by rfl)) ae))) (iB (aP (tH (K:=K) rfl) (by rfl) T.isinstance_ PyProof.Rows.boot_isinstance (aa (al (bj (K:=K) rfl) (pv 11) ac (λ_ _=>rfl)) (aa (qq (v:=.ty "bool") (by rfl) T.bool_ PyProof.Rows.boot_bool (by rfl)) ae))) (qo (gB (xo (K:=K) rfl hu) (pv 11) (bI (aa dD (aa dD ae))) (ay _))))))))))))))))))))),?_⟩
  refine aE ⟨_,rfl,sa,ns,0,rfl,hS,_,rfl,sa,ns,1,rfl,hS,_,rfl,sa,ns,2,rfl,hS,_,_,_,rfl,λp a b c H1 s1 hp hCT hC=>?_⟩;generalize 2+ns.getD 2 0%6=m at hCT hC
  show br _ _ _ [some (.ref sa),some (.ref p),none,none,none,none,none,none,none,none,none,none,none] H1;refine aE ⟨_,rfl,7,rfl,sa,_,rfl,s1.seq hS,λp5 hp5=>?_⟩;rw[sR];have t5:=s1.then_new (o:=.lst ((cj ns (some 7) none).map V.int)) hp5;have v5:=Same.upd_new (o:=.lst ((cj ns (some 7) none).map V.int)) hp5;have h55:upd H1 p5 (.lst ((cj ns (some 7) none).map V.int)) p5=some (.lst ((cj ns (some 7) none).map V.int)):=am;generalize upd H1 p5 (.lst ((cj ns (some 7) none).map V.int))=H5 at t5 v5 h55 ⊢
  have hcs:(cj ns (some 7) none).length<=ns.length:=Bv ns _ _;generalize cj ns (some 7) none=cs at h55 hcs ⊢
  refine⟨p5,cs,11,2,rfl,by decide,by decide,SqL.of h55,by omega,λpf H6 qs fs s6 hpf ef hT hF hnd hdg=>?_⟩;have t6:=t5.trans s6;have hCT6:=(v5.trans s6) _ _ hCT;show br _ _ _ [some (.ref sa),some (.ref p),some (.ref pf),none,none,none,none,none,none,none,none,none,none] H6;refine cJ (λσ' H'=>∃(p pf:Addr) (qs:List Addr) (fs:List (List Int)) (a b c m:Int),σ'=[some (.ref sa),some (.ref p),some (.ref pf),none,none,none,none,none,none,none,none,none,none]/\Same H H'/\CT H' p a b c m/\H' pf=some (.lst (qs.map V.ref))/\TuH H' qs fs/\(∀f∈fs,Fac 11 f)/\(fs.map ar).Nodup/\cz (fs.map ar)<=2/\(CubOk a b c m\/(b=0/\c=0/\m=2 /\ -9<=a/\a<=9/\fs=[]))) ?_ ?_
  case refine_2 =>intro rest;refine⟨_,rfl,sa,ns,3,rfl,t6.seq hS,_,_,rfl,rfl,(by show(0:Int)<4;decide),_,_,rfl,rfl,_,rfl,aG (λ_=>?_) (λ_=>rest _ _ ⟨p,pf,qs,fs,a,b,c,m,rfl,t6,hCT6,ef,hT,hF,hnd,hdg,.inl hC⟩)⟩;refine aE ⟨_,rfl,p,_,_,_,rfl,rfl,SqT.of hCT6,rfl,by show 5<=sizeLine;decide,λp2 hp2=>?_⟩;have w1:=Same.upd_new (o:=.tup [.int a,.int 0,.int 0,.int 2,.int 0]) hp2;have f1:CT (upd H6 p2 (.tup [.int a,.int 0,.int 0,.int 2,.int 0])) p2 a 0 0 2:=am;refine cQ ⟨Fn _,λpf2 hpf2=>?_⟩;have w2:=Same.upd_new (o:=.lst []) hpf2;exact rest _ _ ⟨p2,pf2,[],[],a,0,0,2,rfl,t6.trans (w1.trans w2),w2 _ _ f1,am,TuH.nil,λf h=>(nomatch h),List.nodup_nil,by decide,.inr ⟨rfl,rfl,rfl,hC.a9.1,hC.a9.2,rfl⟩⟩
  clear hC hCT hCT6 hp hT hF hnd hdg ef hpf s6 t6 t5 v5 h55 hp5 s1;clear H6 H5 H1 p pf qs fs a b c m;rintro σ' H0 ⟨p,pf,qs,fs,a,b,c,m,rfl,s0,hCT,ef,hT,hF,hnd,hdg,hC⟩;have fac:∀l∈fs,Fac 100000000 l:=λl h=>lO (hF l h)
  obtain⟨KP,PK,kpR⟩:∃KP,PolK KP (spots fs++[[a,b,c,m,0]])/\((∃X,X=prd (fs.map ar)/\bH [1] (fs.map ar)=X/\AllB 160 X/\X.length<=3/\fs.length<=2)/\((CubOk a b c m/\KP=ad (prd (fs.map ar)) (aL m a b c))\/(b=0/\c=0/\KP=ad (prd (fs.map ar)) [-a,1] /\ -9<=a/\a<=9))):=by
   rcases hC with hC |⟨rfl,rfl,rfl,h1,h2,rfl⟩
   ·obtain⟨PK0,ep,fl,pb,pl⟩:=wQ hC hF hnd hdg;exact⟨_,wM PK0,⟨_,rfl,ep,pb,pl,fl⟩,.inl ⟨hC,gD _ _⟩⟩
   ·refine⟨[-a,1],wN h1 h2,⟨_,rfl,rfl,λx hx=>?_,by decide,by decide⟩,.inr ⟨rfl,rfl,?_,h1,h2⟩⟩
    ·have:x=1:=by simpa[prd]using hx
     rw[this];exact bG (by decide) (by decide)
    ·show[-a,1]=ad [1] [-a,1];rw[gF]
  obtain⟨⟨X,eX,ep,pb,pl,fl⟩,hk⟩:=kpR;rw[<- eX]at hk;refine aE ⟨_,rfl,pf,qs,fs,rfl,ef,hT,fac,by omega,λr2 H1 s1 hr2 e2=>?_⟩;rw[ep]at e2;refine⟨_,rfl,p,a,b,c,m,rfl,s1 _ _ hCT,?_⟩;have mkp:∀{r1:Addr} {ys:List Int} {H2:Hp},Same H1 H2->H2 r1=some (.lst (ys.map V.int))->ys.length<=4->AllB 14 ys->KP=ad X ys->∀{Q':VK},(∀(pk:Addr) (H3:Hp),Same H1 H3->H3 pk=some (.lst (KP.map V.int))->Q' (.ref pk) H3)->dO [.ref r2,.ref r1] H2 Q' E0:=λ{r1 ys H2} s2 e1 yl yb eK {Q'} kk=>⟨r2,r1,X,ys,rfl,s2 _ _ e2,e1,by omega,by omega,pb.mono,yb.mono,λpk H3 s3 _ ek=>kk pk H3 (s2.trans s3) (by rw[eK];exact ek)⟩
  have fork:∀{Q':VK},(∀(pk:Addr) (H3:Hp),Same H1 H3->H3 pk=some (.lst (KP.map V.int))->Q' (.ref pk) H3)->((CubOk a b c m/\mkL H1 (λv H'=>dO [.ref r2,v] H' Q' E0) (aL m a b c))\/(b=0/\c=0/\mkL H1 (λv H'=>dO [.ref r2,v] H' Q' E0) [-a,1])):=λ{Q'} kk=>by
   rcases hk with⟨hC',eK⟩ |⟨hb,hc,eK,h1,h2⟩
   ·exact .inl ⟨hC',λr1 H2 s2 _ e1=>mkp s2 e1 (by show 4<=4;decide) (sU hC') eK kk⟩
   ·refine .inr ⟨hb,hc,λr1 H2 s2 _ e1=>mkp s2 e1 (by show 2<=4;decide) (λx hx=>?_) eK kk⟩;simp only[Ft,G7,or_false]at hx;rcases hx with rfl |rfl
    ·exact bG (by omega) (by decide)
    ·exact bG (by decide) (by decide)
  refine fork λpk H3 s3 ek=>?_
  have t3:=s0.trans (s1.trans s3);have v3:=s1.trans s3;have hCT3:=v3 _ _ hCT;have ef3:=v3 _ _ ef;have hT3:=hT.same v3;clear mkp fork;show br _ _ _ [some (.ref sa),some (.ref p),some (.ref pf),some (.ref pk),none,none,none,none,none,none,none,none,none] H3;obtain⟨m1,m2⟩:=ci (x:=ns.getD 3 0/4) (m:=9) (by decide);refine aE ⟨_,rfl,pf,qs,fs,rfl,ef3,hT3,fac,by omega,λv2 Hb ws w2 hv2 f2 hW=>?_⟩;refine⟨_,rfl,by show 1<=sizeLine;decide,λv1 hv1=>?_⟩;have w1:=Same.upd_new (o:=.lst [.ref p]) hv1;have f1:upd Hb v1 (.lst [.ref p]) v1=some (.lst ([p].map V.ref)):=am;have sl:=gn fs;refine⟨v2,v1,_,_,rfl,rfl,w1 _ _ f2,f1,by rw[Fk,hW.1];show _+1<=_;omega,λpz hpz=>?_⟩;have w3:=Same.upd_new (o:=.lst (ws.map V.ref++[p].map V.ref)) hpz;have ez:upd (upd Hb v1 (.lst [.ref p])) pz (.lst (ws.map V.ref++[p].map V.ref)) pz=some (.lst ((ws++[p]).map V.ref)):=by rw[am,FD]
  have x3:=w2.trans (w1.trans w3);have hW3:TuH (upd (upd Hb v1 (.lst [.ref p])) pz (.lst (ws.map V.ref++[p].map V.ref))) (ws++[p]) (spots fs++[[a,b,c,m,0]]):=(hW.same (w1.trans w3)).snoc (x3 _ _ hCT3);refine⟨_,rfl,_,rfl,sa,ns,3,rfl,(t3.trans x3).seq hS,_,_,rfl,rfl,⟨by show(0:Int)<4;decide,bG (by decide) (by decide)⟩,_,_,rfl,rfl,(by show(0:Int)<9;decide),pz,p,_,ws++[p],KP,[a,b,c,m,0],_,rfl,m1,by omega,ez,hW3,x3 _ _ hCT3,FO _ (Fu.mpr rfl),PK.fel,λts Hc sp j sc hts ets S hA hj=>?_⟩;have uc:=x3.trans sc;have tc:=t3.trans uc;have ekc:=uc _ _ ek;obtain⟨PR,hrun,eKP,hcnt⟩:=qi PK (FO _ (Fu.mpr rfl)) S hA;have hJ:=wO PK (FO _ (Fu.mpr rfl)) S hA;obtain⟨b1,b2,b3⟩:=jA S (by omega);have n0:=S.pos;have sw:=S.w;generalize hrw:aO 9 KP (ah (slopeL KP))=r at PR hcnt hJ
  clear hrun hcnt hk eX ep pb pl fl hA S hj hC hW3 ez w3 hpz sl f1 w1 hv1 hW f2 hv2 w2;show br _ _ _ [some (.ref sa),some (.ref p),some (.ref pf),some (.ref pk),some (.ref ts),none,none,none,none,none,none,none,none] Hc;refine aE ⟨_,rfl,pk,KP,r,rfl,ekc,PR,λtp l lk ps ls Hd sd etp el hR elk hLk=>?_⟩;have td:=tc.trans sd;refine aE ⟨_,rfl,tp,_,_,_,rfl,rfl,SqT.of etp,rfl,?_⟩;refine aE ⟨_,rfl,tp,_,_,_,rfl,rfl,SqT.of etp,rfl,?_⟩;refine aE ⟨_,rfl,sa,ns,5,rfl,td.seq hS,_,_,rfl,rfl,(by show(0:Int)<5040;decide),?_⟩;obtain⟨g1,g2⟩:=ci (x:=ns.getD 6 0/2) (m:=40) (by decide);obtain⟨g3,g4⟩:=ci (x:=ns.getD 6 0) (m:=2) (by decide);refine aE ⟨_,rfl,sa,ns,6,rfl,td.seq hS,_,_,rfl,rfl,⟨by show(0:Int)<2;decide,bG (by decide) (by decide)⟩,_,_,rfl,rfl,(by show(0:Int)<40;decide),_,_,rfl,rfl,_,rfl,sa,ns,6,rfl,td.seq hS,_,_,rfl,rfl,(by show(0:Int)<2;decide),_,_,rfl,rfl,⟨bG (by decide) (by decide),bG (by omega) (by decide)⟩,_,_,rfl,rfl,_,_,rfl,rfl,⟨bG (by omega) (by decide),bG (by omega) (by decide)⟩,?_⟩
  obtain⟨my,emy,m0,bm⟩:∃my:Int,(1+ns.getD 6 0/2%40)*(1-2*(ns.getD 6 0%2))=my/\my≠0/\Bits 10 my:=by refine⟨_,rfl,FB (by omega) (by omega),?_⟩;have:((1+ns.getD 6 0/2%40)*(1-2*(ns.getD 6 0%2))).natAbs<=40*1:=bU (by omega) (by omega);show((1+ns.getD 6 0/2%40)*(1-2*(ns.getD 6 0%2))).natAbs<1024;omega
  refine aE ⟨_,rfl,sa,ns,4,rfl,td.seq hS,_,_,rfl,rfl,(by show(0:Int)<10;decide),?_⟩;obtain⟨d1,d2⟩:=ci (x:=ns.getD 4 0) (m:=10) (by decide);obtain⟨way,eway⟩:∃way,ns.getD 4 0%10=way:=⟨_,rfl⟩;rw[eway]at d1 d2;obtain⟨cell,ecell⟩:∃cell,ns.getD 5 0%5040=cell:=⟨_,rfl⟩;show br _ _ _ [some (.ref sa),some (.ref p),some (.ref pf),some (.ref pk),some (.ref ts),some (.ref tp),some (.ref l),some (.ref lk),some (.int (ns.getD 5 0%5040)),some (.int ((1+ns.getD 6 0/2%40)*(1-2*(ns.getD 6 0%2)))),some (.int (ns.getD 4 0%10)),none,none] Hd;rw[emy,eway,ecell];have ll:(ls.map V.ref).length=(bi r).length:=by rw[Fk,hLk.1]
  have xl:(bi r).length=r.length-2:=by unfold bi;rw[Fk,FW]
  have r100:=PR.few;have r2':=PR.two;refine cJ (λσ' H'=>∃(l' lk':Addr) (ps' ls':List Addr) (r':List (List Int)) (xs':List Lnk),σ'=[some (.ref sa),some (.ref p),some (.ref pf),some (.ref pk),some (.ref ts),some (.ref tp),some (.ref l'),some (.ref lk'),some (.int cell),some (.int my),some (.int way),none,none]/\Same Hd H'/\H' l'=some (.lst (ps'.map V.ref))/\RwH H' ps' r'/\RwB r'/\H' lk'=some (.lst (ls'.map V.ref))/\LkH H' ls' xs'/\(∀x∈xs',LkB x)/\r'.length<=1000/\xs'.length<=1000/\(way<8->¬HotP KP r' xs')) ?_ ?_
  case refine_2 =>
   intro rest;refine wk (p1:=0<way) (p2:=way<7) (p3:=(0:Int)<((ls.map V.ref).length:Int)) (λK' h=>⟨_,rfl,_,_,rfl,rfl,_,rfl,h⟩) (λK' h=>⟨_,rfl,_,_,rfl,rfl,_,rfl,h⟩) (λK' h=>⟨_,rfl,lk,_,rfl,.inl (SqL.of elk),_,_,rfl,rfl,_,rfl,h⟩) (λq1 q2 q3=>cI ?_) (λhno=>cP ?_)
   ·refine cQ ⟨_,rfl,_,rfl,_,rfl,_,rfl,lk,ls,KP,r,way,cell,my,rfl,elk,hLk,PR,by omega,q1,q2,m0,bm,λlk' ls' xs' He w1 e' hL' hB' hl' hot=>?_⟩;exact rest _ _ ⟨l,lk',ps,ls',r,xs',rfl,w1,w1 _ _ el,hR.same w1,PR.rwb,e',hL',hB',by omega,by omega,λ_=>hot⟩
   ·refine fL ⟨_,rfl,_,_,rfl,rfl,_,rfl,aG (λz7=>?_) (λz7=>?_)⟩
    ·refine aE ⟨_,rfl,_,rfl,-1,rfl,l,_,rfl,SqL.of el,λl' hl'=>?_⟩;rw[sS,Fk,<- List.map_take];have w1:=Same.upd_new (o:=.lst ((ps.take (ps.length-1)).map V.ref)) hl';have f1:upd Hd l' (.lst ((ps.take (ps.length-1)).map V.ref)) l'=some (.lst ((ps.take (ps.length-1)).map V.ref)):=am;generalize upd Hd l' (.lst ((ps.take (ps.length-1)).map V.ref))=He at w1 f1 ⊢
     refine cQ ⟨_,rfl,_,rfl,-1,rfl,lk,_,rfl,SqL.of (w1 _ _ elk),λlk' hlk'=>?_⟩;rw[sS,Fk,<- List.map_take];have w2:=Same.upd_new (o:=.lst ((ls.take (ls.length-1)).map V.ref)) hlk';refine rest _ _ ⟨l',lk',ps.take (ps.length-1),ls.take (ls.length-1),r.take (r.length-1),(bi r).take ((bi r).length-1),rfl,w1.trans w2,w2 _ _ f1,?_,λxs hx=>PR.rwb xs (HC hx),am,?_,λx hx=>PR.lkb x (HC hx),by rw[FE];omega,by rw[FE];omega,λ_=>Ax PR _⟩
     ·refine⟨by rw[FE,FE,hR.1],λj q xs h1 h2=>?_⟩;rw[List.getElem?_take]at h1 h2;split at h1
      ·split at h2
       ·exact(w1.trans w2) _ _ (hR.2 j q xs h1 h2)
       ·cases h2
      ·cases h1
     ·refine⟨by rw[FE,FE,hLk.1],λj q x h1 h2=>?_⟩;rw[List.getElem?_take]at h1 h2;split at h1
      ·split at h2
       ·exact(hLk.2 j q x h1 h2).same (w1.trans w2)
       ·cases h2
      ·cases h1
    ·have z7':¬way=7:=z7;refine fL ⟨_,rfl,_,_,rfl,rfl,_,rfl,aG (λz8=>?_) (λz8=>?_)⟩
     ·refine cQ ⟨_,rfl,_,rfl,_,rfl,l,ps,KP,r,cell,my,rfl,el,hR,PR,m0,bm,λl' ps' r' He w1 e' hR' hB' hl' hot=>?_⟩;exact rest _ _ ⟨l',lk,ps',ls,r',bi r,rfl,w1,e',hR',hB',w1 _ _ elk,hLk.same w1,PR.lkb,by omega,by omega,λ_=>hot⟩
     ·have z8':¬way<8:=z8;exact rest _ _ ⟨l,lk,ps,ls,r,bi r,rfl,Same.refl _,el,hR,PR.rwb,elk,hLk,PR.lkb,by omega,by omega,λz=>absurd z z8'⟩
  rintro σ' He ⟨l',lk',ps',ls',r',xs',rfl,se,el',hR',hB',elk',hL',hX',r1',x1',hbad⟩;have te:=td.trans se;refine aE ⟨by show 2<=sizeLine;decide,λfl hfl=>?_⟩;have w1:=Same.upd_new (o:=.lst [.bl true,.bl false]) hfl;have f1:upd He fl (.lst [.bl true,.bl false]) fl=some (.lst [.bl true,.bl false]):=am;show br _ _ _ _ (upd He fl (.lst [.bl true,.bl false]));generalize upd He fl (.lst [.bl true,.bl false])=Hf at w1 f1 ⊢
  refine⟨by show 2<=sizeLine;decide,λx1 hx1=>?_⟩;have w2:=Same.upd_new (o:=.lst [.int 0,.int 1]) hx1;have f2:upd Hf x1 (.lst [.int 0,.int 1]) x1=some (.lst ([0,1].map V.int)):=am;refine fM (H2:=upd Hf x1 (.lst [.int 0,.int 1])) rfl ?_;generalize upd Hf x1 (.lst [.int 0,.int 1])=Hg at w2 f2 ⊢
  refine⟨by show 2<=sizeLine;decide,λx2 hx2=>?_⟩;have w3:=Same.upd_new (o:=.lst [.int 1,.int 0]) hx2;have f3:upd Hg x2 (.lst [.int 1,.int 0]) x2=some (.lst ([1,0].map V.int)):=am;refine fM (H2:=upd Hg x2 (.lst [.int 1,.int 0])) rfl ?_;generalize upd Hg x2 (.lst [.int 1,.int 0])=Hh at w3 f3 ⊢
  refine⟨by show 2<=sizeLine;decide,λx3 hx3=>?_⟩;have w4:=Same.upd_new (o:=.lst [.ref x1,.ref x2]) hx3;have f4:upd Hh x3 (.lst [.ref x1,.ref x2]) x3=some (.lst [.ref x1,.ref x2]):=am;refine fM (H2:=upd Hh x3 (.lst [.ref x1,.ref x2])) rfl ?_;have f2':=(w3.trans w4) _ _ f2;have f3':=w4 _ _ f3;have f1':=(w2.trans (w3.trans w4)) _ _ f1;have wi:=w1.trans (w2.trans (w3.trans w4));generalize upd Hh x3 (.lst [.ref x1,.ref x2])=Hi at w4 f4 f2' f3' f1' wi ⊢
  have ti:=te.trans wi;refine⟨_,rfl,sa,ns,4,rfl,ti.seq hS,_,_,rfl,rfl,⟨by show(0:Int)<10;decide,bG (by decide) (by decide)⟩,_,_,rfl,rfl,(by show(0:Int)<2;decide),?_⟩;obtain⟨k1,k2⟩:=ci (x:=ns.getD 4 0/10) (m:=2) (by decide)
  obtain⟨xt,us,hat,hxt,hus,hul⟩:∃(xt:Addr) (us:List Int),atI [V.ref x1,V.ref x2] (ns.getD 4 0/10%2)=some (.ref xt)/\Hi xt=some (.lst (us.map V.int))/\(∀u∈us,u=0\/u=1)/\us.length=2:=by
   rcases(show ns.getD 4 0/10%2=0\/ns.getD 4 0/10%2=1 by omega)with e |e<;>rw[e]
   ·exact⟨x1,[0,1],rfl,f2',by decide,rfl⟩
   ·exact⟨x2,[1,0],rfl,f3',by decide,rfl⟩
  have nxf:xt≠fl:=λz=>by
   rw[z,f1']at hxt
   injection hxt with h1
   injection h1 with h1
   match us,hul with
   | [u0,u1],_ =>
    injection h1 with h2 _
    cases h2
  refine⟨x3,_,_,_,rfl,rfl,SqL.of f4,hat,xt,rfl,⟨_,SqL.of hxt⟩,dJ (K:=K) (a:=xt) (xs:=us.map V.int) (λi σ' H'=>∃z12:Option V,σ'=[some (.ref sa),some (.ref p),some (.ref pf),some (.ref pk),some (.ref ts),some (.ref tp),some (.ref l'),some (.ref lk'),some (.int cell),some (.int my),some (.int way),some (.ref fl),z12]/\Same He H'/\H' fl=some (.lst [.bl true,.bl false])/\H' xt=some (.lst (us.map V.int))) ⟨none,rfl,wi,f1',hxt⟩ ?_ ?_ ?_⟩
  ·rintro i σ' H' _ ⟨z12,rfl,_,_,e⟩;exact SqL.of e
  ·rintro i v σ' H' hi ⟨z12,rfl,sm,efl,ext⟩;obtain⟨u,_,rfl,hu',_⟩:=cX hi;have B1:Bits 400 sp.1:=b1.mono;have B2:Bits 400 sp.2.1:=b2.mono;have B3:Bits 400 sp.2.2:=b3.mono;have base:∀{o:HO} {q:Addr} {H2:Hp},Same He H2->Hd q=some o->H2 q=some o:=λh e=>h _ _ (se _ _ e)
   have kl:=PK.len;have pt:=PK.pln.tr;have pbb:AllB 95000 KP:=PK.b.mono
   have keep:∀{H2:Hp} {bb:Bool} {j:Nat},Same H' H2->([V.bl true,V.bl false]:List V).set j (.bl bb)=[.bl true,.bl false]->Same He (upd H2 fl (.lst (([V.bl true,V.bl false]:List V).set j (.bl bb))))/\upd H2 fl (.lst (([V.bl true,V.bl false]:List V).set j (.bl bb))) fl=some (.lst [.bl true,.bl false])/\upd H2 fl (.lst (([V.bl true,V.bl false]:List V).set j (.bl bb))) xt=some (.lst (us.map V.int)):=λ{H2 bb j} s2 e=>by rw[e];exact⟨bW (sm.trans s2) hfl,am,by rw[upd_ne nxf];exact s2 _ _ ext⟩
   show br _ _ _ [some (.ref sa),some (.ref p),some (.ref pf),some (.ref pk),some (.ref ts),some (.ref tp),some (.ref l'),some (.ref lk'),some (.int cell),some (.int my),some (.int way),some (.ref fl),some (.int u)] H';refine cJ (λσ' H'=>σ'=[some (.ref sa),some (.ref p),some (.ref pf),some (.ref pk),some (.ref ts),some (.ref tp),some (.ref l'),some (.ref lk'),some (.int cell),some (.int my),some (.int way),some (.ref fl),some (.int u)]/\Same He H'/\H' fl=some (.lst [.bl true,.bl false])/\H' xt=some (.lst (us.map V.int))) ?_ ?_
   case refine_2 =>intro rest;refine⟨_,rfl,_,_,rfl,rfl,_,rfl,aG (λ_=>?_) (λ_=>rest _ _ ⟨rfl,sm,efl,ext⟩)⟩;have ets':=base sm (sd _ _ ets);have etp':=base sm etp;refine⟨_,rfl,_,rfl,ts,_,_,_,rfl,rfl,SqT.of ets',rfl,_,rfl,ts,_,_,_,rfl,rfl,SqT.of ets',rfl,_,rfl,tp,_,_,_,rfl,rfl,SqT.of etp',rfl,_,rfl,tp,_,_,_,rfl,rfl,SqT.of etp',rfl,_,rfl,ts,_,_,_,rfl,rfl,SqT.of ets',rfl,pk,l,lk,ps,ls,KP,r,bi r,_,_,_,rfl,base sm (sd _ _ ekc),base sm el,hR.same (se.trans sm),PR.rwb,base sm elk,hLk.same (se.trans sm),PR.lkb,pt,by omega,pbb,by omega,by omega,n0,B1,B2,B3,λbb H2 s2 hb=>?_⟩;have hb':bb=true:=hb.mpr hJ;subst hb';obtain⟨y1,y2,y3⟩:=keep (bb:=true) (j:=0) s2 rfl;exact⟨_,rfl,fl,_,_,0,rfl,rfl,s2 _ _ efl,rfl,rest _ _ ⟨rfl,y1,y2,y3⟩⟩
   clear efl ext sm keep;rintro σ' H2 ⟨rfl,sm,efl,ext⟩
   have keep:∀{H3:Hp} {bb:Bool} {j:Nat},Same H2 H3->([V.bl true,V.bl false]:List V).set j (.bl bb)=[.bl true,.bl false]->Same He (upd H3 fl (.lst (([V.bl true,V.bl false]:List V).set j (.bl bb))))/\upd H3 fl (.lst (([V.bl true,V.bl false]:List V).set j (.bl bb))) fl=some (.lst [.bl true,.bl false])/\upd H3 fl (.lst (([V.bl true,V.bl false]:List V).set j (.bl bb))) xt=some (.lst (us.map V.int)):=λ{H3 bb j} s2 e=>by rw[e];exact⟨bW (sm.trans s2) hfl,am,by rw[upd_ne nxf];exact s2 _ _ ext⟩
   refine cJ (λσ' H'=>σ'=[some (.ref sa),some (.ref p),some (.ref pf),some (.ref pk),some (.ref ts),some (.ref tp),some (.ref l'),some (.ref lk'),some (.int cell),some (.int my),some (.int way),some (.ref fl),some (.int u)]/\Same He H'/\H' fl=some (.lst [.bl true,.bl false])/\H' xt=some (.lst (us.map V.int))) ?_ ?_
   case refine_2 =>
    intro rest;refine cK ⟨_,rfl,_,_,rfl,rfl,_,rfl,aG (λ_=>?_) (λ_=>cP (rest _ _ ⟨rfl,sm,efl,ext⟩))⟩;refine⟨_,rfl,_,_,rfl,rfl,_,rfl,aG (λw8=>?_) (λ_=>rest _ _ ⟨rfl,sm,efl,ext⟩)⟩;have ets':=base sm (sd _ _ ets);refine⟨_,rfl,_,rfl,ts,_,_,_,rfl,rfl,SqT.of ets',rfl,_,rfl,ts,_,_,_,rfl,rfl,SqT.of ets',rfl,_,rfl,_,rfl,_,rfl,ts,_,_,_,rfl,rfl,SqT.of ets',rfl,pk,l',lk',ps',ls',KP,r',xs',_,_,_,rfl,base sm (sd _ _ ekc),sm _ _ el',hR'.same sm,hB',sm _ _ elk',hL'.same sm,hX',pt,by omega,pbb,r1',x1',n0,B1,B2,B3,λbb H3 s2 hb=>?_⟩
    have hb':bb=false:=by
     cases bb with
     |false=>rfl
     |true=>exact absurd (hb.mp rfl).1 (hbad w8)
    subst hb';obtain⟨y1,y2,y3⟩:=keep (bb:=false) (j:=1) s2 rfl;exact⟨_,rfl,fl,_,_,1,rfl,rfl,s2 _ _ efl,rfl,rest _ _ ⟨rfl,y1,y2,y3⟩⟩
   clear efl ext sm keep;rintro σ' H2' ⟨rfl,sm,efl,ext⟩
   have keep:∀{H3:Hp} {bb:Bool} {j:Nat},Same H2' H3->([V.bl true,V.bl false]:List V).set j (.bl bb)=[.bl true,.bl false]->Same He (upd H3 fl (.lst (([V.bl true,V.bl false]:List V).set j (.bl bb))))/\upd H3 fl (.lst (([V.bl true,V.bl false]:List V).set j (.bl bb))) fl=some (.lst [.bl true,.bl false])/\upd H3 fl (.lst (([V.bl true,V.bl false]:List V).set j (.bl bb))) xt=some (.lst (us.map V.int)):=λ{H3 bb j} s2 e=>by rw[e];exact⟨bW (sm.trans s2) hfl,am,by rw[upd_ne nxf];exact s2 _ _ ext⟩
   refine cJ (λσ' H'=>σ'=[some (.ref sa),some (.ref p),some (.ref pf),some (.ref pk),some (.ref ts),some (.ref tp),some (.ref l'),some (.ref lk'),some (.int cell),some (.int my),some (.int way),some (.ref fl),some (.int u)]/\Same He H'/\H' fl=some (.lst [.bl true,.bl false])/\H' xt=some (.lst (us.map V.int))) ?_ ?_
   case refine_2 =>
    intro rest;refine cK ⟨_,rfl,_,_,rfl,rfl,_,rfl,aG (λ_=>?_) (λ_=>cP (rest _ _ ⟨rfl,sm,efl,ext⟩))⟩;refine⟨_,rfl,_,_,rfl,rfl,_,rfl,aG (λw8=>?_) (λ_=>rest _ _ ⟨rfl,sm,efl,ext⟩)⟩;have ets':=base sm (sd _ _ ets);refine⟨_,rfl,_,rfl,ts,_,_,_,rfl,rfl,SqT.of ets',rfl,_,rfl,ts,_,_,_,rfl,rfl,SqT.of ets',rfl,_,rfl,_,rfl,_,rfl,ts,_,_,_,rfl,rfl,SqT.of ets',rfl,pk,l',lk',ps',ls',KP,r',xs',_,_,_,rfl,base sm (sd _ _ ekc),sm _ _ el',hR'.same sm,hB',sm _ _ elk',hL'.same sm,hX',pt,by omega,pbb,r1',x1',n0,B2,B1,B3,λbb H3 s2 hb=>?_⟩
    have hb':bb=false:=by
     cases bb with
     |false=>rfl
     |true=>exact absurd (hb.mp rfl) (BZ n0 sw)
    subst hb';obtain⟨y1,y2,y3⟩:=keep (bb:=false) (j:=1) s2 rfl;exact⟨_,rfl,fl,_,_,1,rfl,rfl,s2 _ _ efl,rfl,rest _ _ ⟨rfl,y1,y2,y3⟩⟩
   clear efl ext sm keep;rintro σ' H4 ⟨rfl,sm,efl,ext⟩
   have keep:∀{H3:Hp} {bb:Bool} {j:Nat},Same H4 H3->([V.bl true,V.bl false]:List V).set j (.bl bb)=[.bl true,.bl false]->Same He (upd H3 fl (.lst (([V.bl true,V.bl false]:List V).set j (.bl bb))))/\upd H3 fl (.lst (([V.bl true,V.bl false]:List V).set j (.bl bb))) fl=some (.lst [.bl true,.bl false])/\upd H3 fl (.lst (([V.bl true,V.bl false]:List V).set j (.bl bb))) xt=some (.lst (us.map V.int)):=λ{H3 bb j} s2 e=>by rw[e];exact⟨bW (sm.trans s2) hfl,am,by rw[upd_ne nxf];exact s2 _ _ ext⟩
   refine fL (cK ⟨_,rfl,_,_,rfl,rfl,_,rfl,aG (λ_=>?_) (λ_=>cP ⟨_,rfl,sm,efl,ext⟩)⟩);refine⟨_,rfl,_,_,rfl,rfl,_,rfl,aG (λw8=>?_) (λ_=>⟨_,rfl,sm,efl,ext⟩)⟩;have ets':=base sm (sd _ _ ets);refine⟨_,rfl,_,rfl,ts,_,_,_,rfl,rfl,SqT.of ets',rfl,_,rfl,ts,_,_,_,rfl,rfl,SqT.of ets',rfl,_,rfl,_,rfl,_,rfl,ts,_,_,_,rfl,rfl,SqT.of ets',rfl,pk,l',lk',ps',ls',KP,r',xs',_,_,_,rfl,base sm (sd _ _ ekc),sm _ _ el',hR'.same sm,hB',sm _ _ elk',hL'.same sm,hX',pt,by omega,pbb,r1',x1',n0,B1,B1,B3,λbb H3 s2 hb=>?_⟩
   have hb':bb=false:=by
    cases bb with
    |false=>rfl
    |true=>exact absurd (hb.mp rfl).2.1 (Int.lt_irrefl _)
   subst hb';obtain⟨y1,y2,y3⟩:=keep (bb:=false) (j:=1) s2 rfl;exact⟨_,rfl,fl,_,_,1,rfl,rfl,s2 _ _ efl,rfl,_,rfl,y1,y2,y3⟩
  ·rintro σ' H' ⟨z12,rfl,sm,efl,_⟩;dsimp only
   refine bv (iu (pJ ⟨_,rfl,fl,_,_,_,rfl,rfl,SqL.of efl,rfl,rF (.bl _) (k:=true) (by rfl) ⟨_,rfl,cI ?_⟩⟩));refine iu (pJ ⟨_,rfl,fl,_,_,_,rfl,rfl,SqL.of efl,rfl,rF (.bl _) (k:=true) (by rfl) ⟨_,rfl,cI ?_⟩⟩);refine⟨_,rfl,by show 2<=sizeLine;decide,λgl hgl=>?_⟩;have s9:=Same.upd_new (o:=.lst [.bl true,.bl false]) hgl;exact⟨fl,gl,[true,false],rfl,rfl,SqL.of (s9 _ _ efl),SqL.of am,fin _⟩
end
def FnL(K:PySem.W.Frag)(n:Str)(st:Stmt):Prop:=∃f fd,PySem.W.nsIn K mainGlobals n=some (some (.ref f))/\Fun K n n st f fd
def MtL(K:PySem.W.Frag)(C:Addr)(n q:Str)(st:Stmt):Prop:=∃f fd,PySem.W.findIn K (.ref C) n=some (some (.ref f))/\PySem.W.isFn K (.ref f)=true/\Fun K n q st f fd
structure ClL(K:PySem.W.Frag)(n:Str)(C:Addr):Prop where
 a:PySem.W.nsIn K mainGlobals n=some (some (.ref C))
 pg:PySem.W.plainGet K C Str.empty=true
 hd:PySem.W.hasDictIn K C=true
 po:PySem.W.plainOver K C=true
 sa:PySem.W.findIn K (.ref C) "__setattr__"=some (some (.builtin "object.__setattr__"))
 mkr:PySem.W.makesIn K C=true
 kc:PySem.W.keepIn K (.ref C)=true
 ha:PySem.W.findIn K (.ref C) "__class__"=some (some (.builtin "object.__class__"))
 hn:PySem.W.specialIn K (.builtin "object.__class__") "__get__"=some (some (.builtin "getset_descriptor.__get__"))
 ht:PySem.W.takesIn K (.builtin "object.__class__")=some true
 hm:PySem.W.mroIn K C (.type "object")=some true
section
variable {P:Program}{w:World}{K:PySem.W.Frag}{mg:Str->Option Value}{h base:Heap}{n q:Str}{st:Stmt}{f C:Addr}{oc kV dc pm cd ct:Value}{od an:Option Addr}{sl:Array (Option Value)}{fd:FuncData}{k:Nat}{ps:List Str}{sp:Sp}
theorem fnL(a:PySem.W.nsIn K mainGlobals n=some (some (.ref f)))(l:K.lookup f=some ⟨oc,od,.func (PySem.W.fnOf n n (cH st) (cn st) (ax st) .none kV dc pm an cd ct),sl⟩)(c:PySem.W.codeIn K cd n=true)(k:PySem.W.keepIn K (.ref f)=true):FnL K n st:=⟨_,_,a,r8 l c k⟩
theorem mtL(a:PySem.W.findIn K (.ref C) n=some (some (.ref f)))(i:PySem.W.isFn K (.ref f)=true)(l:K.lookup f=some ⟨oc,od,.func (PySem.W.fnOf n q (cH st) (cn st) (ax st) .none kV dc pm an cd ct),sl⟩)(c:PySem.W.codeIn K cd q=true)(k:PySem.W.keepIn K (.ref f)=true):MtL K C n q st:=⟨_,_,a,i,r8 l c k⟩
def Bx(P:Program)(w:World)(base:Heap):Prop:=P=P/\w=w/\base=base
def BdR(n q:Str)(st:Stmt)(ps:List Str):Prop:=∀(kV doc pm:Value) (an:Option Addr) (cdv ct:Value) (us:List Value),us.length=ps.length->bindArgs (PySem.W.fnOf n q (cH st) (cn st) (ax st) .none kV doc pm an cdv ct) ⟨us,[]⟩=pure (ps.zip us)
theorem cal(_:Bx P w base)(X:K.In h)(G:h.Ns mainGlobals mg)(a:PySem.W.nsIn K mainGlobals n=some (some (.ref f)))(F:Fun K n n st f fd)(o:FnOk P w K mg base CX0 k f fd ps sp)(b:BdR n n st ps):Cal P w K mg base k n ps sp f fd:=⟨o,PySem.W.mg_of X G a,F.kp,F.binds b⟩
theorem yS(_:Bx P w base)(a:PySem.W.findIn K (.ref C) n=some (some (.ref f)))(i:PySem.W.isFn K (.ref f)=true)(F:Fun K n q st f fd)(o:FnOk P w K mg base CX0 k f fd ps sp)(b:BdR n q st ps):MCal P w K mg base k C n ps sp f fd:=⟨o,⟨a,i,F.kp⟩,F.binds b⟩
theorem us1{A:List Value->Prop}(h:∀a,A [a]):∀us:List Value,us.length=1->A us
 | [a],_=>h a
theorem us2{A:List Value->Prop}(h:∀a b,A [a,b]):∀us:List Value,us.length=2->A us
 | [a,b],_=>h a b
theorem us3{A:List Value->Prop}(h:∀a b c,A [a,b,c]):∀us:List Value,us.length=3->A us
 | [a,b,c],_=>h a b c
theorem us4{A:List Value->Prop}(h:∀a b c d,A [a,b,c,d]):∀us:List Value,us.length=4->A us
 | [a,b,c,d],_=>h a b c d
theorem us6{A:List Value->Prop}(h:∀a b c d e f,A [a,b,c,d,e,f]):∀us:List Value,us.length=6->A us
 | [a,b,c,d,e,f],_=>h a b c d e f
end
theorem all_mk{l:PySem.W.OpenLaw}{w:World}{K:PySem.W.Frag}{h:Heap}{mg:Str->Option Value}{fa CC1 f4 dt4:Addr}(X:K.In h)(G:h.Ns mainGlobals mg)(hfa:mg "law"=some (.ref fa))
 {od4 an4 odt4:Option Addr} {sl4 slt4:Array (Option Value)} {oc4 kV4 dc4 pm4 cd4 ct4 oct4:Value} {nt4:Nat} {tk4_0:Tok}
 (cc1:ClL K "Ratio" CC1)
 (n1_top:PySem.W.findIn K (.ref CC1) "top"=some none)
 (n1_bottom:PySem.W.findIn K (.ref CC1) "bottom"=some none)
 (a4:PySem.W.findIn K (.ref CC1) "__init__"=some (some (.ref f4))) (i4:PySem.W.isFn K (.ref f4)=true)
 (l4:K.lookup f4=some ⟨oc4,od4,.func (PySem.W.fnOf "__init__" "Ratio.__init__" (cH fH) (cn fH) (ax fH) (.ref dt4) kV4 dc4 pm4 an4 cd4 ct4),sl4⟩) (c4:PySem.W.codeIn K cd4 "Ratio.__init__"=true) (k4:PySem.W.keepIn K (.ref f4)=true)
 (t4:K.lookup dt4=some ⟨oct4,odt4,.seq #[.int 1 tk4_0] nt4,slt4⟩)
 (z0:PySem.W.nsIn K mainGlobals "abs"=some none)
 (z1:PySem.W.nsIn K mainGlobals "len"=some none)
 (z2:PySem.W.nsIn K mainGlobals "max"=some none)
 (z3:PySem.W.nsIn K mainGlobals "range"=some none)
 (z4:PySem.W.nsIn K mainGlobals "enumerate"=some none)
 (z5:PySem.W.nsIn K mainGlobals "reversed"=some none)
 (z6:PySem.W.nsIn K mainGlobals "all"=some none)
 (z7:PySem.W.nsIn K mainGlobals "int"=some none)
 (z8:PySem.W.nsIn K mainGlobals "list"=some none)
 (z9:PySem.W.nsIn K mainGlobals "isinstance"=some none)
 (z10:PySem.W.nsIn K mainGlobals "bool"=some none)
 (l1:FnL K "shared_by_two" jP)
 (l2:FnL K "shared" jQ)
 (l3:FnL K "whole_sign" jK)
 (l5:MtL K CC1 "against" "Ratio.against" ku)
 (l6:FnL K "poly" jR)
 (l7:FnL K "degree" jU)
 (l8:FnL K "coefficient" jW)
 (l9:FnL K "taken" jM)
 (l10:FnL K "multiplied" jS)
 (l11:FnL K "slope" jN)
 (l12:FnL K "shrunk" ie)
 (l13:FnL K "value_parts" jL)
 (l14:FnL K "sign_at" jO)
 (l15:FnL K "changes" jX)
 (l16:FnL K "count" jV)
 (l17:FnL K "link_holds" ig)
 (l18:FnL K "holds_together" ij)
 (l19:FnL K "just_one" jT)
 (l20:FnL K "_law_cell_at" kr)
 (l21:FnL K "_law_within" jY)
 (l22:FnL K "_law_trim" j0)
 (l23:FnL K "_law_mul" kg)
 (l24:FnL K "_law_gcd" kj)
 (l25:FnL K "_law_shrunk" il)
 (l26:FnL K "_law_plain" ke)
 (l27:FnL K "_law_factor_by" km)
 (l28:FnL K "_law_shape" j9)
 (l29:FnL K "_law_factors_by" io)
 (l30:FnL K "_law_product" kd)
 (l31:FnL K "_law_sure" j3)
 (l32:FnL K "_law_side" j7)
 (l33:FnL K "_law_roots_of" ka)
 (l34:FnL K "_law_norm" kf)
 (l35:FnL K "_law_cube_shape" kn)
 (l36:FnL K "_law_cube_by" ko)
 (l37:FnL K "_law_way" jZ)
 (l38:FnL K "_law_alone" iq)
 (l39:FnL K "_law_half" ki)
 (l40:FnL K "_law_span" j6)
 (l41:FnL K "_law_divided" ip)
 (l42:FnL K "_law_shared" j8)
 (l43:FnL K "_law_paper" im)
 (l44:FnL K "_law_more" kh)
 (l45:FnL K "_law_spoilt_row" j4)
 (l46:FnL K "_law_spoilt_links" j5)
 (l47:FnL K "_law_asked" kt)
 (l48:FnL K "law" ii)
 (hTr:l.prog.given.tree=none)
 : ∃fd:FuncData,(∀(s:Shared) (v:Value),BindsTo s fd ⟨[v],[]⟩ [("_law_script",v)])/\∀base:Heap,K.In base->base.Ns mainGlobals mg->base.NoSeer->FnOk l.prog w K mg base CX0 40 fa fd ["_law_script"] (g8 K):=by
 obtain⟨_,_,a1,F1⟩:=l1;obtain⟨_,_,a2,F2⟩:=l2;obtain⟨_,_,a3,F3⟩:=l3;obtain⟨_,_,a5,i5,F5⟩:=l5;obtain⟨_,_,a6,F6⟩:=l6;obtain⟨_,_,a7,F7⟩:=l7;obtain⟨_,_,a8,F8⟩:=l8;obtain⟨_,_,a9,F9⟩:=l9;obtain⟨_,_,a10,F10⟩:=l10;obtain⟨_,_,a11,F11⟩:=l11;obtain⟨_,_,a12,F12⟩:=l12;obtain⟨_,_,a13,F13⟩:=l13;obtain⟨_,_,a14,F14⟩:=l14;obtain⟨_,_,a15,F15⟩:=l15;obtain⟨_,_,a16,F16⟩:=l16;obtain⟨_,_,a17,F17⟩:=l17;obtain⟨_,_,a18,F18⟩:=l18;obtain⟨_,_,a19,F19⟩:=l19;obtain⟨_,_,a20,F20⟩:=l20;obtain⟨_,_,a21,F21⟩:=l21;obtain⟨_,_,a22,F22⟩:=l22;obtain⟨_,_,a23,F23⟩:=l23;obtain⟨_,_,a24,F24⟩:=l24;obtain⟨_,_,a25,F25⟩:=l25;obtain⟨_,_,a26,F26⟩:=l26;obtain⟨_,_,a27,F27⟩:=l27;obtain⟨_,_,a28,F28⟩:=l28;obtain⟨_,_,a29,F29⟩:=l29;obtain⟨_,_,a30,F30⟩:=l30;obtain⟨_,_,a31,F31⟩:=l31;obtain⟨_,_,a32,F32⟩:=l32;obtain⟨_,_,a33,F33⟩:=l33;obtain⟨_,_,a34,F34⟩:=l34;obtain⟨_,_,a35,F35⟩:=l35;obtain⟨_,_,a36,F36⟩:=l36;obtain⟨_,_,a37,F37⟩:=l37;obtain⟨_,_,a38,F38⟩:=l38;obtain⟨_,_,a39,F39⟩:=l39;obtain⟨_,_,a40,F40⟩:=l40;obtain⟨_,_,a41,F41⟩:=l41;obtain⟨_,_,a42,F42⟩:=l42;obtain⟨_,_,a43,F43⟩:=l43;obtain⟨_,_,a44,F44⟩:=l44;obtain⟨_,_,a45,F45⟩:=l45;obtain⟨_,_,a46,F46⟩:=l46;obtain⟨_,_,a47,F47⟩:=l47;obtain⟨_,fdL,a48,F48⟩:=l48;cases hfa.symm.trans (PySem.W.mg_of X G a48);have T:Txt K mg:=⟨PySem.W.mg_none_of X G z0,PySem.W.mg_none_of X G z1,PySem.W.mg_none_of X G z2,PySem.W.mg_none_of X G z3,PySem.W.mg_none_of X G z4,PySem.W.mg_none_of X G z5,PySem.W.mg_none_of X G z6,PySem.W.mg_none_of X G z7,PySem.W.mg_none_of X G z8,PySem.W.mg_none_of X G z9,PySem.W.mg_none_of X G z10⟩;have R1:RCI K mg CC1:=⟨⟨cc1.pg,cc1.hd,cc1.po,cc1.sa⟩,n1_top,n1_bottom,PySem.W.mg_of X G cc1.a,cc1.ha,cc1.hn,cc1.ht,cc1.hm⟩;have F4:=AU (st:=fH) l4 c4 k4;have b4:=FunD.bindsD (ps:=["self","top","bottom"]) (ds:=[]) (tup:=[.int 1 tk4_0]) 3 F4 t4 rfl rfl λ_ _ _ _ _ _=>us3 λ_ _ _=>⟨_,rfl,rfl⟩
 have bD4:=FunD.bindsD (ps:=["self","top","bottom"]) (ds:=[.int 1 tk4_0]) (tup:=[.int 1 tk4_0]) 2 F4 t4 rfl rfl λ_ _ _ _ _ _=>us2 λ_ _=>⟨_,rfl,rfl⟩
 obtain⟨_,_,_,_,_,_,_,_,_,e,_,_⟩:=F48.ex;refine⟨fdL,λs v=>.of_eq (by rw[e];rfl),λbase KB GB hNS=>?_⟩;have Z:Bx l.prog w base:=⟨rfl,rfl,rfl⟩;have C1:=cal Z X G a1 F1 (xD F1 T) λ_ _ _ _ _ _=>us2 λ_ _=>rfl
 have C2:=cal Z X G a2 F2 (xE F2 T C1) λ_ _ _ _ _ _=>us1 λ_=>rfl
 have C3:=cal Z X G a3 F3 (xx F3 T) λ_ _ _ _ _ _=>us1 λ_=>rfl
 have K1:KCal l.prog w K mg base 2 CC1 "Ratio" ["self","top","bottom"] (g9 CC1) _ _ _ [.int 1]:=⟨yr F4 T R1 C1,⟨cc1.mkr,a4,i4,cc1.kc⟩,PySem.W.mg_of X G cc1.a,b4,bD4,.cons ⟨_,rfl⟩ .nil⟩;have C5:=yS Z a5 i5 F5 (yq F5 T R1 C3) λ_ _ _ _ _ _=>us2 λ_ _=>rfl
 have C6:=cal Z X G a6 F6 (xF F6 T) λ_ _ _ _ _ _=>us1 λ_=>rfl
 have C7:=cal Z X G a7 F7 (xL F7 T) λ_ _ _ _ _ _=>us1 λ_=>rfl
 have C8:=cal Z X G a8 F8 (xN F8 T) λ_ _ _ _ _ _=>us2 λ_ _=>rfl
 have C9:=cal Z X G a9 F9 (xz F9 T C6 C8) λ_ _ _ _ _ _=>us2 λ_ _=>rfl
 have C10:=cal Z X G a10 F10 (xG F10 T) λ_ _ _ _ _ _=>us2 λ_ _=>rfl
 have C11:=cal Z X G a11 F11 (xA F11 T) λ_ _ _ _ _ _=>us1 λ_=>rfl
 have C12:=cal Z X G a12 F12 (xC F12 T hNS hTr C2) λ_ _ _ _ _ _=>us1 λ_=>rfl
 have C13:=cal Z X G a13 F13 (xy F13 T) λ_ _ _ _ _ _=>us3 λ_ _ _=>rfl
 have C14:=cal Z X G a14 F14 (xB F14 T R1 C13 C3) λ_ _ _ _ _ _=>us2 λ_ _=>rfl
 have C15:=cal Z X G a15 F15 (xO F15 T R1 C14) λ_ _ _ _ _ _=>us2 λ_ _=>rfl
 have C16:=cal Z X G a16 F16 (xM F16 T R1 C15) λ_ _ _ _ _ _=>us3 λ_ _ _=>rfl
 have C17:=cal Z X G a17 F17 (xH F17 T C10 C9) λ_ _ _ _ _ _=>us3 λ_ _ _=>rfl
 have C18:=cal Z X G a18 F18 (xK F18 T C12 C11 C7 C17) λ_ _ _ _ _ _=>us3 λ_ _ _=>rfl
 have C19:=cal Z X G a19 F19 (xJ F19 T R1 C18 C5 C16) λ_ _ _ _ _ _=>us4 λ_ _ _ _=>rfl
 have C20:=cal Z X G a20 F20 (yk F20 T) λ_ _ _ _ _ _=>us2 λ_ _=>rfl
 have C21:=cal Z X G a21 F21 (xP F21 T) λ_ _ _ _ _ _=>us2 λ_ _=>rfl
 have C22:=cal Z X G a22 F22 (xR F22 T) λ_ _ _ _ _ _=>us1 λ_=>rfl
 have C23:=cal Z X G a23 F23 (ya F23 T) λ_ _ _ _ _ _=>us2 λ_ _=>rfl
 have C24:=cal Z X G a24 F24 (ye F24 T) λ_ _ _ _ _ _=>us2 λ_ _=>rfl
 have C25:=cal Z X G a25 F25 (xX F25 T hNS hTr C24) λ_ _ _ _ _ _=>us1 λ_=>rfl
 have C26:=cal Z X G a26 F26 (x6 F26 T C25) λ_ _ _ _ _ _=>us1 λ_=>rfl
 have C27:=cal Z X G a27 F27 (yg F27 T) λ_ _ _ _ _ _=>us2 λ_ _=>rfl
 have C28:=cal Z X G a28 F28 (xZ F28 T C26) λ_ _ _ _ _ _=>us1 λ_=>rfl
 have C29:=cal Z X G a29 F29 (yf F29 T C27 C28) λ_ _ _ _ _ _=>us3 λ_ _ _=>rfl
 have C30:=cal Z X G a30 F30 (x5 F30 T C23 C28) λ_ _ _ _ _ _=>us1 λ_=>rfl
 have C31:=cal Z X G a31 F31 (xS F31 T) λ_ _ _ _ _ _=>us2 λ_ _=>rfl
 have C32:=cal Z X G a32 F32 (xW F32 T C31) λ_ _ _ _ _ _=>us3 λ_ _ _=>rfl
 have C33:=cal Z X G a33 F33 (x4 F33 T) λ_ _ _ _ _ _=>us1 λ_=>rfl
 have C34:=cal Z X G a34 F34 (x9 F34 T) λ_ _ _ _ _ _=>us4 λ_ _ _ _=>rfl
 have C35:=cal Z X G a35 F35 (yi F35 T C34) λ_ _ _ _ _ _=>us1 λ_=>rfl
 have C36:=cal Z X G a36 F36 (yj F36 T C21) λ_ _ _ _ _ _=>us3 λ_ _ _=>rfl
 have C37:=cal Z X G a37 F37 (xQ F37 T C34 C32) λ_ _ _ _ _ _=>us3 λ_ _ _=>rfl
 have C38:=cal Z X G a38 F38 (yo F38 T C37) λ_ _ _ _ _ _=>us3 λ_ _ _=>rfl
 have C39:=cal Z X G a39 F39 (yd F39 T C37) λ_ _ _ _ _ _=>us2 λ_ _=>rfl
 have C40:=cal Z X G a40 F40 (xV F40 T C38 C39) λ_ _ _ _ _ _=>us3 λ_ _ _=>rfl
 have C41:=cal Z X G a41 F41 (yh F41 T hNS hTr C22) λ_ _ _ _ _ _=>us2 λ_ _=>rfl
 have C42:=cal Z X G a42 F42 (xY F42 T C24) λ_ _ _ _ _ _=>us1 λ_=>rfl
 have C43:=cal Z X G a43 F43 (x8 F43 T hNS hTr C25 C41 C42) λ_ _ _ _ _ _=>us1 λ_=>rfl
 have C44:=cal Z X G a44 F44 (yc F44 T C22) λ_ _ _ _ _ _=>us3 λ_ _ _=>rfl
 have C45:=cal Z X G a45 F45 (xT F45 T C44) λ_ _ _ _ _ _=>us3 λ_ _ _=>rfl
 have C46:=cal Z X G a46 F46 (xU F46 T C44) λ_ _ _ _ _ _=>us4 λ_ _ _ _=>rfl
 have C47:=cal Z X G a47 F47 (yn F47 T R1 C19 K1) λ_ _ _ _ _ _=>us6 λ_ _ _ _ _ _=>rfl
 exact xI F48 T R1 C36 C20 C29 C23 C30 C35 C40 C33 C43 C46 C45 C47
theorem walk{l:PySem.W.OpenLaw}{q:Program}{loose:List Str}{XP:(Str->Option Value)->Heap->Prop}{YP:World->Heap->Prop}{d:DefRec}{K:Params->PySem.W.Frag}(hi:PyProof.Rows.importsNone q=true)(hn:l.most=some 63)(hdf:d.params.defaults=[])
 (hY:∀(w:World) (h:Heap),YP w h->(K w.params).In h)
 (F:∀(w:World) (mg:Str->Option Value) (fa:Addr) (h:Heap),(K w.params).In h->h.Ns mainGlobals mg->mg d.name=some (.ref fa) ->
   ∃fd:FuncData,(∀(s:Shared) (u:Value),BindsTo s fd ⟨[u],[]⟩ [("_law_script",u)])/\∀base:Heap,(K w.params).In base->base.Ns mainGlobals mg->base.NoSeer->FnOk l.prog w (K w.params) mg base CX0 40 fa fd ["_law_script"] (g8 (K w.params))) :
 PySem.W.WalkO q loose XP YP l.row.toRowW d [] (λf vs=>PySem.call f vs) :=
 L2.walk_ofS (n:=63) (k:=40) (x:="_law_script") (CX:=λ_=>CX0) (sp:=λw=>g8 (K w.params)) hi hn (by decide) hdf ⟨rfl,by decide,by decide⟩ hY F (λ_ _ a ns hl _ hS=>⟨a,ns,rfl,hS,hl,λ_=>rfl⟩) λ_ _ _ _ _ z=>z
section
end
end R83
open PySem PySem.W PyProof.Rows
set_option maxRecDepth 100000 in
set_option maxHeartbeats 0 in
theorem PySem.Challenge.cw_rootspan_k83_looker_refuses_holds : PySem.Challenge.rw_rootspan_k83_looker_refuses.Holds := by
 w_on;o_law;k_head;(case hw=>w_witness2)
 k_fill
 refine R83.walk (l:=PySem.Challenge.rw_rootspan_k83_looker_refuses) (by decide +kernel) rfl rfl (λw h Y=>PySem.W.kIn_of Y) ?F
 case F =>
  intro w mg fa h KX G hmg
  refine' R83.all_mk KX G hmg ?cc1 ?n1_top ?n1_bottom ?a4 ?i4 ?l4 ?c4 ?k4 ?t4 ?_ ?_ ?_ ?_ ?_ ?_ ?_ ?_ ?_ ?_ ?_ ?_ ?_ ?_ ?_ ?_ ?_ ?_ ?_ ?_ ?_ ?_ ?_ ?_ ?_ ?_ ?_ ?_ ?_ ?_ ?_ ?_ ?_ ?_ ?_ ?_ ?_ ?_ ?_ ?_ ?_ ?_ ?_ ?_ ?_ ?_ ?_ ?_ ?_ ?_ ?_ ?_ ?_ ?_ ?_ ?_ ?_ ?_ rfl
  (case cc1=>apply R83.ClL.mk<;>k_is)
  (case n1_top=>k_is)
  (case n1_bottom=>k_is)
  (case a4=>k_is)
  (case i4=>k_is)
  (case l4=>k_is)
  (case c4=>k_is)
  (case k4=>k_is)
  (case t4=>k_is)
  all_goals first | (apply R83.fnL<;>k_is) | (apply R83.mtL<;>k_is) |k_is
