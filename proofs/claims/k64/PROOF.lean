import PyProof.Rows.All
import Wide.All
import OpenK.AllK
import Wide.FinOn
import Lean
import PyProof.EqAt
import PyProof.EqKinds
import PyProof.TupleCall
import PySem.Challenge.RW_rootspan_k64_tree_read_loosely
set_option Elab.async false
set_option linter.all false
set_option maxRecDepth 100000
noncomputable section
namespace Al
def EN:=@List.length_map
def EO:=@Nat.le_refl
def EQ:=@List.mem_cons
def ER:=@List.length_append
def ES:=@Nat.le_trans
def ET:=@Nat.lt_of_lt_of_le
def EU:=@Bool.false_ne_true
def EV:=@List.map_append
def EW:=@List.mem_append
def EY:=@List.size_toArray
def EZ:=@Bool.and_eq_true
def E1:=@List.length_cons
def E2:=@List.not_mem_nil
def E3:=@Nat.ne_of_lt
def E4:=@List.mem_singleton
def E5:=@List.cons_append
def E6:=@List.forall_mem_cons
def E7:=@List.append_assoc
def E8:=@List.length_replicate
def E9:=@Nat.lt_irrefl
def Fb:=@Nat.zero_le
def Fc:=@List.length_drop
def Fd:=@List.exists_cons_of_ne_nil
def Fe:=@List.mem_append_right
def Ff:=@List.append_nil
def Fg:=@List.all_eq_true
def Fh:=@List.map_cons
def Fi:=@Nat.le_of_succ_le_succ
def Fj:=@Bool.eq_iff_iff
def Fk:=@List.replicate_succ
def Fl:=@List.forall_mem_nil
def Fm:=@List.lookup_cons
def Fn:=@List.takeWhile_cons
def Fo:=@List.mem_cons_of_mem
def Fp:=@Nat.le_of_eq
def Fq:=@List.length_take
def Fs:=@List.nil_append
def Ft:=@List.take_length
def Fu:=@List.length_set
def Fv:=@Nat.pow_le_pow_right
def Fw:=@List.take_add_one
def Fx:=@List.drop_eq_nil_of_le
def Fy:=@Nat.le_max_left
def Fz:=@Nat.le_max_right
def FA:=@Nat.lt_succ_self
def FC:=@Int.toNat_natCast
def FD:=@List.flatten_cons
def FE:=@Nat.le_of_not_lt
def FF:=@List.length_eq_zero_iff
def FG:=@Nat.le_add_right
def FH:=@List.drop_eq_getElem_cons
def FI:=@List.filterMap_cons
def FJ:=@List.mem_cons_self
def FK:=@List.length_singleton
def FL:=@Int.natAbs_natCast
end Al
open Al
namespace PySem.W.Fast
def tw2545001496072081524:=()
def tw12941797423730616202:=()
def tw10800166061730372796:=()
def tw4846273313172192246:=()
def tw273529947291678003:=()
def tw6740389398001580378:=()
def tw13181006090208557295:=()
def tw9383915446716888006:=()
def tw8831941309672759763:=()
def tw1371250596660989927:=()
def tw14771008424788623007:=()
def tw1054607327700719364:=()
def tw8608810360825051982:=()
def tw2372753197269877410:=()
def tw1359710429887061675:=()
def tw2129546329106570553:=()
def tw15643431423784514022:=()
def tw6622796792388790126:=()
def tw14864113653678856393:=()
def tw15096133348237723733:=()
def tw12316507399483382492:=()
def tw12252249175955732309:=()
def tw5259109558998570213:=()
def tw282144809381736583:=()
def tw10310487648379568569:=()
def tw9130627259387955212:=()
def tw13415636174938687791:=()
def tw11574981230236914042:=()
def tw14794987842079427790:=()
def tw17228905817653887726:=()
def tw16739298232724710584:=()
def tw10385484166657689734:=()
def tw4288879799596844396:=()
def tw3548769754415453721:=()
def tw18402609136120732037:=()
def tw6335218545538601808:=()
def tw13667710988057203360:=()
def tw11379335664655269142:=()
def tw8504122590140554038:=()
def tw13234533567708640242:=()
def tw14648719833180514101:=()
def tw368924393441562768:=()
def tw17190343961965556483:=()
def tw11694967066699592996:=()
def tw8437851820524897233:=()
def tw3483342893259187867:=()
def tw17332884635561098139:=()
def tw13184019343216060783:=()
def tw4874283441701783030:=()
def tw1251203311911777438:=()
def tw17069955556553502988:=()
def tw11520457355483019565:=()
def tw7959641482715257686:=()
def tw14647915117253531051:=()
def tw7815619642347691159:=()
def tw12936978278636668810:=()
def tw17134786065252832772:=()
def tw9651606863226318835:=()
def tw15482514530389857635:=()
def tw15499232355393231988:=()
def tw3945592755059562690:=()
def tw2489122965541808123:=()
def tw11285858422441968140:=()
def tw5394535458399485593:=()
def tw18182476694472566870:=()
def tw16621837822506325464:=()
def tw12243791725638182813:=()
def tw3126772623875049032:=()
def tw732972205007266167:=()
def tw16551236427043725863:=()
def tw4667089166197352039:=()
def tw17635184206462142409:=()
def tw16479713273393279806:=()
def tw14091582414411141637:=()
def tw13844434449376590917:=()
def tw16477848545761298347:=()
def tw6339981961456516298:=()
def tw5171095191902243415:=()
def tw14436136576707494986:=()
def tw17055086427237634637:=()
def tw11294104115559528989:=()
def tw16038070842129150719:=()
def tw5897841753694007880:=()
def tw5293443990479275807:=()
def tw3231497943403541915:=()
def tw8345879064959216522:=()
def tw2760926551109785616:=()
def tw499468081802334314:=()
def tw10220432360610882750:=()
def tw5216033233923623362:=()
def tw11456147957297373490:=()
def tw14570949299162640268:=()
def tw10870222738110131644:=()
def tw7791923217131250524:=()
def tw8144740216606547138:=()
def tw16446862656556388286:=()
def tw15245084056059718292:=()
def tw4983240869109426572:=()
def tw9023615892431525392:=()
def tw16235326532162868334:=()
def tw172347038199205669:=()
def tw2159665981440399537:=()
def tw4437405772777537248:=()
def tw6562478219195334737:=()
def tw7086592493346229493:=()
def tw13962175433394774548:=()
def tw13365747060290157633:=()
def tw2724041670425859234:=()
def tw14050132938996582233:=()
def tw1382014728111298174:=()
def tw12334111970828940773:=()
def tw18016942496247271672:=()
def tw15693796858088869791:=()
def tw8973716263206336227:=()
def tw2659819136255787669:=()
def tw9672726895257409188:=()
def tw7176619715391581521:=()
def tw10944543076913168499:=()
def tw8449757207937521310:=()
def tw460728183002958907:=()
def tw11161775847789313430:=()
def tw17064531254760863733:=()
def tw8595763518750985080:=()
def tw16324699098472182086:=()
def tw3331808885932133022:=()
def tw13945725911066195611:=()
def tw838887342401599829:=()
def tw7240770941505393672:=()
def tw8728813478619365049:=()
def tw18247912967724917843:=()
def tw10034638696441253725:=()
def tw589403253980594690:=()
def tw5588649158699181612:=()
def tw13035624169476652248:=()
def tw1251926924189036809:=()
def tw17386692759878904276:=()
def tw3455438584771011311:=()
def tw3799373501239250327:=()
def tw16955283208441295474:=()
def tw10149488151831342255:=()
def tw13723250344870595243:=()
def tw12621148232876427604:=()
def tw5402177756069692881:=()
def tw5565197880517670232:=()
def tw5507726475145872096:=()
def tw16463849399987073804:=()
def tw2015532936389563398:=()
def tw7780307473619769890:=()
def tw5552517536074689733:=()
def tw17539704967384180181:=()
def tw13197916514057887944:=()
def tw13572974936074090947:=()
def tw1510618194961243089:=()
def tw5336961435207979839:=()
def tw9116166102983940328:=()
def tw16468845320160757599:=()
def tw14454770354913229619:=()
def tw8614621152303618913:=()
def tw14682539235851870740:=()
def tw9478738694779131223:=()
def tw15925128392767737076:=()
def tw4743219669417711789:=()
def tw1847253342315709152:=()
def tw17961865221164024505:=()
def tw12422024182151461070:=()
def tw12213673455277461137:=()
def tw1539602389984851882:=()
def tw11577891972287959841:=()
def tw2714481285286893823:=()
def tw3773768644862612712:=()
def tw16346439060523704623:=()
def tw9203671022166927048:=()
def tw9770224341189457742:=()
def tw11542829597797053775:=()
def tw3280672157032077019:=()
def tw9935951842475437135:=()
def tw11330319822682831489:=()
def tw13848481668894839483:=()
def tw1948513603942395939:=()
def tw7945857313091921365:=()
def tw15640310310436420967:=()
def tw9456007473710637509:=()
def tw10763204742663150016:=()
def tw10159501810055206540:=()
def tw2180127478010872851:=()
def tw6322740175020308152:=()
def tw4285611169113640350:=()
def tw8353518766186057928:=()
def tw15566486838666163513:=()
def tw15682042534475949059:=()
def tw5286867259039026428:=()
def tw15118556174254382022:=()
def tw8666980385550606194:=()
def tw4225449580072097126:=()
def tw2044866109611718654:=()
def tw12779546889882896720:=()
def tw5280580299241192737:=()
def tw14177343887942050023:=()
def tw5945035647315750265:=()
def tw4614323622254224587:=()
def tw5895375152373594778:=()
def tw10868522231119644731:=()
def tw16850418378409209325:=()
def tw7615468379316036670:=()
def tw6620700083469886512:=()
def tw15176055495290482538:=()
def tw16458478417905194097:=()
def tw12684363909807019746:=()
def tw4193163190391386916:=()
def tw3747739491558056871:=()
def tw5082411379388642592:=()
def tw3820940335205093438:=()
def tw16659284149554120886:=()
def tw14791004546793419233:=()
def tw17291540036293263019:=()
def tw17185773929011788860:=()
def tw8297643147631285699:=()
def tw18282290623213101615:=()
def tw10730108419570769797:=()
def tw12054454324312357844:=()
def tw13451499122193125731:=()
def tw5911984667355872973:=()
def tw13068091809455080664:=()
def tw308367058404616926:=()
def tw8112826321692624268:=()
def tw8229381412301801994:=()
def tw5419844917008902040:=()
def tw11675822282743614946:=()
def tw17558459807002041477:=()
def tw3642797904798062946:=()
def tw11566415254805357212:=()
def tw6624519487145730398:=()
def tw10898478516226140247:=()
def tw9411727991672578105:=()
def tw4875243533989022675:=()
def tw15291821000774844461:=()
def tw507175066254692088:=()
def tw9715772088088286093:=()
def tw7461962864682529686:=()
def tw461032905418882216:=()
def tw9182892547500054815:=()
def tw15301929505162305398:=()
def tw16276229781659459583:=()
def tw429140370796125654:=()
def tw3098224744264702733:=()
def tw18113548177219919342:=()
end PySem.W.Fast
namespace L2
open PySem PySem.Spec PyProof.Rows
abbrev Key:=Sum Int Str
noncomputable def sS:Key->Value->Bool
 |.inl k,v=>Value.isInt k v
 |.inr x,v=>Value.isStrOf x v
noncomputable def Ab(w:World):Key->Int
 |.inl k=>hashInt k
 |.inr x=>hashStr w x
theorem d0:∀{k:Key} {v:Value},sS k v=true->(∃i t,k=Sum.inl i/\v=Value.int i t)\/(∃x t,k=Sum.inr x/\v=Value.str x t)
 |.inl i,v,h=>by obtain⟨t,e⟩:=Value.isInt_shape (k:=i) (v:=v) h;exact .inl ⟨i,t,rfl,e⟩
 |.inr x,v,h=>by obtain⟨t,e⟩:=Value.isStrOf_shape (x:=x) (v:=v) h;exact .inr ⟨x,t,rfl,e⟩
theorem Aa(a b:Int):decide ((Sum.inl a:Key)=Sum.inl b)=(a == b):=by
 by_cases e:a=b
 ·subst e;simp
 ·have h:¬(Sum.inl a:Key)=Sum.inl b:=λq=>e (Sum.inl.inj q)
  rw[decide_eq_false h];exact(beq_eq_false_iff_ne.mpr e).symm
theorem zX(a b:Str):decide ((Sum.inr a:Key)=Sum.inr b)=decide (a=b):=by
 by_cases e:a=b
 ·subst e;simp
 ·have h:¬(Sum.inr a:Key)=Sum.inr b:=λq=>e (Sum.inr.inj q)
  rw[decide_eq_false h,decide_eq_false e]
theorem zZ(a:Int)(b:Str):decide ((Sum.inl a:Key)=Sum.inr b)=false:=decide_eq_false (λq=>nomatch q)
theorem zY(a:Str)(b:Int):decide ((Sum.inr a:Key)=Sum.inl b)=false:=decide_eq_false (λq=>nomatch q)
noncomputable def se(prog:Program)(w:World):PySem.KeyKind prog w Key where
 is:=sS
 hash:=Ab w
 inj:=λv a b ha hb=>by
  rcases d0 ha with⟨i,t,rfl,rfl⟩ |⟨x,t,rfl,rfl⟩
  ·rcases d0 hb with⟨j,u,rfl,e⟩ |⟨y,u,rfl,e⟩
   ·injection e with e1 _;rw[e1]
   ·exact nomatch e
  ·rcases d0 hb with⟨j,u,rfl,e⟩ |⟨y,u,rfl,e⟩
   ·exact nomatch e
   ·injection e with e1 _;rw[e1]
 byValue:=λk v h=>by rcases d0 h with⟨i,t,rfl,rfl⟩ |⟨x,t,rfl,rfl⟩<;>rfl
 pyHash:=λhv h=>by
  rcases d0 hv with⟨i,t,rfl,rfl⟩ |⟨x,t,rfl,rfl⟩
  ·exact wpAny_pyHash_int h
  ·exact wpAny_pyHash_str h
 eqBool:=λhu hv h=>by
  rcases d0 hu with⟨i,t,rfl,rfl⟩ |⟨x,t,rfl,rfl⟩
  ·rcases d0 hv with⟨j,u,rfl,rfl⟩ |⟨y,u,rfl,rfl⟩
   ·rw[Aa]at h;exact wpAny_eqBool_int h
   ·rw[zZ]at h;exact SeqAt.EqAt.int_str i t y u _ _ _ _ h
  ·rcases d0 hv with⟨j,u,rfl,rfl⟩ |⟨y,u,rfl,rfl⟩
   ·rw[zY]at h;exact SeqAt.EqAt.str_int x t j u _ _ _ _ h
   ·rw[zX]at h;exact wpAny_eqBool_str h
 «strs»:=λk x t v h=>by
  rcases d0 h with⟨i,u,rfl,e⟩ |⟨y,u,rfl,e⟩
  ·exact nomatch e
  ·injection e with e1 _
   subst e1;cases v<;>rfl
inductive V where
 |non |bl (b:Bool) |int (i:Int) |str (x:Str) |byt (b:Array UInt8) |flt (b:UInt64) |ref (a:Addr) |ty (n:String)
 deriving DecidableEq
noncomputable def RelV:V->Value->Prop
 |.non,u=>u=Value.none
 |.bl b,u=>u=Value.bool b
 |.int i,u=>∃t,u=Value.int i t
 |.str x,u=>∃t,u=Value.str x t
 |.byt b,u=>∃t,u=Value.bytes b t
 |.flt b,u=>∃t,u=Value.float b t
 |.ref a,u=>u=Value.ref a
 |.ty n,u=>u=Value.type n
abbrev Vals:List V->List Value->Prop:=Paired RelV
theorem Vals.length{xs:List V}{us:List Value}(r:Vals xs us):xs.length=us.length:=Paired.length r
theorem Vals.get:∀{xs:List V} {us:List Value} {i:Nat} {x:V},Vals xs us->xs[i]?=some x->∃u,us[i]?=some u/\RelV x u
 |_,_,_,_,.nil,e=>by simp at e
 |_,_,0,_,.cons r _,e=>by simp at e;subst e;exact⟨_,rfl,r⟩
 |_,_,i+1,x,.cons _ t,e=>by obtain⟨u,h1,h2⟩:=Vals.get (i:=i) (x:=x) t (by simpa using e);exact⟨u,by simpa using h1,h2⟩
theorem Vals.set{x:V}{u:Value}(r:RelV x u):∀{xs:List V} {us:List Value} (i:Nat),Vals xs us->Vals (xs.set i x) (us.set i u)
 |_,_,_,.nil=>.nil
 |_,_,0,.cons _ t=>.cons r t
 |_,_,i+1,.cons q t=>.cons q (Vals.set r i t)
theorem Vals.append:∀{xs ys:List V} {us ws:List Value},Vals xs us->Vals ys ws->Vals (xs++ys) (us++ws)
 |_,_,_,_,.nil,s=>s
 |_,_,_,_,.cons r t,s=>.cons r (Vals.append t s)
theorem Vals.take:∀{xs:List V} {us:List Value} (n:Nat),Vals xs us->Vals (xs.take n) (us.take n)
 |_,_,0,_=>.nil
 |_,_,_+1,.nil=>.nil
 |_,_,n+1,.cons r t=>.cons r (Vals.take n t)
theorem Vals.drop:∀{xs:List V} {us:List Value} (n:Nat),Vals xs us->Vals (xs.drop n) (us.drop n)
 |_,_,0,r=>r
 |_,_,_+1,.nil=>.nil
 |_,_,n+1,.cons _ t=>Vals.drop n t
theorem Vals.none_of:∀{xs:List V} {us:List Value} {i:Nat},Vals xs us->xs[i]?=none->us[i]?=none:=λ{xs us i} r e=>by have h1:=r.length;have h2:xs.length<=i:=List.getElem?_eq_none_iff.mp e;exact List.getElem?_eq_none_iff.mpr (by omega)
noncomputable def RelO:Option V->Option Value->Prop
 |some v,some u=>RelV v u
 |none,none=>True
 |_,_=>False
noncomputable def KV{κ:Type}:List (κ×V)->List (κ×Value)->Prop:=Paired λ(p:κ×V) (q:κ×Value)=>p.1=q.1/\RelV p.2 q.2
noncomputable def kV:Key->V
 |.inl i=>.int i
 |.inr x=>.str x
inductive HO where
 |lst (xs:List V)
 |tup (xs:List V)
 |dK (kvs:List (Key×V)) |dT (kvs:List (List Key×V))
 |set (S:Int->Bool) (n:Nat)
 |ins (C dx:Addr) (fs:List (Str×V))
 |own (x:Addr)
 |xd (fs:List (Str×V))
 |met (f x:Addr)
 |rng (lo hi:Int)
 |frz (o:Obj) (u:HO)
 |tbl (ps:Array Value)
 |ext (φ:Heap->Prop)
abbrev Hp:=Addr->Option HO
noncomputable def upd(H:Hp)(a:Addr)(o:HO):Hp:=λb=>if b=a then some o else H b
theorem af{H:Hp}{a:Addr}{o:HO}:upd H a o a=some o:=by unfold upd;rw[if_pos rfl]
theorem upd_ne{H:Hp}{a b:Addr}{o:HO}(h:b≠a):upd H a o b=H b:=by unfold upd;rw[if_neg h]
theorem cO{H:Hp}{a:Addr}{o u:HO}:upd (upd H a o) a u=upd H a u:=by funext b;unfold upd;split<;>rfl
theorem aX{H:Hp}{a b:Addr}{o:HO}(h:H a=some o)(h':H b=none):a≠b:=by intro e;subst e;rw[h]at h';cases h'
section
variable (P:Program)(w:World)
noncomputable def ObjOk(H:Hp)(h:Heap)(a:Addr):HO->Prop
 |.lst xs=>xs.length<=sizeLine/\∃(its:List Value) (n:Nat),Vals xs its/\h.get? a=some { cls:=.type "list",data:=.seq its.toArray n }
 |.tup xs=>xs.length<=sizeLine/\∃its:List Value,Vals xs its/\IsTup h a its.toArray
 |.dK kvs=>kvs.length<=sizeLine/\(a == sysModules)=false/\∃vs,KV kvs vs/\h.DictOf (se P w) a vs
 |.dT kvs=>kvs.length<=sizeLine/\(a == sysModules)=false/\∃xs:List (List Key×Addr×Value),
  Paired (λ(p:List Key×V) (q:List Key×Addr×Value)=>p.1=q.1/\H q.2.1=some (.tup (p.1.map kV))/\RelV p.2 q.2.2) kvs xs /\
  ∃o es ep,h.get? a=some o/\o.ExactDict/\o.data=.dict es ep/\es.toList=xs.map (entryOfKey (tupleKind (se P w)))/\(xs.map (·.1)).Nodup
 |.set S n=>h.SetOf (intKind P w) a S n
 |.ins C dx fs=>H dx=some (.own a)/\fs.length<=1000/\dx≠a/\h.get? a=some (PySem.W.instObj C dx) /\
  ∃mA,h.Ns1 dx mA/\(∀f,RelO (fs.lookup f) (mA f))/\PySem.Within mA (fs.map (·.1))
 |.own _=>∃o,h.get? a=some o
 |.xd fs=>∃mA,h.Ns1 a mA/\∀f,RelO (fs.lookup f) (mA f)
 |.rng lo hi=>∃t u v,h.get? a=some { cls:=.type "range",data:=.fields #[.int lo t,.int hi u,.int 1 v] }
 |.frz o u=>h.get? a=some o/\ObjOk H h a u
 |.tbl ps=>h.get? a=some { cls:=.none,data:=.fields ps }
 |.met f x=>h.get? a=some (PySem.W.methodObj (.ref f) (.ref x))
 |.ext φ=>φ h/\(∃o,h.get? a=some o)/\∀h1 h2:Heap,φ h1->(∀o,h1.get? a=some o->h2.get? a=some o)->φ h2
def HOk(H:Hp)(h:Heap):Prop:=∀a o,H a=some o->ObjOk P w H h a o
end
section
variable {P:Program}{w:World}{H H':Hp}{h h':Heap}{a:Addr}{o:HO}
theorem ObjOk.lt(x:ObjOk P w H h a o):a<h.objs.size:=by
 cases o with
 |lst xs=>obtain⟨_,_,_,_,e⟩:=x;exact Heap.lt_size e
 |tup xs=>obtain⟨_,_,_,p⟩:=x;exact p.lt
 |dK kvs=>obtain⟨_,_,_,_,o,_,_,e,_⟩:=x;exact Heap.lt_size e
 |dT kvs=>obtain⟨_,_,_,_,o,_,_,e,_⟩:=x;exact Heap.lt_size e
 |set S n=>obtain⟨o,_,_,_,e,_⟩:=x;exact Heap.lt_size e
 |ins C dx fs=>obtain⟨_,_,_,e,_⟩:=x;exact Heap.lt_size e
 |own y=>obtain⟨_,e⟩:=x;exact Heap.lt_size e
 |xd fs=>obtain⟨_,⟨_,_,_,e,_⟩,_⟩:=x;exact Heap.lt_size e
 |rng lo hi=>obtain⟨_,_,_,e⟩:=x;exact Heap.lt_size e
 |frz ob u=>obtain⟨e,_⟩:=x;exact Heap.lt_size e
 |tbl ps=>exact Heap.lt_size (show h.get? a=some _ from x)
 |met f y=>exact Heap.lt_size (show h.get? a=some _ from x)
 |ext φ=>obtain⟨_,⟨_,e⟩,_⟩:=x;exact Heap.lt_size e
theorem Paired.mapP{α β:Type}{F G:α->β->Prop}:∀{l₁:List α} {l₂:List β},Paired F l₁ l₂->(∀a b,F a b->G a b)->Paired G l₁ l₂
 |_,_,.nil,_=>.nil
 |_,_,.cons r t,f=>.cons (f _ _ r) (Paired.mapP t f)
theorem ObjOk.stay(x:ObjOk P w H h a o)(k:∀b u,(b=a\/H b=some (.own a))->h.get? b=some u->h'.get? b=some u)
 (ho:∀b,H b=some (.own a)->H' b=some (.own a)) (ht:∀b xs,H b=some (.tup xs)->H' b=some (.tup xs)):ObjOk P w H' h' a o:=by
 induction o with
 |lst xs=>obtain⟨z,its,n,r,e⟩:=x;exact⟨z,its,n,r,k _ _ (.inl rfl) e⟩
 |tup xs=>obtain⟨z,its,r,ob,e,c⟩:=x;exact⟨z,its,r,ob,k _ _ (.inl rfl) e,c⟩
 |dK kvs=>obtain⟨z,y,vs,r,ob,es,ep,e,c⟩:=x;exact⟨z,y,vs,r,ob,es,ep,k _ _ (.inl rfl) e,c⟩
 |dT kvs =>obtain⟨z,y,xs,r,ob,es,ep,e,c⟩:=x;exact⟨z,y,xs,Paired.mapP r λp q z=>⟨z.1,ht _ _ z.2.1,z.2.2⟩,ob,es,ep,k _ _ (.inl rfl) e,c⟩
 |set S n=>obtain⟨ob,es,ep,t,e,c⟩:=x;exact⟨ob,es,ep,t,k _ _ (.inl rfl) e,c⟩
 |ins C dx fs =>obtain⟨d,z,ne,e,mA,⟨od,es,ep,e2,c⟩,r⟩:=x;exact⟨ho _ d,z,ne,k _ _ (.inl rfl) e,mA,⟨od,es,ep,k _ _ (.inr d) e2,c⟩,r⟩
 |own y=>obtain⟨ob,e⟩:=x;exact⟨ob,k _ _ (.inl rfl) e⟩
 |xd fs=>obtain⟨mA,⟨od,es,ep,e,c⟩,r⟩:=x;exact⟨mA,⟨od,es,ep,k _ _ (.inl rfl) e,c⟩,r⟩
 |rng lo hi=>obtain⟨t,u,v,e⟩:=x;exact⟨t,u,v,k _ _ (.inl rfl) e⟩
 |frz ob u ih=>obtain⟨e,q⟩:=x;exact⟨k _ _ (.inl rfl) e,ih q⟩
 |tbl ps =>have e:h.get? a=some { cls:=.none,data:=.fields ps }:=x;show h'.get? a=some { cls:=.none,data:=.fields ps };exact k a _ (.inl rfl) e
 |met f y =>have e:h.get? a=some (PySem.W.methodObj (.ref f) (.ref y)):=x;show h'.get? a=some (PySem.W.methodObj (.ref f) (.ref y));exact k a _ (.inl rfl) e
 |ext φ=>obtain⟨p,⟨o,e⟩,st⟩:=x;exact⟨st _ _ p λo q=>k _ _ (.inl rfl) q,⟨o,k _ _ (.inl rfl) e⟩,st⟩
theorem HOk.lt(x:HOk P w H h)(e:H a=some o):a<h.objs.size:=(x a o e).lt
theorem HOk.fresh(x:HOk P w H h)(e:h.objs.size<=a):H a=none:=by
 cases q:H a with
 |none=>rfl
 |some u=>exact absurd (ET (x.lt q) e) (E9 _)
theorem HOk.kept(x:HOk P w H h)(k:∀b u,h.get? b=some u->h'.get? b=some u):HOk P w H h':=λa o e =>(x a o e).stay (λb u _ q=>k b u q) (λ_ q=>q) λ_ _ q=>q
theorem HOk.laid(x:HOk P w H h)(k:∀b u,h.get? b=some u->h'.get? b=some u)(hp:h.objs.size<=a)(new:ObjOk P w (upd H a o) h' a o):HOk P w (upd H a o) h':=λb u e=>by
 have hn:=x.fresh hp;by_cases hb:b=a
 ·subst hb;rw[af]at e;cases e;exact new
 ·rw[upd_ne hb]at e;exact(x b u e).stay (λc v _ q=>k c v q) (λc q=>by rw[upd_ne (aX q hn)];exact q) λc xs q=>by rw[upd_ne (aX q hn)];exact q
end
def Rd(H:Hp)(a:Addr)(u:HO):Prop:=H a=some u\/∃o,H a=some (.frz o u)
theorem Rd.of{H:Hp}{a:Addr}{u:HO}(h:H a=some u):Rd H a u:=.inl h
theorem Rd.ok{P:Program}{w:World}{H:Hp}{h:Heap}{a:Addr}{u:HO}(r:Rd H a u)(x:HOk P w H h):ObjOk P w H h a u:=by
 rcases r with r |⟨o,r⟩
 ·exact x a u r
 ·obtain⟨_,q⟩:=x a _ r;exact q
noncomputable def Mut:Option HO->Prop
 |some (.lst _)=>True
 |some (.dK _)=>True
 |some (.dT _)=>True
 |some (.set _ _)=>True
 |some (.ins _ _ _)=>True
 |some (.ext _)=>True
 |_=>False
section
variable {P:Program}{w:World}{H:Hp}{h h':Heap}{x e:Addr}{o':HO}
theorem HOk.write(ok:HOk P w H h)(mu:Mut (H x))(he:e=x\/H e=some (.own x))(k:∀b u,b≠e->h.get? b=some u->h'.get? b=some u)(heo:∃u,h'.get? e=some u)
 (new:ObjOk P w (upd H x o') h' x o'):HOk P w (upd H x o') h':=λb u q=>by
 have nown:∀c y,H c=some (.own y)->c≠x:=λc y r z=>by subst z;rw[r]at mu;exact mu
 have ntup:∀c xs,H c=some (.tup xs)->c≠x:=λc xs r z=>by subst z;rw[r]at mu;exact mu
 by_cases hb:b=x
 ·subst hb;rw[af]at q;cases q;exact new
 ·rw[upd_ne hb]at q;by_cases hbe:b=e
  ·have q':H b=some (.own x):=by
    rcases he with z |z
    ·exact absurd (hbe.trans z) hb
    ·rw[hbe];exact z
   rw[q]at q';cases q';obtain⟨v,hv⟩:=heo;exact⟨v,by rw[hbe];exact hv⟩
  ·refine(ok b u q).stay (λc v hc r=>k c v ?_ r) (λc r=>by rw[upd_ne (nown c b r)];exact r) λc xs r=>by rw[upd_ne (ntup c xs r)];exact r
   rcases hc with rfl |hc
   ·exact hbe
   ·rintro rfl;rcases he with z |z
    ·exact nown c b hc z
    ·rw[hc]at z;cases z;exact hb rfl
end
structure Un(fs ex:List Addr)(H H':Hp)(h h':Heap):Prop where
 keep:∀b o,h.get? b=some o->H b=none->b∉fs->b∉ex->h'.get? b=some o
 slot:∀b o,h.get? b=some o->H b=none->b∈fs->b∉ex->∃sl,h'.get? b=some { o with slots:=sl }
 free:∀b o,h.get? b=some o->H b=none->b∉ex->H' b=none
 there:∀b o,h.get? b=some o->b∉ex->∃o',h'.get? b=some o'
 tups:∀b xs,H b=some (.tup xs)->H' b=some (.tup xs)
 frzs:∀b o u,H b=some (.frz o u)->H' b=some (.frz o u)
 tbls:∀b ps,H b=some (.tbl ps)->∃more,H' b=some (.tbl (ps++more))
section
variable {fs fs' ex ex':List Addr}{H H1 H2:Hp}{h h1 h2 h':Heap}{a x e:Addr}{o:HO}
theorem Un.any(u:Un fs ex H H1 h h1){b:Addr}{ob:Obj}(q:h.get? b=some ob)(n:H b=none)(hx:b∉ex):∃sl,h1.get? b=some { ob with slots:=sl }:=by
 by_cases hb:b∈fs
 ·exact u.slot b ob q n hb hx
 ·exact⟨ob.slots,u.keep b ob q n hb hx⟩
theorem Un.trans(a:Un fs ex H H1 h h1)(b:Un fs ex H1 H2 h1 h2):Un fs ex H H2 h h2 where
 keep:=λc ob q n hc hx=>b.keep c ob (a.keep c ob q n hc hx) (a.free c ob q n hx) hc hx
 slot:=λc ob q n hc hx=>by obtain⟨sl,e1⟩:=a.slot c ob q n hc hx;obtain⟨sl',e2⟩:=b.slot c _ e1 (a.free c ob q n hx) hc hx;exact⟨sl',e2⟩
 free:=λc ob q n hx=>by obtain⟨o',e1⟩:=a.there c ob q hx;exact b.free c o' e1 (a.free c ob q n hx) hx
 there:=λc ob q hx=>by obtain⟨o',e1⟩:=a.there c ob q hx;exact b.there c o' e1 hx
 tups:=λc xs q=>b.tups c xs (a.tups c xs q)
 frzs:=λc ob xs q=>b.frzs c ob xs (a.frzs c ob xs q)
 tbls:=λc ps q=>by obtain⟨m1,e1⟩:=a.tbls c ps q;obtain⟨m2,e2⟩:=b.tbls c _ e1;exact⟨m1++m2,by rw[e2,Array.append_assoc]⟩
theorem Un.kept(k:∀b u,h.get? b=some u->h'.get? b=some u):Un fs ex H H h h' :=
 ⟨λb ob q _ _ _=>k b ob q,λb ob q _ _ _=>⟨ob.slots,k b ob q⟩,λ_ _ _ n _=>n,λb ob q _=>⟨ob,k b ob q⟩,λ_ _ q=>q,λ_ _ _ q=>q,λ_ ps q=>⟨#[],by rw[q];simp⟩⟩
theorem Un.refl:Un fs ex H H h h:=Un.kept λ_ _ q=>q
theorem Un.laid(k:∀b u,h.get? b=some u->h'.get? b=some u)(hp:h.objs.size<=a)(hn:H a=none):Un fs ex H (upd H a o) h h' where
 keep:=λb u q _ _ _=>k b u q
 slot:=λb u q _ _ _=>⟨u.slots,k b u q⟩
 free:=λb u q n _=>by rw[upd_ne (E3 (ET (Heap.lt_size q) hp))];exact n
 there:=λb u q _=>⟨u,k b u q⟩
 tups:=λb xs q=>by rw[upd_ne (aX q hn)];exact q
 frzs:=λb u xs q=>by rw[upd_ne (aX q hn)];exact q
 tbls:=λb ps q=>⟨#[],by rw[upd_ne (aX q hn),q];simp⟩
theorem Un.write(mu:Mut (H x))(he:e=x\/H e=some (.own x))(k:∀b u,b≠e->h.get? b=some u->h'.get? b=some u)(heo:∃u,h'.get? e=some u):Un fs ex H (upd H x o) h h':=by
 have hx:∀b,H b=none->b≠x:=λb n z=>by subst z;rw[n]at mu;exact mu
 have hb:∀b,H b=none->b≠e:=λb n z=>by
  subst z;rcases he with r |r
  ·exact hx b n r
  ·rw[n]at r;cases r
 have hm:∀b u,H b=some u->¬Mut (some u)->b≠x:=λb u q nm z=>by subst z;rw[q]at mu;exact nm mu
 refine⟨λb u q n _ _=>k b u (hb b n) q,λb u q n _ _=>⟨u.slots,k b u (hb b n) q⟩,λb u q n _=>by rw[upd_ne (hx b n)];exact n,λb u q _=>?_,
  λb xs q=>by rw[upd_ne (hm b _ q λz=>z)];exact q,λb u xs q=>by rw[upd_ne (hm b _ q λz=>z)];exact q,λb ps q=>⟨#[],by rw[upd_ne (hm b _ q λz=>z),q];simp⟩⟩
 by_cases hbe:b=e
 ·subst hbe;exact heo
 ·exact⟨u,k b u hbe q⟩
theorem Un.mono(u:Un fs ex H H1 h h1)(hs:∀b∈fs,b∈fs')(hx:∀b∈ex,b∈ex'):Un fs' ex' H H1 h h1 :=
 ⟨λb ob q n hb he=>u.keep b ob q n (λz=>hb (hs b z)) λz=>he (hx b z),λ_ _ q n _ he=>u.any q n λz=>he (hx _ z),λb ob q n he=>u.free b ob q n λz=>he (hx b z),λb ob q he=>u.there b ob q λz=>he (hx b z),u.tups,u.frzs,u.tbls⟩
end
noncomputable def trk(h:Heap)(H:Hp):List Addr:=(List.range h.objs.size).filter λa=>(H a).isSome
noncomputable def d5(h:Heap)(H:Hp):Heap:=PySem.W.hideAll h (trk h H)
theorem AN(h:Heap)(H:Hp):(d5 h H).objs.size=h.objs.size:=PySem.W.hideAll_size _ _
theorem AO{h:Heap}{H:Hp}{b:Addr}{o:Obj}(e:h.get? b=some o)(n:H b=none):(d5 h H).get? b=some o :=
 PySem.W.hideAll_get _ e λhm=>by have q:(H b).isSome=true:=(List.mem_filter.mp hm).2;rw[n]at q;simp at q
theorem yC{h:Heap}{H:Hp}{b:Addr}{o:Obj}(e:(d5 h H).get? b=some o):h.get? b=some o/\H b=none:=by
 have e':h.get? b=some o:=PySem.W.of_hideAll (trk h H) e;refine⟨e',?_⟩;cases q:H b with
 |none=>rfl
 |some x =>have hm:b∈trk h H:=List.mem_filter.mpr ⟨List.mem_range.mpr (Heap.lt_size e'),by simp[q]⟩;have z:(d5 h H).get? b=none:=PySem.W.hideAll_none (trk h H) hm;rw[z]at e;cases e
noncomputable def Df(g h:Heap)(L:Addr):List (Addr×Obj):=(List.range h.objs.size).filterMap λa=>if a=L\/(g.get? a).isSome=true then none else(h.get? a).map λo=>(a,o)
noncomputable def rest(g h:Heap)(L d:Addr):List (Addr×Obj):=(Df g h L).filter λp=>decide (p.1≠d)
structure Mod(K:PySem.W.Frag)(mg:Str->Option Value)(base:Heap):Prop where
 kin:K.In base
 glob:base.Ns mainGlobals mg
 blt:∃mb,base.Ns builtinsNs mb/\∀x:Str,x≠"__name__"->mb x=bootBuiltins x
 nolimit:base.NoLimit
structure Cx where
 prog:Program
 w:World
 K:PySem.W.Frag
 mg:Str->Option Value
 base:Heap
 A:Around
 N:List Str
 s₀:Shared
 H₀:Hp
 env:Env
 outer:List Env
 stack:List Env
 ex:List Addr
 fn:Str->Bool
 calm:Bool
 pn:List (Addr×Obj)
 xe:Value->Shared->Prop
noncomputable def frs(l:List Env):List Addr:=l.filterMap (·.frame)
abbrev Cx.fs(X:Cx):List Addr:=frs X.outer
def Vis(sc:Scope)(x:Str):Prop:=sc.names.lookup x=some .local\/sc.names.lookup x=some .cell\/sc.names.lookup x=some .free
def Loc(sc:Scope)(x:Str):Prop:=sc.names.lookup x=some .local\/sc.names.lookup x=some .cell
noncomputable def Dt(env:Env)(h:Heap)(m:Str->Option Value)(x:Str)(u:Value):Prop :=
 (env.kindOf x=some .local/\m x=some u)\/((env.kindOf x=some .cell\/env.kindOf x=some .free)/\∃c,env.cells.lookup x=some c/\h.IsCell c (some u))
structure Cx.Ok(X:Cx):Prop where
 mod:Mod X.K X.mg X.base
 kind:X.env.scope.kind=.function
 glob:X.env.globals=mainGlobals
 blt:X.env.builtins=builtinsNs
 above:X.s₀.heap.objs.size<=X.env.locals
 inj:∀x y c,X.env.cells.lookup x=some c->X.env.cells.lookup y=some c->x=y
 has:∀x,(X.env.kindOf x=some .cell\/X.env.kindOf x=some .free)->∃c,X.env.cells.lookup x=some c
 cab:∀x c,X.fn x=true->X.env.cells.lookup x=some c->X.s₀.heap.objs.size<=c
 hd:X.calm=true->X.A.handled=none
 frames:X.A.frames=some X.stack
 stk:X.stack=X.outer\/(X.stack=X.env::X.outer/\X.env.frame=some X.env.locals)
 exf:∀b∈X.ex,b≠X.env.locals/\∀x c,X.env.cells.lookup x=some c->c≠b
 bs:∀b o,X.base.get? b=some o->X.s₀.heap.get? b=some o/\X.H₀ b=none
 bsz:X.base.objs.size<=X.s₀.heap.objs.size
 noex:∀b o,X.base.get? b=some o->b∉X.ex
 exfs:∀b∈X.ex,b∉X.fs
 funs:X.s₀.heap.FunFrames X.base X.outer
 frf:∀b∈X.fs,X.H₀ b=none
structure Inv(X:Cx)(pins:List (Addr×Obj))(σ:List (Option V))(H:Hp)(s:Shared):Prop where
 ok:X.Ok
 os:s.os=X.s₀.os
 bare:AllBare s.gens
 base:Un X.fs X.ex X.H₀ H X.s₀.heap s.heap
 loc:∃m,s.heap.Ns X.env.locals m/\∀(i:Nat) (x:Str) (v:V),X.N[i]?=some x->σ[i]?=some (some v)->Vis X.env.scope x->∃u,RelV v u/\Dt X.env s.heap m x u
 cell:∀x c,X.env.cells.lookup x=some c->∃v,s.heap.IsCell c v
 free:H X.env.locals=none
 freeC:∀x c,X.env.cells.lookup x=some c->H c=none
 pin:∀p∈X.pn++pins,s.heap.get? p.1=some p.2/\H p.1=none/\p.1≠X.env.locals/\p.1∉X.fs/\∀v,p.2.data≠.cell v
 hok:HOk X.prog X.w H s.heap
 len:σ.length=X.N.length
section
variable {X:Cx}{pins:List (Addr×Obj)}{σ:List (Option V)}{H H':Hp}{s:Shared}{h':Heap}
theorem Cx.Ok.nofr(ok:X.Ok){b:Addr}{o:Obj}(e:X.base.get? b=some o):b∉X.fs:=λhb=>by have:=(ok.funs.mem hb).1;rw[e]at this;cases this
theorem Inv.bs(I:Inv X pins σ H s):∀b o,X.base.get? b=some o->s.heap.get? b=some o/\H b=none:=λb o e =>⟨I.base.keep b o (I.ok.bs b o e).1 (I.ok.bs b o e).2 (I.ok.nofr e) (I.ok.noex b o e),I.base.free b o (I.ok.bs b o e).1 (I.ok.bs b o e).2 (I.ok.noex b o e)⟩
theorem Inv.bk(I:Inv X pins σ H s):∀b o,X.base.get? b=some o->s.heap.get? b=some o:=λb o e=>(I.bs b o e).1
theorem Inv.mod(I:Inv X pins σ H s):Mod X.K X.mg X.base:=I.ok.mod
theorem Inv.kIn(I:Inv X pins σ H s):X.K.In s.heap:=I.ok.mod.kin.keeps I.bk
theorem Inv.nolimit(I:Inv X pins σ H s):s.heap.NoLimit:=I.ok.mod.nolimit.keeps I.bk
theorem Inv.fr(I:Inv X pins σ H s):∃m,Fr X.base X.env.locals s.heap m :=
 let⟨m,hn,_⟩:=I.loc
 ⟨m,hn,I.bk,ES I.ok.bsz I.ok.above⟩
theorem Inv.lt(I:Inv X pins σ H s):X.env.locals<s.heap.objs.size:=let⟨_,hn,_⟩:=I.loc;hn.lt
theorem Inv.sz(I:Inv X pins σ H s):X.s₀.heap.objs.size<=s.heap.objs.size:=ES I.ok.above (Nat.le_of_lt I.lt)
theorem Inv.nofs(I:Inv X pins σ H s){a:Addr}(h:s.heap.objs.size<=a):a∉X.fs:=λhb=>by obtain⟨_,o,ho,_⟩:=I.ok.funs.mem hb;exact absurd (ET (Heap.lt_size ho) (ES I.sz h)) (E9 _)
theorem Inv.cne(I:Inv X pins σ H s):∀x c,X.env.cells.lookup x=some c->c≠X.env.locals:=λx c e z=>by obtain⟨v,o,ho,hd⟩:=I.cell x c e;obtain⟨m,⟨o',es,ep,ho',hd',_⟩,_⟩:=I.loc;rw[z,ho']at ho;cases ho;rw[hd']at hd;cases hd
theorem Inv.funs(I:Inv X pins σ H s):s.heap.FunFrames X.base X.outer:=by
 have all:∀(l:List Env),(∀b∈frs l,b∈X.fs)->X.s₀.heap.FunFrames X.base l->s.heap.FunFrames X.base l:=by
  intro l
  induction l with
  |nil=>intro _ _;trivial
  |cons env r ih =>
   intro hs hl;obtain⟨hk,⟨L,o,hf,hn,ho,hd⟩,hr⟩:=hl;have hL:L∈X.fs:=hs L (by unfold frs;rw[FI,hf];exact FJ);obtain⟨sl,e⟩:=I.base.slot L o ho (I.ok.frf L hL) hL λz=>I.ok.exfs L z hL
   exact⟨hk,⟨L,_,hf,hn,e,hd⟩,ih (λb hb=>hs b (by unfold frs;rw[FI,hf];exact Fo _ hb)) hr⟩
 exact all X.outer (λ_ hb=>hb) I.ok.funs
theorem Inv.stack(I:Inv X pins σ H s):s.heap.FunFrames X.base X.stack:=by
 rcases I.ok.stk with e |⟨e,hf⟩
 ·rw[e];exact I.funs
 ·rw[e];obtain⟨m,hn,_⟩:=I.loc;refine .cons (by rw[I.ok.kind];decide) hf hn ?_ I.funs;exact Heap.get?_none_of_le (ES I.ok.bsz I.ok.above)
theorem Inv.stkSub(I:Inv X pins σ H s):∀b∈frs X.stack,b∈X.env.locals::X.fs:=λb hb=>by
 rcases I.ok.stk with e |⟨e,hf⟩
 ·rw[e]at hb;exact Fo _ hb
 ·rw[e]at hb;unfold frs at hb
  rw[FI,hf]at hb;exact hb
theorem Inv.stkFree(I:Inv X pins σ H s):∀b∈frs X.stack,H b=none:=λb hb=>by
 rcases EQ.mp (I.stkSub b hb)with e |hb
 ·rw[e];exact I.free
 ·obtain⟨_,o,ho,_⟩:=I.ok.funs.mem hb;exact I.base.free b o ho (I.ok.frf b hb) λz=>I.ok.exfs b z hb
theorem Inv.step{g':Array GenState}{t':Nat}{d':Drawn}{ch:List Addr}(I:Inv X pins σ H s)
 (hch:∀b∈ch,(b∈X.ex\/X.s₀.heap.objs.size<=b)/\b≠X.env.locals/\(∀x c,X.env.cells.lookup x=some c->c≠b)/\∀p∈X.pn++pins,p.1≠b)
 (keep:∀b o,b≠X.env.locals->b∉X.fs->b∉ch->s.heap.get? b=some o->H b=none->h'.get? b=some o)
 (slot:∀b o,b≠X.env.locals->b∈X.fs->b∉ch->s.heap.get? b=some o->H b=none->∃sl,h'.get? b=some { o with slots:=sl }) (free:∀b o,b∉ch->s.heap.get? b=some o->H b=none->H' b=none)
 (there:∀b o,b∉ch->s.heap.get? b=some o->∃o',h'.get? b=some o')
 (tups:∀b xs,H b=some (.tup xs)->H' b=some (.tup xs)) (frzs:∀b o u,H b=some (.frz o u)->H' b=some (.frz o u)) (tbls:∀b ps,H b=some (.tbl ps)->∃more,H' b=some (.tbl (ps++more)))
 (ns:∀m,s.heap.Ns X.env.locals m->h'.Ns X.env.locals m) (hok:HOk X.prog X.w H' h') (hg:AllBare g') :
 Inv X pins σ H' { s with heap:=h',gens:=g',drawn:=d',toks:=t' }:=by
 have neL:∀b o,X.s₀.heap.get? b=some o->b≠X.env.locals:=λb o e=>E3 (ET (Heap.lt_size e) I.ok.above)
 have neC:∀b o,X.s₀.heap.get? b=some o->b∉X.ex->b∉ch:=λb o e hx hb=>by
  rcases(hch b hb).1 with z |z
  ·exact hx z
  ·exact absurd (ET (Heap.lt_size e) z) (E9 _)
 have cellK:∀x c,X.env.cells.lookup x=some c->∀v,s.heap.IsCell c v->h'.IsCell c v:=λx c e v ⟨o,ho,hd⟩=>by
  have nch:c∉ch:=λz=>(hch c z).2.2.1 x c e rfl
  by_cases hc:c∈X.fs
  ·obtain⟨sl,q⟩:=slot c o (I.cne x c e) hc nch ho (I.freeC x c e);exact⟨_,q,hd⟩
  ·exact⟨o,keep c o (I.cne x c e) hc nch ho (I.freeC x c e),hd⟩
 refine⟨I.ok,I.os,hg,⟨λb o e n hb hx=>?_,λb o e n hb hx=>?_,λb o e n hx=>?_,λb o e hx=>?_,λb xs e=>tups b xs (I.base.tups b xs e),λb o xs e=>frzs b o xs (I.base.frzs b o xs e),λb ps e=>?_⟩,?_,λx c e=>?_,?_,λx c e=>?_,λp hp=>?_,hok,I.len⟩
 ·exact keep b o (neL b o e) hb (neC b o e hx) (I.base.keep b o e n hb hx) (I.base.free b o e n hx)
 ·obtain⟨sl,e1⟩:=I.base.slot b o e n hb hx;obtain⟨sl',e2⟩:=slot b _ (neL b o e) hb (neC b o e hx) e1 (I.base.free b o e n hx);exact⟨sl',e2⟩
 ·obtain⟨o',e1⟩:=I.base.there b o e hx;exact free b o' (neC b o e hx) e1 (I.base.free b o e n hx)
 ·obtain⟨o',e1⟩:=I.base.there b o e hx;exact there b o' (neC b o e hx) e1
 ·obtain⟨m1,e1⟩:=I.base.tbls b ps e;obtain⟨m2,e2⟩:=tbls b _ e1;exact⟨m1++m2,by rw[e2,Array.append_assoc]⟩
 ·obtain⟨m,hn,hl⟩:=I.loc;refine⟨m,ns m hn,λi x v e1 e2 e3=>?_⟩;obtain⟨u,r,l⟩:=hl i x v e1 e2 e3;refine⟨u,r,?_⟩;rcases l with l |⟨k,c,e,z⟩
  ·exact .inl l
  ·exact .inr ⟨k,c,e,cellK x c e _ z⟩
 ·obtain⟨v,z⟩:=I.cell x c e;exact⟨v,cellK x c e v z⟩
 ·obtain⟨m,⟨o,_,_,ho,_⟩,_⟩:=I.loc;exact free _ o (λz=>(hch _ z).2.1 rfl) ho I.free
 ·obtain⟨v,o,ho,hd⟩:=I.cell x c e;exact free c o (λz=>(hch c z).2.2.1 x c e rfl) ho (I.freeC x c e)
 ·obtain⟨e,n,ne,nf,d⟩:=I.pin p hp;have nch:p.1∉ch:=λz=>(hch p.1 z).2.2.2 p hp rfl
  exact⟨keep p.1 p.2 ne nf nch e n,free p.1 p.2 nch e n,ne,nf,d⟩
theorem Inv.un{t':Nat}(I:Inv X pins σ H s)(u:Un X.fs [] H H' s.heap h')(hok:HOk X.prog X.w H' h'):Inv X pins σ H' { s with heap:=h',toks:=t' }:=by
 obtain⟨m,⟨o,es,ep,ho,r⟩,_⟩:=id I.loc;obtain⟨sl,hL⟩:=u.any ho I.free (by simp)
 exact I.step (g':=s.gens) (d':=s.drawn) (ch:=[]) (λ_ z=>nomatch z) (λb o _ hb _ e n=>u.keep b o e n hb (by simp)) (λb o _ hb _ e n=>u.slot b o e n hb (by simp)) (λb o _ e n=>u.free b o e n (by simp)) (λb o _ e=>u.there b o e (by simp)) u.tups u.frzs u.tbls (λm' hm=>by
  obtain⟨o',es',ep',ho',r'⟩:=hm;rw[ho]at ho';cases ho'
  exact⟨_,es',ep',hL,r'⟩) hok I.bare
theorem Inv.call{g':Array GenState}{t':Nat}{d':Drawn}{ch:List Addr}(I:Inv X pins σ H s)(u:Un (frs X.stack) ch H H' s.heap h')(hok:HOk X.prog X.w H' h')(hg:AllBare g')
 (hch:∀b∈ch,(b∈X.ex\/X.s₀.heap.objs.size<=b)/\b≠X.env.locals/\(∀x c,X.env.cells.lookup x=some c->c≠b)/\∀p∈X.pn++pins,p.1≠b) :
 Inv X pins σ H' { s with heap:=h',gens:=g',drawn:=d',toks:=t' }:=by
 obtain⟨m,⟨o,es,ep,ho,r⟩,_⟩:=id I.loc;obtain⟨sl,hL⟩:=u.any ho I.free λz=>(hch _ z).2.1 rfl
 exact I.step (ch:=ch) hch (λb o hL hb hc e n=>u.keep b o e n (λz=>(EQ.mp (I.stkSub b z)).elim hL hb) hc) (λb o _ _ hc e n=>u.any e n hc) (λb o hc e n=>u.free b o e n hc) (λb o hc e=>u.there b o e hc) u.tups u.frzs u.tbls (λm' hm=>by
  obtain⟨o',es',ep',ho',r'⟩:=hm;rw[ho]at ho';cases ho'
  exact⟨_,es',ep',hL,r'⟩) hok hg
theorem Inv.turned{t':Nat}{it:Addr}(I:Inv X pins σ H s)(k:∀b o,b≠it->s.heap.get? b=some o->h'.get? b=some o)(hn:H it=none)(hL:it≠X.env.locals)
 (h1:it∈X.ex\/X.s₀.heap.objs.size<=it) (h2:∀x c,X.env.cells.lookup x=some c->c≠it) (h3:∀p∈X.pn++pins,p.1≠it):Inv X pins σ H { s with heap:=h',toks:=t' }:=by
 have nit:∀b u,H b=some u->b≠it:=λb u e z=>by rw[z,hn]at e;cases e
 refine I.step (g':=s.gens) (d':=s.drawn) (ch:=[it]) (λb hb=>?_) (λb o _ _ hc e _=>k b o (λz=>hc (by simp[z])) e) (λb o _ _ hc e _=>⟨o.slots,k b o (λz=>hc (by simp[z])) e⟩) (λ_ _ _ _ n=>n)
  (λb o hc e=>⟨o,k b o (λz=>hc (by simp[z])) e⟩) (λ_ _ e=>e) (λ_ _ _ e=>e) (λb ps e=>⟨#[],by rw[e];simp⟩) (λm hm=>?_) (λb u e=>?_) I.bare
 ·have e:b=it:=by simpa using hb
  subst e;exact⟨h1,hL,h2,h3⟩
 ·obtain⟨o,es,ep,ho,r⟩:=hm;exact⟨o,es,ep,k _ o (Ne.symm hL) ho,r⟩
 ·refine(I.hok b u e).stay (λc v hc q=>k c v ?_ q) (λ_ q=>q) λ_ _ q=>q
  rcases hc with z |z
  ·rw[z];exact nit b u e
  ·exact nit c _ z
theorem Inv.tok(I:Inv X pins σ H s)(t:Nat):Inv X pins σ H { s with toks:=t }:=I.un (h':=s.heap) (t':=t) Un.refl I.hok
theorem Inv.kept{t':Nat}(I:Inv X pins σ H s)(k:∀b u,s.heap.get? b=some u->h'.get? b=some u):Inv X pins σ H { s with heap:=h',toks:=t' }:=I.un (Un.kept k) (I.hok.kept k)
theorem Inv.laid{a:Addr}{o:HO}{t':Nat}(I:Inv X pins σ H s)(k:∀b u,s.heap.get? b=some u->h'.get? b=some u)(hp:s.heap.objs.size<=a)(new:ObjOk X.prog X.w (upd H a o) h' a o) :
 Inv X pins σ (upd H a o) { s with heap:=h',toks:=t' }:=I.un (Un.laid k hp (I.hok.fresh hp)) (I.hok.laid k hp new)
theorem Inv.write{x e:Addr}{o:HO}{t':Nat}(I:Inv X pins σ H s)(mu:Mut (H x))(he:e=x\/H e=some (.own x))(k:∀b u,b≠e->s.heap.get? b=some u->h'.get? b=some u)(heo:∃u,h'.get? e=some u)
 (new:ObjOk X.prog X.w (upd H x o) h' x o):Inv X pins σ (upd H x o) { s with heap:=h',toks:=t' }:=I.un (Un.write mu he k heo) (I.hok.write mu he k heo new)
theorem Inv.pins_of{pins':List (Addr×Obj)}(I:Inv X pins σ H s)(h:∀p∈pins',s.heap.get? p.1=some p.2/\H p.1=none/\p.1≠X.env.locals/\p.1∉X.fs/\∀v,p.2.data≠.cell v):Inv X pins' σ H s :=
 ⟨I.ok,I.os,I.bare,I.base,I.loc,I.cell,I.free,I.freeC,λp hp=>(EW.mp hp).elim (λz=>I.pin p (List.mem_append_left _ z)) (h p),I.hok,I.len⟩
theorem rO{N:List Str}(hN:N.Nodup){i j:Nat}{x:Str}(a:N[i]?=some x)(b:N[j]?=some x):i=j:=by obtain⟨h1,e1⟩:=List.getElem?_eq_some_iff.mp a;obtain⟨h2,e2⟩:=List.getElem?_eq_some_iff.mp b;exact(List.getElem_inj hN).mp (e1.trans e2.symm)
theorem vE{M:Model}{A:Around}{E:Value->Shared->Prop}{i:Nat}{x:Str}{v:V}{u:Value}{Q:Unit->Shared->Prop}(I:Inv X pins σ H s)(hN:X.N.Nodup)(hi:X.N[i]?=some x)(hx:Loc X.env.scope x)(r:RelV v u)
 (h:∀s',Inv X pins (σ.set i (some v)) H s'->(∃a,Heap.SameBut a s.heap s'.heap/\(a=X.env.locals\/X.env.cells.lookup x=some a))->Q () s') (hf:X.fn x=true\/X.env.scope.names.lookup x=some .local:=by first |exact .inl rfl |exact .inr rfl |assumption):wpAny M A (storeName X.env x u) Q E s:=by
 obtain⟨m,hn,hl⟩:=id I.loc;have hcls:(X.env.scope.kind == .class || (X.env.scope.kind == .module&&X.env.locals != X.env.globals))=false:=by rw[I.ok.kind];rfl
 have hiσ:i<σ.length:=by rw[I.len];exact(List.getElem?_eq_some_iff.mp hi).1
 have cne:=I.cne
 have tracked:∀{a:Addr} {h':Heap},(∃o,s.heap.get? a=some o/\H a=none)->Heap.SameBut a s.heap h'->HOk X.prog X.w H h':=λ{a h'} ha hs b ob e=>by
  obtain⟨_,_,hfree⟩:=ha;refine(I.hok b ob e).stay (λc w' hc q=>(hs.2 c ?_).trans q) (λ_ q=>q) λ_ _ q=>q
  rintro rfl;rcases hc with rfl |hc
  ·rw[hfree]at e;cases e
  ·rw[hfree]at hc;cases hc
 rcases hx with hk |hk
 ·refine wpAny_storeName_local hk hn (λh' hn' hs=>?_) hcls;obtain⟨oL,_,_,hoL,_⟩:=id hn;refine h _ ⟨I.ok,I.os,I.bare,⟨λb o e n hb hx=>?_,λb o e n hb hx=>?_,I.base.free,λb o e hx=>?_,I.base.tups,I.base.frzs,I.base.tbls⟩,⟨_,hn',λj y v' e1 e2 e3=>?_⟩,λy c e=>?_,I.free,I.freeC,λp hp=>?_,tracked ⟨oL,hoL,I.free⟩ hs,by simpa using I.len⟩ ⟨_,hs,.inl rfl⟩
  ·exact(hs.2 b (E3 (ET (Heap.lt_size e) I.ok.above))).trans (I.base.keep b o e n hb hx)
  ·obtain⟨sl,e1⟩:=I.base.slot b o e n hb hx;exact⟨sl,(hs.2 b (E3 (ET (Heap.lt_size e) I.ok.above))).trans e1⟩
  ·obtain⟨o',e1⟩:=I.base.there b o e hx;exact⟨o',(hs.2 b (E3 (ET (Heap.lt_size e) I.ok.above))).trans e1⟩
  ·by_cases hj:j=i
   ·subst hj;rw[hi]at e1;cases e1;rw[List.getElem?_set_self hiσ]at e2;cases e2;exact⟨u,r,.inl ⟨hk,by simp⟩⟩
   ·rw[List.getElem?_set_ne (Ne.symm hj)]at e2;obtain⟨u',r',q⟩:=hl j y v' e1 e2 e3;refine⟨u',r',?_⟩;rcases q with⟨k,e⟩ |⟨k,c,e,z⟩
    ·refine .inl ⟨k,?_⟩;have:y≠x:=λe=>hj (rO hN e1 (e ▸ hi))
     simp[this,e]
    ·exact .inr ⟨k,c,e,z.sameBut hs (cne y c e)⟩
  ·obtain⟨w',z⟩:=I.cell y c e;exact⟨w',z.sameBut hs (cne y c e)⟩
  ·obtain⟨e,n,ne,nf,d⟩:=I.pin p hp;exact⟨(hs.2 p.1 ne).trans e,n,ne,nf,d⟩
 ·have hfn:X.fn x=true:=by
   rcases hf with z |z
   ·exact z
   ·rw[z]at hk;cases hk
  obtain⟨c,hc⟩:=I.ok.has x (.inl hk);obtain⟨w',z⟩:=I.cell x c hc;refine wpAny_storeName_cell I.ok.kind hk hc z (λh' hc' hs=>?_);obtain⟨oc,hoc,hocd⟩:=id z;refine h { s with heap:=h' } ⟨I.ok,I.os,I.bare,⟨λb o e n hb hx=>?_,λb o e n hb hx=>?_,I.base.free,λb o e hx=>?_,I.base.tups,I.base.frzs,I.base.tbls⟩,⟨m,hn.sameBut hs (Ne.symm (cne x c hc)),λj y v' e1 e2 e3=>?_⟩,λy c' e=>?_,I.free,I.freeC,λp hp=>?_,tracked ⟨oc,hoc,I.freeC x c hc⟩ hs,by simpa using I.len⟩ ⟨c,hs,.inr hc⟩
  ·exact(hs.2 b (E3 (ET (Heap.lt_size e) (I.ok.cab x c hfn hc)))).trans (I.base.keep b o e n hb hx)
  ·obtain⟨sl,e1⟩:=I.base.slot b o e n hb hx;exact⟨sl,(hs.2 b (E3 (ET (Heap.lt_size e) (I.ok.cab x c hfn hc)))).trans e1⟩
  ·obtain⟨o',e1⟩:=I.base.there b o e hx;exact⟨o',(hs.2 b (E3 (ET (Heap.lt_size e) (I.ok.cab x c hfn hc)))).trans e1⟩
  ·by_cases hj:j=i
   ·subst hj;rw[hi]at e1;cases e1;rw[List.getElem?_set_self hiσ]at e2;cases e2;exact⟨u,r,.inr ⟨.inl hk,c,hc,hc'⟩⟩
   ·rw[List.getElem?_set_ne (Ne.symm hj)]at e2;obtain⟨u',r',q⟩:=hl j y v' e1 e2 e3;refine⟨u',r',?_⟩;rcases q with q |⟨k,c',e,z'⟩
    ·exact .inl q
    ·refine .inr ⟨k,c',e,z'.sameBut hs ?_⟩;rintro rfl;exact hj (rO hN e1 (I.ok.inj _ _ _ e hc ▸ hi))
  ·by_cases hcc:c'=c
   ·subst hcc;exact⟨_,hc'⟩
   ·obtain⟨w2,z2⟩:=I.cell y c' e;exact⟨w2,z2.sameBut hs hcc⟩
  ·obtain⟨e,n,ne,nf,d⟩:=I.pin p hp;refine⟨(hs.2 p.1 ?_).trans e,n,ne,nf,d⟩;intro q;rw[q,hoc]at e;have q':oc=p.2:=Option.some.inj e;exact d w' (by rw[<- q'];exact hocd)
theorem qQ{M:Model}{A:Around}{E:Value->Shared->Prop}{i:Nat}{x:Str}{v:V}{u:Value}{Q:Unit->Shared->Prop}(I:Inv X pins σ H s)(hN:X.N.Nodup)(hi:X.N[i]?=some x)(hx:Loc X.env.scope x)(r:RelV v u)
 (h:∀s',Inv X pins (σ.set i (some v)) H s'->Q () s') (hf:X.fn x=true\/X.env.scope.names.lookup x=some .local:=by first |exact .inl rfl |exact .inr rfl |assumption):wpAny M A (storeName X.env x u) Q E s :=
 vE I hN hi hx r (λs' I' _=>h s' I') hf
theorem Inv.call'{s':Shared}{ch:List Addr}(I:Inv X pins σ H s)(ho:s'.os=s.os)(u:Un (frs X.stack) ch H H' s.heap s'.heap)(hok:HOk X.prog X.w H' s'.heap)(hg:AllBare s'.gens)
 (hch:∀b∈ch,(b∈X.ex\/X.s₀.heap.objs.size<=b)/\b≠X.env.locals/\(∀x c,X.env.cells.lookup x=some c->c≠b)/\∀p∈X.pn++pins,p.1≠b):Inv X pins σ H' s':=by
 obtain⟨h',g',d',t',o'⟩:=s';have e:o'=s.os:=ho;subst e;exact I.call (g':=g') (t':=t') (d':=d') u hok hg hch
end
abbrev XK:=Value->Option Addr->Hp->Prop
abbrev St:=List (Option V)
abbrev VK:=V->Hp->Prop
abbrev TE:=St->Hp->VK->Prop
abbrev TT:=St->Hp->(Bool->Hp->Prop)->Prop
abbrev TA:=St->Hp->(List V->Hp->Prop)->Prop
structure Ends where
 nx:St->Hp->Prop
 rt:VK
 bk:St->Hp->Prop:=λ_ _=>False
 ct:St->Hp->Prop:=λ_ _=>False
abbrev TS:=Ends->St->Hp->Prop
def EP(X:Cx)(pins:List (Addr×Obj))(σ:St)(Q:VK)(u:Value)(s':Shared):Prop:=∃v H',Inv X pins σ H' s'/\RelV v u/\Q v H'
def TP(X:Cx)(pins:List (Addr×Obj))(σ:St)(Q:Bool->Hp->Prop)(b:Bool)(s':Shared):Prop:=∃H',Inv X pins σ H' s'/\Q b H'
def AP(X:Cx)(pins:List (Addr×Obj))(σ:St)(Q:List V->Hp->Prop)(us:List Value)(s':Shared):Prop:=∃vs H',Inv X pins σ H' s'/\Vals vs us/\Q vs H'
noncomputable def SP(X:Cx)(pins:List (Addr×Obj))(D:Ends)(f:Flow)(s':Shared):Prop :=
 match f with
 |.next=>∃σ' H',Inv X pins σ' H' s'/\D.nx σ' H'
 |.brk=>∃σ' H',Inv X pins σ' H' s'/\D.bk σ' H'
 |.cont=>∃σ' H',Inv X pins σ' H' s'/\D.ct σ' H'
 |.ret u=>∃v σ' H',Inv X pins σ' H' s'/\RelV v u/\D.rt v H'
noncomputable def PE(X:Cx)(e:Expr)(t:TE):Prop :=
 ∀(pins:List (Addr×Obj)) (s:Shared) (σ:St) (H:Hp) (Q:VK),Inv X pins σ H s->t σ H Q->wpAny (model X.prog X.w) X.A (eval e X.env) (EP X pins σ Q) X.xe s
noncomputable def PT(X:Cx)(e:Expr)(t:TT):Prop :=
 ∀(pins:List (Addr×Obj)) (s:Shared) (σ:St) (H:Hp) (Q:Bool->Hp->Prop),Inv X pins σ H s->t σ H Q->wpAny (model X.prog X.w) X.A (isTrue e X.env (eval e X.env)) (TP X pins σ Q) X.xe s
noncomputable def PW(X:Cx)(e:Expr)(t:TT):Prop :=
 ∀(whole:Sem Value) (pins:List (Addr×Obj)) (s:Shared) (σ:St) (H:Hp) (Q:Bool->Hp->Prop),Inv X pins σ H s->t σ H Q->wpAny (model X.prog X.w) X.A (isTrue e X.env whole) (TP X pins σ Q) X.xe s
theorem PW.pt{X:Cx}{e:Expr}{t:TT}(h:PW X e t):PT X e t:=h _
noncomputable def PA(X:Cx)(es:List Expr)(t:TA):Prop :=
 ∀(pos:Pos) (pins:List (Addr×Obj)) (s:Shared) (σ:St) (H:Hp) (Q:List V->Hp->Prop),Inv X pins σ H s->t σ H Q->wpAny (model X.prog X.w) X.A (spliced (backTo pos (starEach es X.env))) (AP X pins σ Q) X.xe s
noncomputable def PS(X:Cx)(st:Stmt)(t:TS):Prop :=
 ∀(pins:List (Addr×Obj)) (s:Shared) (σ:St) (H:Hp) (D:Ends),Inv X pins σ H s->t D σ H->wpAny (model X.prog X.w) X.A (exec st X.env) (SP X pins D) X.xe s
noncomputable def PSs(X:Cx)(st:List Stmt)(t:TS):Prop :=
 ∀(pins:List (Addr×Obj)) (s:Shared) (σ:St) (H:Hp) (D:Ends),Inv X pins σ H s->t D σ H->wpAny (model X.prog X.w) X.A (execs st X.env) (SP X pins D) X.xe s
theorem thn{α:Type}{t:Sem α}{Q Q':α->Shared->Prop}{M:Model}{A:Around}{E:Value->Shared->Prop}{s:Shared}(h:wpAny M A t Q E s)(hQ:∀a s,Q a s->Q' a s):wpAny M A t Q' E s:=wpAny_mono h hQ λ_ _ x=>x
section
variable {X:Cx}
def kT(i:Nat):TE:=λσ H Q=>∃v,σ[i]?=some (some v)/\Q v H
def tC(v:V):TE:=λ_ H Q=>Q v H
theorem xg{i:Nat}{x:Str}{pos:Pos}(hN:X.N[i]?=some x)(hv:Vis X.env.scope x)(hd:(x == ("__debug__":Str))=false:=by decide)(hcd:(x == ("__classdict__":Str))=false:=by decide):PE X (.Name x pos) (kT i):=by
 intro pins s σ H Q I h;obtain⟨v,e,h⟩:=h;obtain⟨m,hn,hl⟩:=I.loc;obtain⟨u,r,l⟩:=hl i x v hN e hv;have fin:EP X pins σ Q u s:=⟨v,H,I,r,h⟩;rcases l with⟨hk,hm⟩ |⟨hk,c,hc,hcell⟩
 ·exact wpAny_Name (wpAny_loadName_local I.ok.kind hk hn hm fin) hd
 ·rcases hk with hk |hk
  ·exact wpAny_Name (wpAny_loadName_cell I.ok.kind hk hc hcell fin) hd
  ·exact wpAny_Name (wpAny_loadName_free I.ok.kind hk hc hcell fin hcd) hd
theorem ac{i j pos}:PE X (.Constant (.int i) j pos) (tC (.int i)):=λ_ _ _ H _ I h=>wpAny_Constant_int ⟨.int i,H,I.tok _,⟨_,rfl⟩,h⟩
theorem jf{b j pos}:PE X (.Constant (.bool b) j pos) (tC (.bl b)):=λ_ _ _ H _ I h=>Constant_bool ⟨.bl b,H,I,rfl,h⟩
theorem xi{j pos}:PE X (.Constant .none j pos) (tC .non):=λ_ _ _ H _ I h=>Constant_none ⟨.non,H,I,rfl,h⟩
theorem al{x j pos}:PE X (.Constant (.str x) j pos) (tC (.str x)):=λ_ _ _ H _ I h=>Calls.Constant_str ⟨.str x,H,I.tok _,⟨_,rfl⟩,h⟩
def Gl(X:Cx)(x:Str):Prop:=X.env.kindOf x=some .globalImplicit
theorem lO{E:Value->Shared->Prop}{pins:List (Addr×Obj)}{s:Shared}{σ:St}{H:Hp}{x:Str}{u:Value}{pos:Pos}{Q:Value->Shared->Prop}(I:Inv X pins σ H s)(hg:Gl X x)(hm:X.mg x=some u)(h:Q u s)
 (hd:(x == ("__debug__":Str))=false:=by decide):wpAny (model X.prog X.w) X.A (eval (.Name x pos) X.env) Q E s :=
 Calls.Name_function_global I.ok.kind hg (Calls.loadGlobal_global (by rw[I.ok.glob];exact I.mod.glob.keeps I.bk) hm h) hd
theorem ju{E:Value->Shared->Prop}{pins:List (Addr×Obj)}{s:Shared}{σ:St}{H:Hp}{x:Str}{u:Value}{pos:Pos}{Q:Value->Shared->Prop}(I:Inv X pins σ H s)(hg:Gl X x)(hm:X.mg x=none)(hv:bootBuiltins x=some u)(h:Q u s)
 (hn:x≠"__name__":=by decide) (hd:(x == ("__debug__":Str))=false:=by decide):wpAny (model X.prog X.w) X.A (eval (.Name x pos) X.env) Q E s:=by
 obtain⟨mb,h1,h2⟩:=I.mod.blt;exact Calls.Name_function_global I.ok.kind hg (Calls.loadGlobal_builtin (by rw[I.ok.glob];exact I.mod.glob.keeps I.bk) hm (by rw[I.ok.blt];exact h1.keeps I.bk) ((h2 x hn).trans hv) h) hd
theorem bR{x:Str}{v:V}{u:Value}{pos:Pos}(hg:Gl X x)(hm:X.mg x=some u)(r:RelV v u)(hd:(x == ("__debug__":Str))=false:=by decide):PE X (.Name x pos) (tC v) :=
 λ_ _ _ H _ I h=>lO I hg hm ⟨v,H,I,r,h⟩ hd
theorem lr{x:Str}{v:V}{u:Value}{pos:Pos}(hg:Gl X x)(hm:X.mg x=none)(hv:bootBuiltins x=some u)(r:RelV v u)(hn:x≠"__name__":=by decide)(hd:(x == ("__debug__":Str))=false:=by decide):PE X (.Name x pos) (tC v) :=
 λ_ _ _ H _ I h=>ju I hg hm hv ⟨v,H,I,r,h⟩ hn hd
variable {a b:Expr}{ta tb:TE}{pos:Pos}
def tB(t:TE):TT:=λσ H Q=>t σ H λx H1=>∃c,x=.bl c/\Q c H1
theorem bu{e:Expr}{t:TE}(h:PE X e t)(he:∀whole,isTrue e X.env whole=(do let v <- whole;standAt e.pos;holding [v] (truthy v)):=by intro _;rfl):PT X e (tB t):=by intro pins s σ H Q I hw;refine isTrue_plain (thn (h pins s σ H _ I hw) λv s1 ⟨x,H1,I1,r1,q1⟩=>?_) (he _);obtain⟨d,rfl,q⟩:=q1;cases r1;exact wpAny_truthy_bool ⟨H1,I1,q⟩
variable {tA tB':TT}{rest:List Expr}
def qK(t u:TT):TT:=λσ H Q=>t σ H λc H1=>if c=true then u σ H1 Q else Q false H1
def tOr(t u:TT):TT:=λσ H Q=>t σ H λc H1=>if c=true then Q true H1 else u σ H1 Q
def qG(t:TT):TT:=λσ H Q=>t σ H λc H1=>Q (!c) H1
theorem i0(ha:PT X a tA):PW X (.BoolOp .And [a] pos) tA:=by
 intro wh pins s σ H Q I h;refine isTrue_and (thn (ha pins s σ H Q I h) λc s1 e=>?_);cases c with
 |true=>exact isTrue_and_nil e
 |false=>exact e
theorem nz(ha:PT X a tA):PW X (.BoolOp .Or [a] pos) tA:=by
 intro wh pins s σ H Q I h;refine isTrue_or (thn (ha pins s σ H Q I h) λc s1 e=>?_);cases c with
 |false=>exact isTrue_or_nil e
 |true=>exact e
theorem ja(ha:PT X a tA)(hb:PW X (.BoolOp .And (b::rest) pos) tB'):PW X (.BoolOp .And (a::b::rest) pos) (qK tA tB'):=by
 intro wh pins s σ H Q I h;refine isTrue_and (thn (ha pins s σ H _ I h) λc s1 ⟨H1,I1,q1⟩=>?_);cases c with
 |true=>exact hb wh pins s1 σ H1 Q I1 q1
 |false=>exact⟨H1,I1,q1⟩
theorem iZ(ha:PT X a tA)(hb:PW X (.BoolOp .Or (b::rest) pos) tB'):PW X (.BoolOp .Or (a::b::rest) pos) (tOr tA tB'):=by
 intro wh pins s σ H Q I h;refine isTrue_or (thn (ha pins s σ H _ I h) λc s1 ⟨H1,I1,q1⟩=>?_);cases c with
 |true=>exact⟨H1,I1,q1⟩
 |false=>exact hb wh pins s1 σ H1 Q I1 q1
theorem dy(ha:PT X a tA):PT X (.UnaryOp .Not a pos) (qG tA):=by intro pins s σ H Q I h;exact isTrue_not (ha pins s σ H (λc H1=>Q (!c) H1) I h)
def qJ(ta tb:TE):TE:=λσ H Q=>ta σ H λx H1=>∃c,x=.bl c/\if c=true then tb σ H1 Q else Q (.bl false) H1
def qE(ta tb:TE):TE:=λσ H Q=>ta σ H λx H1=>∃c,x=.bl c/\if c=true then Q (.bl true) H1 else tb σ H1 Q
def qF(ta:TE):TE:=λσ H Q=>ta σ H λx H1=>∃c,x=.bl c/\Q (.bl (!c)) H1
theorem bB{op}{t:TE}(h:PE X a t):PE X (.BoolOp op [a] pos) t:=λpins s σ H Q I hw=>BoolOp_one (h pins s σ H Q I hw)
theorem bp(ha:PE X a ta)(hb:PE X (.BoolOp .And (b::rest) pos) tb):PE X (.BoolOp .And (a::b::rest) pos) (qJ ta tb):=by
 intro pins s σ H Q I h;refine BoolOp_and (thn (ha pins s σ H _ I h) λv s1 ⟨x,H1,I1,r1,q1⟩=>?_);obtain⟨c,rfl,q1⟩:=q1;cases r1;refine wpAny_truthy_bool ?_;cases c with
 |true=>exact hb pins s1 σ H1 Q I1 q1
 |false=>exact⟨.bl false,H1,I1,rfl,q1⟩
theorem lq(ha:PE X a ta)(hb:PE X (.BoolOp .Or (b::rest) pos) tb):PE X (.BoolOp .Or (a::b::rest) pos) (qE ta tb):=by
 intro pins s σ H Q I h;refine BoolOp_or (thn (ha pins s σ H _ I h) λv s1 ⟨x,H1,I1,r1,q1⟩=>?_);obtain⟨c,rfl,q1⟩:=q1;cases r1;refine wpAny_truthy_bool ?_;cases c with
 |false=>exact hb pins s1 σ H1 Q I1 q1
 |true=>exact⟨.bl true,H1,I1,rfl,q1⟩
theorem xh(ha:PE X a ta):PE X (.UnaryOp .Not a pos) (qF ta):=by intro pins s σ H Q I h;refine UnaryOp_ (thn (ha pins s σ H _ I h) λv s1 ⟨x,H1,I1,r1,q1⟩=>?_);obtain⟨c,rfl,q1⟩:=q1;cases r1;exact not_of (wpAny_truthy_bool ⟨.bl (!c),H1,I1,rfl,q1⟩)
def tIf(t:TT)(ta tb:TE):TE:=λσ H Q=>t σ H λc H1=>if c=true then ta σ H1 Q else tb σ H1 Q
theorem nD{c:Expr}(hc:PT X c tA)(ha:PE X a ta)(hb:PE X b tb):PE X (.IfExp c a b pos) (tIf tA ta tb):=by
 intro pins s σ H Q I h;refine wpAny_IfExp (thn (hc pins s σ H _ I h) λd s1 ⟨H1,I1,q1⟩=>?_);cases d with
 |true=>exact ha pins s1 σ H1 Q I1 q1
 |false=>exact hb pins s1 σ H1 Q I1 q1
end
noncomputable def SqL(K:PySem.W.Frag)(H:Hp)(a:Addr)(xs:List V):Prop :=
 Rd H a (.lst xs) \/
  ∃(o:Obj) (its:Array Value) (n:Nat),K.lookup a=some o/\o.cls=.type "list"/\o.dict=none/\o.data=.seq its n/\its.size<=sizeLine/\Vals xs its.toList
noncomputable def SqT(K:PySem.W.Frag)(H:Hp)(a:Addr)(xs:List V):Prop :=
 Rd H a (.tup xs) \/
  ∃(o:Obj) (its:Array Value) (n:Nat),K.lookup a=some o/\o.cls=.type "tuple"/\o.data=.seq its n/\its.size<=sizeLine/\Vals xs its.toList
noncomputable def Dh:Value->Option V
 |.none=>some .non
 |.bool b=>some (.bl b)
 |.int i _=>some (.int i)
 |.str x _=>some (.str x)
 |.bytes b _=>some (.byt b)
 |.float b _=>some (.flt b)
 |.ref a=>some (.ref a)
 |.type n=>some (.ty n)
 |_=>none
theorem RelV.abs{x:V}{u:Value}(r:RelV x u):Dh u=some x:=by
 cases x with
 |non=>cases r;rfl
 |bl _=>cases r;rfl
 |int _=>obtain⟨t,rfl⟩:=r;rfl
 |str _=>obtain⟨t,rfl⟩:=r;rfl
 |byt _=>obtain⟨t,rfl⟩:=r;rfl
 |flt _=>obtain⟨t,rfl⟩:=r;rfl
 |ref _=>cases r;rfl
 |ty _=>cases r;rfl
theorem RelV.inj{x y:V}{u:Value}(r:RelV x u)(q:RelV y u):x=y:=Option.some.inj (r.abs.symm.trans q.abs)
theorem Vals.inj:∀{xs ys:List V} {us:List Value},Vals xs us->Vals ys us->xs=ys
 |_,_,_,.nil,.nil=>rfl
 |_,_,_,.cons r t,.cons r' t'=>by rw[r.inj r',Vals.inj t t']
section
variable {X:Cx}{pins:List (Addr×Obj)}{σ:St}{H:Hp}{s:Shared}{a:Addr}{xs ys:List V}
theorem SqL.of{K:PySem.W.Frag}(h:H a=some (.lst xs)):SqL K H a xs:=.inl (.inl h)
theorem SqT.of{K:PySem.W.Frag}(h:H a=some (.tup xs)):SqT K H a xs:=.inl (.inl h)
theorem Inv.list(I:Inv X pins σ H s)(h:SqL X.K H a xs):∃its:List Value,Vals xs its/\PlainL s.heap a its.toArray/\xs.length<=sizeLine:=by
 rcases h with h |⟨o,its,n,hk,hc,hd,hs,hz,r⟩
 ·obtain⟨z,its,n,r,e⟩:=h.ok I.hok;exact⟨its,r,⟨_,n,e,rfl,rfl,rfl⟩,z⟩
 ·refine⟨its.toList,r,⟨o,n,I.kIn a o hk,hc,hd,by simpa using hs⟩,?_⟩;have e:=r.length;simp only[Array.length_toList]at e;omega
theorem Inv.tuple(I:Inv X pins σ H s)(h:SqT X.K H a xs):∃its:List Value,Vals xs its/\IsTup s.heap a its.toArray/\xs.length<=sizeLine:=by
 rcases h with h |⟨o,its,n,hk,hc,hs,hz,r⟩
 ·obtain⟨z,its,r,p⟩:=h.ok I.hok;exact⟨its,r,p,z⟩
 ·refine⟨its.toList,r,⟨o,I.kIn a o hk,hc,n,by simpa using hs⟩,?_⟩;have e:=r.length;simp only[Array.length_toList]at e;omega
theorem Inv.list_inj(I:Inv X pins σ H s)(h:SqL X.K H a xs)(h':SqL X.K H a ys):xs=ys:=by
 obtain⟨its,r,⟨o,n,e,_,_,d⟩,_⟩:=I.list h;obtain⟨its',r',⟨o',n',e',_,_,d'⟩,_⟩:=I.list h';rw[e]at e';cases e';rw[d]at d'
 injection d' with d1 _
 have:its=its':=by simpa using congrArg Array.toList d1
 subst this;exact r.inj r'
theorem Inv.tuple_inj(I:Inv X pins σ H s)(h:SqT X.K H a xs)(h':SqT X.K H a ys):xs=ys:=by
 obtain⟨its,r,⟨o,e,_,n,d⟩,_⟩:=I.tuple h;obtain⟨its',r',⟨o',e',_,n',d'⟩,_⟩:=I.tuple h';rw[e]at e';cases e';rw[d]at d'
 injection d' with d1 _
 have:its=its':=by simpa using congrArg Array.toList d1
 subst this;exact r.inj r'
end
abbrev Cx.wish(X:Cx)(E:Value->Shared->Prop):Cx:={ X with xe:=E }
abbrev Cx.nox(X:Cx):Cx:=X.wish λ_ _=>False
theorem Cx.Ok.wish{X:Cx}(ok:X.Ok)(E:Value->Shared->Prop):(X.wish E).Ok :=
 ⟨ok.mod,ok.kind,ok.glob,ok.blt,ok.above,ok.inj,ok.has,ok.cab,ok.hd,ok.frames,ok.stk,ok.exf,ok.bs,ok.bsz,ok.noex,ok.exfs,ok.funs,ok.frf⟩
theorem Cx.Ok.unwish{X:Cx}{E:Value->Shared->Prop}(ok:(X.wish E).Ok):X.Ok :=
 ⟨ok.mod,ok.kind,ok.glob,ok.blt,ok.above,ok.inj,ok.has,ok.cab,ok.hd,ok.frames,ok.stk,ok.exf,ok.bs,ok.bsz,ok.noex,ok.exfs,ok.funs,ok.frf⟩
section
variable {X:Cx}{pins:List (Addr×Obj)}{σ:St}{H:Hp}{s:Shared}{E:Value->Shared->Prop}
theorem Inv.wish(I:Inv X pins σ H s)(E:Value->Shared->Prop):Inv (X.wish E) pins σ H s:=⟨I.ok.wish E,I.os,I.bare,I.base,I.loc,I.cell,I.free,I.freeC,I.pin,I.hok,I.len⟩
theorem Inv.unwish(I:Inv (X.wish E) pins σ H s):Inv X pins σ H s:=⟨I.ok.unwish,I.os,I.bare,I.base,I.loc,I.cell,I.free,I.freeC,I.pin,I.hok,I.len⟩
theorem SP.unwish{D:Ends}{f:Flow}{s':Shared}(h:SP (X.wish E) pins D f s'):SP X pins D f s':=by
 cases f with
 |next=>obtain⟨σ',H',I,q⟩:=h;exact⟨σ',H',I.unwish,q⟩
 |brk=>obtain⟨σ',H',I,q⟩:=h;exact⟨σ',H',I.unwish,q⟩
 |cont=>obtain⟨σ',H',I,q⟩:=h;exact⟨σ',H',I.unwish,q⟩
 |ret u=>obtain⟨v,σ',H',I,r,q⟩:=h;exact⟨v,σ',H',I.unwish,r,q⟩
theorem PE.nox{e:Expr}{t:TE}(h:PE X.nox e t):PE X e t:=λpins s σ H Q I hw =>wpAny_mono (h pins s σ H Q (I.wish _) hw) (λ_ _ ⟨v,H',I',r,q⟩=>⟨v,H',I'.unwish,r,q⟩) λ_ _ z=>False.elim z
theorem PT.nox{e:Expr}{t:TT}(h:PT X.nox e t):PT X e t:=λpins s σ H Q I hw =>wpAny_mono (h pins s σ H Q (I.wish _) hw) (λ_ _ ⟨H',I',q⟩=>⟨H',I'.unwish,q⟩) λ_ _ z=>False.elim z
theorem PSs.nox{st:List Stmt}{t:TS}(h:PSs X.nox st t):PSs X st t:=λpins s σ H D I hw =>wpAny_mono (h pins s σ H D (I.wish _) hw) (λ_ _ q=>q.unwish) λ_ _ z=>False.elim z
end
section
variable {X:Cx}{st:Stmt}{rest:List Stmt}{t u:TS}{e:Expr}{te:TE}{pos:Pos}
def mz:TS:=λD σ H=>D.nx σ H
def cr(t u:TS):TS:=λD σ H=>t { D with nx:=u D } σ H
theorem aJ:PSs X [] mz:=λ_ _ σ H _ I h=>wpAny_execs_nil ⟨σ,H,I,h⟩
theorem ae(h1:PS X st t)(h2:PSs X rest u):PSs X (st::rest) (cr t u):=by
 intro pins s σ H D I h;refine wpAny_execs_cons (thn (h1 pins s σ H { D with nx:=u D } I h) λf s1 q=>?_);cases f with
 |next =>obtain⟨σ',H',I',q⟩:=q;exact h2 pins s1 σ' H' D I' q
 |ret v=>exact q
 |brk=>exact q
 |cont=>exact q
theorem ai(h1:PS X st t):PSs X [st] t:=by
 intro pins s σ H D I h;refine wpAny_execs_cons (thn (h1 pins s σ H D I h) λf s1 q=>?_);cases f with
 |next=>exact wpAny_execs_nil q
 |ret v=>exact q
 |brk=>exact q
 |cont=>exact q
theorem Inv.quiet{pins:List (Addr×Obj)}{σ:St}{H:Hp}{s:Shared}(I:Inv X pins σ H s):interactive X.env=false:=by simp[interactive,I.ok.kind]
def mE(te:TE):TS:=λD σ H=>te σ H λ_ H1=>D.nx σ H1
theorem cR(he:PE X e te)(hs:swapsWith e none pos.line X.env=pure false:=by rfl):PS X (.Expr e pos) (mE te):=by intro pins s σ H D I h;exact wpAny_Expr_any (thn (he pins s σ H _ I h) λv s1 ⟨x,H1,I1,r1,q1⟩=>⟨σ,H1,I1,q1⟩) I.quiet hs
def qD(te:TE):TS:=λD σ H=>te σ H D.rt
theorem ar(he:PE X e te):PS X (.Return (some e) pos) (qD te):=by intro pins s σ H D I h;exact wpAny_Return_some (thn (he pins s σ H _ I h) λv s1 ⟨x,H1,I1,r1,q1⟩=>⟨x,σ,H1,I1,r1,q1⟩)
def du(c:TT)(t u:TS):TS:=λD σ H=>c σ H λb H1=>if b=true then t D σ H1 else u D σ H1
theorem aF{c:Expr}{a b:List Stmt}{tc:TT}(hc:PT X c tc)(ha:PSs X a t)(hb:PSs X b u):PS X (.If c a b pos) (du tc t u):=by
 intro pins s σ H D I h;refine wpAny_If (thn (hc pins s σ H _ I h) λd s1 ⟨H1,I1,q1⟩=>?_);cases d with
 |true=>exact ha pins s1 σ H1 D I1 q1
 |false=>exact hb pins s1 σ H1 D I1 q1
def vx:TS:=λ_ _ _=>False
theorem wT:PS X st vx:=λ_ _ _ _ _ _ h=>h.elim
end
abbrev TG:=V->St->Hp->(St->Hp->Prop)->Prop
noncomputable def PG(X:Cx)(target:Expr)(t:TG):Prop :=
 ∀(pins:List (Addr×Obj)) (s:Shared) (σ:St) (H:Hp) (v:V) (u:Value) (Q:St->Hp->Prop),Inv X pins σ H s->RelV v u->t v σ H Q ->
  wpAny (model X.prog X.w) X.A (assign target X.env u) (λ_ s'=>∃σ' H',Inv X pins σ' H' s'/\Q σ' H') X.xe s
abbrev pP:=V->V->V->Hp->(Hp->Prop)->Prop
noncomputable def uH(X:Cx)(t:pP):Prop :=
 ∀(pins:List (Addr×Obj)) (s:Shared) (σ:St) (H:Hp) (o i v:V) (ov iv u:Value) (Q:Hp->Prop),Inv X pins σ H s->RelV o ov->RelV i iv->RelV v u->t o i v H Q ->
  wpAny (model X.prog X.w) X.A (setItem ov iv u) (λ_ s'=>∃H',Inv X pins σ H' s'/\Q H') X.xe s
section
variable {X:Cx}{pos:Pos}
def lY(i:Nat):TG:=λv σ H Q=>Q (σ.set i (some v)) H
theorem dS{i:Nat}{x:Str}(hN:X.N.Nodup)(hi:X.N[i]?=some x)(hx:Loc X.env.scope x)(hf:X.fn x=true\/X.env.scope.names.lookup x=some .local:=by first |exact .inl rfl |exact .inr rfl |assumption):PG X (.Name x pos) (lY i):=by intro pins s σ H v u Q I r h;exact wpAny_assign_Name (qQ I hN hi hx r (λs' I'=>⟨_,H,I',h⟩) hf)
def AZ(to ti:TE)(t:pP):TG:=λv σ H Q=>to σ H λo H1=>ti σ H1 λi H2=>t o i v H2 λH3=>Q σ H3
theorem jd{o i:Expr}{to ti:TE}{t:pP}(ho:PE X o to)(hi:PE X i ti)(hs:uH X t)
 (ha:∀v,assign (.Subscript o i pos) X.env v=(do
   let ov <- holding [v] (eval o X.env)
   let iv <- holding [v,ov] (eval i X.env)
   standAt pos
   holding [v,ov,iv] (setItem ov iv v)
   release [v,ov,iv] []):=by intro _;rfl):PG X (.Subscript o i pos) (AZ to ti t):=by
 intro pins s σ H v u Q I r h;rw[ha];refine wpAny_bind (wpAny_holding (thn (ho pins s σ H _ I h) λov s1 ⟨x,H1,I1,r1,q1⟩=>?_));refine wpAny_bind (wpAny_holding (thn (hi pins s1 σ H1 _ I1 q1) λiv s2 ⟨y,H2,I2,r2,q2⟩=>?_));refine wpAny_bind (wpAny_standAt (wpAny_bind (wpAny_holding (thn (hs pins s2 σ H2 x y v ov iv u _ I2 r1 r2 r q2) λ_ s3 ⟨H3,I3,q3⟩=>?_))));exact wpAny_release ⟨σ,H3,I3,q3⟩
def iP(te:TE)(g:TG):TS:=λD σ H=>te σ H λx H1=>g x σ H1 D.nx
theorem jc{tg e:Expr}{te:TE}{g:TG}(he:PE X e te)(hg:PG X tg g)(hs:swapsWithSole [tg] e pos.line X.env=pure false:=by rfl)(hw:swappedStores [tg] e X.env=pure none:=by rfl)
 (h1:(assignEach [tg] X.env).map (·.2)=[assign tg X.env]:=by rfl):PS X (.Assign [tg] e pos) (iP te g):=by
 intro pins s σ H D I h;refine wpAny_Assign_stores (thn (he pins s σ H _ I h) λv s1 ⟨x,H1,I1,r1,q1⟩=>?_) hs hw;rw[h1];exact thn (hg pins s1 σ H1 x v _ I1 r1 q1) λ_ s2 q=>q
theorem am{i:Nat}{x:Str}{e:Expr}{te:TE}{pos':Pos}(hN:X.N.Nodup)(hi:X.N[i]?=some x)(hx:Loc X.env.scope x)(he:PE X e te)(hs:swapsWith e (some (.Name x pos')) pos.line X.env=pure false:=by rfl)(hf:X.fn x=true\/X.env.scope.names.lookup x=some .local:=by first |exact .inl rfl |exact .inr rfl |assumption) :
 PS X (.Assign [.Name x pos'] e pos) (iP te (lY i)):=by
 intro pins s σ H D I h;refine wpAny_Assign_Name (thn (he pins s σ H _ I h) λv s1 ⟨y,H1,I1,r1,q1⟩=>?_) hs;exact qQ I1 hN hi hx r1 (λs2 I2=>⟨_,H1,I2,q1⟩) hf
end
section
variable {X:Cx}{pos:Pos}
def vq(c:TT)(tb:TS):TS:=λD σ H=>∃W:Nat->St->Hp->Prop,(∃m,W m σ H)/\∀m σ H,W m σ H ->
 c σ H λb H1=>if b=true then ∃N:St->Hp->Prop,(∀σ' H',N σ' H'->∃m',m'<m/\W m' σ' H')/\tb { D with nx:=N,ct:=N,bk:=D.nx } σ H1 else D.nx σ H1
theorem eO{c:Expr}{body:List Stmt}{tc:TT}{tb:TS}(hp:PassesOwn (model X.prog X.w) X.A X.env X.xe)(hc:PT X c tc)(hb:PSs X body tb):PS X (.While c body [] pos) (vq tc tb):=by
 intro pins s σ H D I h;obtain⟨W,⟨m0,w0⟩,turn⟩:=h;refine wpAny_While (codeAny_whileLoop (λn s'=>∃σ' H',Inv X pins σ' H' s'/\W n σ' H') ?_ m0 ⟨σ,H,I,w0⟩);rintro n s1 ⟨σ1,H1,I1,w1⟩;refine wpAny_passesOwn hp (thn (hc pins s1 σ1 H1 _ I1 (turn n σ1 H1 w1)) λb s2 ⟨H2,I2,q2⟩=>?_);cases b with
 |true =>
  obtain⟨N,hN,q2⟩:=q2;rw[if_pos rfl];refine wpAny_passesOwn hp (thn (hb pins s2 σ1 H2 _ I2 q2) λf s3 q3=>?_);cases f with
  |next =>obtain⟨σ3,H3,I3,n3⟩:=q3;obtain⟨m',hm,w3⟩:=hN σ3 H3 n3;exact⟨m',hm,σ3,H3,I3,w3⟩
  |cont =>obtain⟨σ3,H3,I3,n3⟩:=q3;obtain⟨m',hm,w3⟩:=hN σ3 H3 n3;exact⟨m',hm,σ3,H3,I3,w3⟩
  |brk=>exact q3
  |ret v=>exact q3
 |false =>rw[if_neg EU];exact wpAny_execs_nil ⟨σ1,H2,I2,q2⟩
end
structure It where
 go:Nat->Hp->Prop
 yld:Nat->Hp->V->Hp->Prop
 stop:Nat->Hp->Prop
noncomputable def dH(X:Cx)(pins:List (Addr×Obj))(H:Hp)(b:Addr):Prop :=
 H b=none/\b≠X.env.locals/\b∉X.fs/\(b∈X.ex\/X.s₀.heap.objs.size<=b)/\(∀x c,X.env.cells.lookup x=some c->c≠b)/\∀p∈X.pn++pins,p.1≠b
theorem Inv.fpOk{X:Cx}{pins:List (Addr×Obj)}{σ:St}{H H':Hp}{s:Shared}{b:Addr}(I:Inv X pins σ H s)(hb:s.heap.objs.size<=b)(hn:H' b=none):dH X pins H' b:=by
 refine⟨hn,Nat.ne_of_gt (ET I.lt hb),I.nofs hb,.inr (ES I.sz hb),λx c e z=>?_,λp hp z=>?_⟩
 ·obtain⟨v,q⟩:=I.cell x c e;exact absurd (ET q.lt (by rw[z];exact hb)) (E9 _)
 ·exact absurd (ET (Heap.lt_size (I.pin p hp).1) (by rw[z];exact hb)) (E9 _)
structure Turn(P:Program)(w:World)(K:PySem.W.Frag)(tg:Expr)(J:It)(fp:List Addr)(it:Addr)(tn:Nat->Heap->Prop):Prop where
 mem:it∈fp
 obj:∀i h,tn i h->∀b∈fp,∃o,h.get? b=some o/\∀v,o.data≠.cell v
 keep:∀i h h',tn i h->(∀b∈fp,∀o,h.get? b=some o->h'.get? b=some o)->tn i h'
 item:∀(X:Cx),X.prog=P->X.w=w->X.K=K->X.calm=true->∀(i:Nat) (pins:List (Addr×Obj)) (s:Shared) (σ:St) (H:Hp) (E:Value->Shared->Prop),Inv X pins σ H s->(∀b∈fp,dH X pins H b)->tn i s.heap->J.go i H ->
  wpAny (model P w) X.A (pyNext (.ref it)) (λr s1=>∃u,r=some u /\
   wpAny (model P w) X.A (letOwnedTupleGo tg (.ref it) u) (λ_ s2=>∃x H',Inv X pins σ H' s2/\RelV x u/\J.yld i H x H'/\tn (i+1) s2.heap/\∀b∈fp,H' b=none) E s1) E s
 done:∀(X:Cx),X.prog=P->X.w=w->X.K=K->X.calm=true->∀(i:Nat) (pins:List (Addr×Obj)) (s:Shared) (σ:St) (H:Hp) (E:Value->Shared->Prop),Inv X pins σ H s->(∀b∈fp,dH X pins H b)->tn i s.heap->J.stop i H ->
  wpAny (model P w) X.A (pyNext (.ref it)) (λr s1=>r=none/\Inv X pins σ H s1) E s
 self:∀(A:Around) (i:Nat) (s:Shared) (Q:Value->Shared->Prop) (E:Value->Shared->Prop),tn i s.heap->Q (.ref it) s->wpAny (model P w) A (pyIter (.ref it)) Q E s
abbrev TI:=St->Hp->(It->Hp->Prop)->Prop
noncomputable def PIE(X:Cx)(pins:List (Addr×Obj))(σ:St)(tg:Expr)(R:It->Hp->Prop)(itv:Value)(s2:Shared):Prop :=
 ∃(it:Addr) (fp:List Addr) (tn:Nat->Heap->Prop) (J:It) (H':Hp),itv=.ref it/\Inv X pins σ H' s2/\Turn X.prog X.w X.K tg J fp it tn/\tn 0 s2.heap/\(∀b∈fp,dH X pins H' b)/\R J H'
noncomputable def PI(X:Cx)(tg iter:Expr)(wi:TI):Prop :=
 ∀(pins:List (Addr×Obj)) (s:Shared) (σ:St) (H:Hp) (R:It->Hp->Prop),Inv X pins σ H s->wi σ H R ->
  wpAny (model X.prog X.w) X.A (eval iter X.env) (λv s1=>wpAny (model X.prog X.w) X.A (pyIter v) (PIE X pins σ tg R) X.xe s1) X.xe s
theorem lV{M:Model}{A:Around}{E:Value->Shared->Prop}{s:Shared}{tg:Expr}{it:Addr}{u:Value}{o:Obj}{n:String}{vs:Array Value}{Q:Unit->Shared->Prop}(ho:s.heap.get? it=some o)(hc:o.cls=.type n)(hd:o.data=.fields vs)
 (hn:["enumerate","zip","dict_itemiterator","dict_reverseitemiterator","odict_iterator","itertools.zip_longest","itertools.pairwise"].contains n=false) (hQ:Q () s):wpAny M A (letOwnedTupleGo tg (.ref it) u) Q E s:=by
 unfold letOwnedTupleGo
 cases tg<;>first
  |exact wpAny_pure hQ
  | (cases u<;>first
      |exact wpAny_pure hQ
      | (refine wpAny_bind (wpAny_load ho ?_)
         rw[hc,hd];show wpAny M A (if(["enumerate","zip","dict_itemiterator","dict_reverseitemiterator","odict_iterator","itertools.zip_longest","itertools.pairwise"].contains n&&vs[0]? == some (rawInt _))=true then _ else _) Q E s;rw[if_neg (by intro h;rw[hn,Bool.false_and]at h;cases h)]
         exact wpAny_pure hQ))
noncomputable def Itl(K:PySem.W.Frag)(a:Addr):It :=
 ⟨λi H=>∃xs x,SqL K H a xs/\xs[i]?=some x,λi H x H'=>H'=H/\∀xs,SqL K H a xs->xs[i]?=some x,λi H=>∃xs,SqL K H a xs/\xs.length<=i⟩
noncomputable def Itt(K:PySem.W.Frag)(a:Addr):It :=
 ⟨λi H=>∃xs x,SqT K H a xs/\xs[i]?=some x,λi H x H'=>H'=H/\∀xs,SqT K H a xs->xs[i]?=some x,λi H=>∃xs,SqT K H a xs/\xs.length<=i⟩
noncomputable def Itr(lo:Int)(n:Nat):It:=⟨λi _=>i<n,λi H x H'=>H'=H/\x=.int (lo+i),λi _=>n<=i⟩
theorem vi{P:Program}{w:World}{K:PySem.W.Frag}{tg:Expr}(a it:Addr):Turn P w K tg (Itl K a) [it] it (λi h=>h.IsListIter it a i) where
 mem:=by simp
 obj:=λi h st b hb=>by
  have e:b=it:=by simpa using hb
  subst e;obtain⟨o,e,c,d⟩:=st;exact⟨o,e,λv z=>by rw[d]at z;cases z⟩
 keep:=λi h h' st k=>st.at λo e=>k it (by simp) o e
 item:=by
  intro X hP hw hK hc i pins s σ H E I hf st hg;subst hP hw hK;obtain⟨xs,x,hq,hx⟩:=hg;obtain⟨its,rv,p,hz⟩:=I.list hq;obtain⟨u,hu,ru⟩:=rv.get hx;obtain⟨f0,f1,f2,f3,f4,f5⟩:=hf it (by simp);refine wpAny_pyNext_list_item st p.isList (x:=u) (by simpa using hu) λh' st' sb=>?_
  have I1:Inv X pins σ H { s with heap:=h' }:=I.turned (t':=s.toks) (λb o hb e=>(sb.2 b hb).trans e) f0 f1 f3 f4 f5;obtain⟨o,e,c,d⟩:=id st';exact⟨u,rfl,lV (s:={ s with heap:=h' }) e c d (by decide) ⟨x,H,I1,ru,⟨rfl,λys hy=>by rw[I.list_inj hy hq];exact hx⟩,st',λb hb=>(hf b hb).1⟩⟩
 done:=by intro X hP hw hK hc i pins s σ H E I hf st hg;subst hP hw hK;obtain⟨xs,hq,hx⟩:=hg;obtain⟨its,rv,p,hz⟩:=I.list hq;obtain⟨f0,f1,f2,f3,f4,f5⟩:=hf it (by simp);have hl:=rv.length;exact wpAny_pyNext_list_end (I.ok.hd hc) st p.isList (by simp;omega) λh' eb=>⟨rfl,I.turned (t':=s.toks) (λb o hb e=>eb b o hb e) f0 f1 f3 f4 f5⟩
 self:=λ_ _ _ _ _ st h=>wpAny_pyIter_listiter st h
theorem vf{P:Program}{w:World}{K:PySem.W.Frag}{tg:Expr}(a it:Addr):Turn P w K tg (Itt K a) [it] it (λi h=>h.IsTupleIter it a i) where
 mem:=by simp
 obj:=λi h st b hb=>by
  have e:b=it:=by simpa using hb
  subst e;obtain⟨o,e,c,d⟩:=st;exact⟨o,e,λv z=>by rw[d]at z;cases z⟩
 keep:=λi h h' st k=>st.at λo e=>k it (by simp) o e
 item:=by
  intro X hP hw hK hc i pins s σ H E I hf st hg;subst hP hw hK;obtain⟨xs,x,hq,hx⟩:=hg;obtain⟨its,rv,p,hz⟩:=I.tuple hq;obtain⟨u,hu,ru⟩:=rv.get hx;obtain⟨f0,f1,f2,f3,f4,f5⟩:=hf it (by simp);refine wpAny_pyNext_tuple_item st (show s.heap.IsTuple a its.toArray from p) (x:=u) (by simpa using hu) λh' st' sb=>?_
  have I1:Inv X pins σ H { s with heap:=h' }:=I.turned (t':=s.toks) (λb o hb e=>(sb.2 b hb).trans e) f0 f1 f3 f4 f5;obtain⟨o,e,c,d⟩:=id st';exact⟨u,rfl,lV (s:={ s with heap:=h' }) e c d (by decide) ⟨x,H,I1,ru,⟨rfl,λys hy=>by rw[I.tuple_inj hy hq];exact hx⟩,st',λb hb=>(hf b hb).1⟩⟩
 done:=by intro X hP hw hK hc i pins s σ H E I hf st hg;subst hP hw hK;obtain⟨xs,hq,hx⟩:=hg;obtain⟨its,rv,p,hz⟩:=I.tuple hq;obtain⟨f0,f1,f2,f3,f4,f5⟩:=hf it (by simp);have hl:=rv.length;exact wpAny_pyNext_tuple_end (I.ok.hd hc) st (show s.heap.IsTuple a its.toArray from p) (by simp;omega) λh' eb=>⟨rfl,I.turned (t':=s.toks) (λb o hb e=>eb b o hb e) f0 f1 f3 f4 f5⟩
 self:=λ_ _ _ _ _ st h=>wpAny_pyIter_tupleiter st h
theorem vh{P:Program}{w:World}{K:PySem.W.Frag}{tg:Expr}(it:Addr)(lo:Int)(n:Nat):Turn P w K tg (Itr lo n) [it] it (λi h=>IsRangeIter h it (lo+(i:Nat)*1) ((n:Int)-(i:Nat)) 1) where
 mem:=by simp
 obj:=λi h st b hb=>by
  have e:b=it:=by simpa using hb
  subst e
  exact⟨_,st,λv z=>by
   have z':Data.fields _=Data.cell v:=z
   cases z'⟩
 keep:=λi h h' st k=>k it (by simp) _ st
 item:=by
  intro X hP hw hK hc i pins s σ H E I hf st hg;subst hP hw hK;obtain⟨f0,f1,f2,f3,f4,f5⟩:=hf it (by simp);have W:=Walks.range (prog:=X.prog) (w:=X.w) (I.ok.hd hc) it lo 1 n;refine W.item i s _ _ hg st λv h' tk hv st' kk=>?_
  obtain⟨t,rfl⟩:=hv;have I1:Inv X pins σ H { s with heap:=h',toks:=tk }:=I.turned (λb o hb e=>kk b o (by simpa using hb) e) f0 f1 f3 f4 f5;refine⟨_,rfl,lV (s:={ s with heap:=h',toks:=tk }) (n:="range_iterator") st' rfl rfl (by decide) ⟨.int (lo+i),H,I1,⟨t,?_⟩,⟨rfl,rfl⟩,st',λb hb=>(hf b hb).1⟩⟩;rw[Int.mul_one]
 done:=by intro X hP hw hK hc i pins s σ H E I hf st hg;subst hP hw hK;obtain⟨f0,f1,f2,f3,f4,f5⟩:=hf it (by simp);exact wpAny_pyNext_range_end (I.ok.hd hc) st (by have:n<=i:=hg;omega) λh' eb=>⟨rfl,I.turned (t':=s.toks) (λb o hb e=>eb b o hb e) f0 f1 f3 f4 f5⟩
 self:=λ_ _ _ _ _ st h=>wpAny_pyIter_rangeiter st h
section
variable {X:Cx}{tg:Expr}
def tM(K:PySem.W.Frag)(tl:TE):TI:=λσ H R=>tl σ H λx H1=>∃a,x=.ref a/\(∃xs,SqL K H1 a xs)/\R (Itl K a) H1
def tK(K:PySem.W.Frag)(tl:TE):TI:=λσ H R=>tl σ H λx H1=>∃a,x=.ref a/\(∃xs,SqT K H1 a xs)/\R (Itt K a) H1
theorem w9{l:Expr}{tl:TE}(hl:PE X l tl):PI X tg l (tM X.K tl):=by
 intro pins s σ H R I h;refine thn (hl pins s σ H _ I h) λv s1 ⟨x,H1,I1,r1,q1⟩=>?_
 obtain⟨a,e,⟨xs,hq⟩,q⟩:=q1;subst e;cases r1;obtain⟨its,rv,p,hz⟩:=I1.list hq;refine wpAny_pyIter_list p.isList ?_;refine⟨s1.heap.objs.size,[s1.heap.objs.size],_,_,H1,rfl,I1.kept (t':=s1.toks) λb o e=>Heap.get?_push_of_some _ e,vi a _,⟨_,Heap.get?_push_size _ rfl,rfl,rfl⟩,λb hb=>?_,q⟩;have e:b=s1.heap.objs.size:=by simpa using hb
 subst e;exact I1.fpOk (EO _) (I1.hok.fresh (EO _))
theorem w5{l:Expr}{tl:TE}(hl:PE X l tl):PI X tg l (tK X.K tl):=by
 intro pins s σ H R I h;refine thn (hl pins s σ H _ I h) λv s1 ⟨x,H1,I1,r1,q1⟩=>?_
 obtain⟨a,e,⟨xs,hq⟩,q⟩:=q1;subst e;cases r1;obtain⟨its,rv,p,hz⟩:=I1.tuple hq;refine wpAny_pyIter_tuple (show s1.heap.IsTuple a its.toArray from p) ?_;refine⟨s1.heap.objs.size,[s1.heap.objs.size],_,_,H1,rfl,I1.kept (t':=s1.toks) λb o e=>Heap.get?_push_of_some _ e,vf a _,⟨_,Heap.get?_push_size _ rfl,rfl,rfl⟩,λb hb=>?_,q⟩;have e:b=s1.heap.objs.size:=by simpa using hb
 subst e;exact I1.fpOk (EO _) (I1.hok.fresh (EO _))
theorem rm{pins:List (Addr×Obj)}{σ:St}{H:Hp}{s:Shared}{R:It->Hp->Prop}{E:Value->Shared->Prop}{lo hi:Int}{t u v:Tok}{tk:Nat}(I:Inv X pins σ H s)(h1 : -(2^62)<=lo)(h2:lo<2^62)(h3 : -(2^62)<=hi)(h4:hi<2^62)
 (q:R (Itr lo (hi-lo).toNat) H):wpAny (model X.prog X.w) X.A (pyIter (.ref s.heap.objs.size)) (PIE X pins σ tg R) E { s with heap:=s.heap.push { cls:=.type "range",data:=.fields #[.int lo t,.int hi u,.int 1 v] },toks:=tk }:=by
 refine wpAny_pyIter_range (IsRange.new ..) (small_one h1 h2 h3 h4) ?_;have I1:Inv X pins σ H { s with heap:=s.heap.push { cls:=.type "range",data:=.fields #[.int lo t,.int hi u,.int 1 v] },toks:=tk }:=I.kept λb o e=>Heap.get?_push_of_some _ e
 refine⟨(s.heap.push { cls:=.type "range",data:=.fields #[.int lo t,.int hi u,.int 1 v] }).objs.size,[(s.heap.push { cls:=.type "range",data:=.fields #[.int lo t,.int hi u,.int 1 v] }).objs.size],_,_,H,rfl,
  I1.kept (t':=tk) λb o e=>Heap.get?_push_of_some _ e,vh _ lo (hi-lo).toNat,?_,λb hb=>?_,q⟩
 ·have e1:lo+((0:Nat):Int)*1=lo:=by simp
  have e2:(((hi-lo).toNat:Nat):Int)-((0:Nat):Int)=Builtin.Range.rangeSize lo hi 1:=by rw[rangeSize_one];split<;>omega
  show IsRangeIter _ _ (lo+((0:Nat):Int)*1) ((((hi-lo).toNat:Nat):Int)-((0:Nat):Int)) 1;rw[e1,e2];exact Heap.get?_push_size _ rfl
 ·have e:b=(s.heap.push { cls:=.type "range",data:=.fields #[.int lo t,.int hi u,.int 1 v] }).objs.size:=by simpa using hb
  subst e;exact I1.fpOk (EO _) (I1.hok.fresh (EO _))
def AM(ta:TA):TI:=λσ H R=>ta σ H λvs H1=>∃j:Int,vs=[.int j] /\ -(2^62)<=j/\j<2^62/\R (Itr 0 j.toNat) H1
def AL(ta:TA):TI:=λσ H R=>ta σ H λvs H1=>∃i j:Int,vs=[.int i,.int j]/\(-(2^62)<=i/\i<2^62 /\ -(2^62)<=j/\j<2^62)/\R (Itr i (j-i).toNat) H1
theorem rB{a:Expr}{ta:TA}{p pos:Pos}(hg:Gl X "range")(hm:X.mg "range"=none)(ha:PA X [a] ta)(hs:starEach [a] X.env=[(false,eval a X.env)]:=by rfl):PI X tg (.Call (.Name "range" p) [a] [] pos) (AM ta):=by
 intro pins s σ H R I h;refine Call_ (ju I hg hm boot_range (PyProof.Rows.callWith_type1 (thn (ha pos pins s σ H _ I h) λus s1 ⟨vs,H1,I1,r1,q1⟩=>?_) hs rfl));obtain⟨j,e,q1,q2,q⟩:=q1;subst e;cases r1 with
 |cons r rr =>cases rr;obtain⟨t,rfl⟩:=r;exact call_range_1 (rm I1 (by omega) (by omega) q1 q2 (by simpa using q))
theorem w8{a b:Expr}{ta:TA}{p pos:Pos}(hg:Gl X "range")(hm:X.mg "range"=none)(ha:PA X [a,b] ta)(hs:starEach [a,b] X.env=[(false,eval a X.env),(false,eval b X.env)]:=by rfl)(hs2:starEach [b] X.env=[(false,eval b X.env)]:=by rfl) :
 PI X tg (.Call (.Name "range" p) [a,b] [] pos) (AL ta):=by
 intro pins s σ H R I h;refine Call_ (ju I hg hm boot_range (PyProof.Rows.callWith_type1 (thn (ha pos pins s σ H _ I h) λus s1 ⟨vs,H1,I1,r1,q1⟩=>?_) (by rw[hs,hs2]) (by rw[hs2];rfl)));obtain⟨i,j,e,⟨q1,q2,q3,q4⟩,q⟩:=q1;subst e;cases r1 with
 |cons r rr =>
  cases rr with
  |cons r' rr =>cases rr;obtain⟨t,rfl⟩:=r;obtain⟨t',rfl⟩:=r';exact call_range_2 (rm I1 q1 q2 q3 q4 q)
def vz(wi:TI)(g:TG)(tb:TS):TS:=λD σ H=>wi σ H λJ H1=>∃W:Nat->Nat->St->Hp->Prop,(∃m,W 0 m σ H1)/\∀i m σ H,W i m σ H ->
 (J.stop i H/\D.nx σ H)\/(J.go i H/\∃N:St->Hp->Prop,(∀σ' H',N σ' H'->∃m',m'<m/\W (i+1) m' σ' H')/\∀x H',J.yld i H x H'->g x σ H' λσ2 H2=>tb { D with nx:=N,ct:=N,bk:=D.nx } σ2 H2)
noncomputable def li(fp:List Addr)(h:Heap):List (Addr×Obj):=fp.filterMap λb=>(h.get? b).map λo=>(b,o)
theorem lG{fp:List Addr}{h:Heap}{b:Addr}{o:Obj}(hb:b∈fp)(e:h.get? b=some o):(b,o)∈li fp h:=List.mem_filterMap.mpr ⟨b,hb,by rw[e];rfl⟩
theorem yB{fp:List Addr}{h:Heap}{p:Addr×Obj}(hp:p∈li fp h):p.1∈fp/\h.get? p.1=some p.2:=by
 obtain⟨b,hb,e⟩:=List.mem_filterMap.mp hp;cases q:h.get? b with
 |none=>rw[q]at e;cases e
 |some o =>rw[q]at e;have e':(b,o)=p:=Option.some.inj e;subst e';exact⟨hb,q⟩
theorem Inv.pinned{pins:List (Addr×Obj)}{σ:St}{H:Hp}{s:Shared}{fp:List Addr}(I:Inv X pins σ H s)(hf:∀b∈fp,dH X pins H b)(ho:∀b∈fp,∃o,s.heap.get? b=some o/\∀v,o.data≠.cell v):Inv X (pins++li fp s.heap) σ H s :=
 I.pins_of λp hp=>(EW.mp hp).elim (λz=>I.pin p (Fe _ z)) λz=>by obtain⟨hb,e⟩:=yB z;obtain⟨f0,f1,f2,_⟩:=hf p.1 hb;obtain⟨o,e',d⟩:=ho p.1 hb;rw[e]at e';cases e';exact⟨e,f0,f1,f2,d⟩
theorem Inv.unpinned{pins pl:List (Addr×Obj)}{σ:St}{H:Hp}{s:Shared}(I:Inv X (pins++pl) σ H s):Inv X pins σ H s:=I.pins_of λp hp=>I.pin p (Fe _ (List.mem_append_left _ hp))
theorem iq{iter:Expr}{body:List Stmt}{wi:TI}{g:TG}{tb:TS}{pos:Pos}(hp:PassesOwn (model X.prog X.w) X.A X.env X.xe)(hc:X.calm=true)(hi:PI X tg iter wi)(hg:PG X tg g)(hb:PSs X body tb)
 (hs:∀x,foldedSetIterable iter X.env x=pure x:=by intro _;rfl):PS X (.For tg iter body [] pos) (vz wi g tb):=by
 intro pins s σ H D I h;refine wpAny_For (thn (hi pins s σ H _ I h) λv s1 h1=>thn h1 λitv s2 h2=>?_) hs;obtain⟨it,fp,tn,J,H2,e,I2,T,st2,f2,W,⟨m0,w0⟩,turn⟩:=h2;subst e;have stat:∀{H':Hp},(∀b∈fp,H' b=none)->∀b∈fp,dH X pins H' b:=λhn b hb=>⟨hn b hb,(f2 b hb).2⟩
 refine codeAny_forLoop_any (λn s'=>∃i σ' H',Inv X pins σ' H' s'/\tn i s'.heap/\(∀b∈fp,H' b=none)/\W i n σ' H') ?_ m0 ⟨0,σ,H2,I2,st2,λb hb=>(f2 b hb).1,w0⟩;rintro n s3 ⟨i,σ3,H3,I3,st3,fr3,w3⟩;rcases turn i n σ3 H3 w3 with⟨stop,qn⟩ |⟨go,N,hN,step⟩
 ·refine wpAny_passesOwn hp (thn (T.done X rfl rfl rfl hc i pins s3 σ3 H3 X.xe I3 (stat fr3) st3 stop) λr s4 ⟨hr,I4⟩=>?_);subst hr;exact wpAny_execs_nil ⟨σ3,H3,I4,qn⟩
 ·refine wpAny_passesOwn hp (thn (T.item X rfl rfl rfl hc i pins s3 σ3 H3 X.xe I3 (stat fr3) st3 go) λr s4 ⟨u,hr,h4⟩=>?_);subst hr;refine wpAny_passesOwn hp (thn h4 λ_ s5 ⟨x,H5,I5,r5,y5,st5,fr5⟩=>?_);have I5':=I5.pinned (stat fr5) (T.obj _ _ st5);refine wpAny_passesOwn hp (thn (hg _ s5 σ3 H5 x u _ I5' r5 (step x H5 y5)) λ_ s6 ⟨σ6,H6,I6,q6⟩=>?_);refine wpAny_passesOwn hp (thn (hb _ s6 σ6 H6 _ I6 q6) λf s7 q7=>?_)
  have again:∀{σ7:St} {H7:Hp},Inv X (pins++li fp s5.heap) σ7 H7 s7->N σ7 H7->∃m,m<n/\∃i σ' H',Inv X pins σ' H' s7/\tn i s7.heap/\(∀b∈fp,H' b=none)/\W i m σ' H':=λ{σ7 H7} I7 n7=>by obtain⟨m',hm,w7⟩:=hN σ7 H7 n7;refine⟨m',hm,i+1,σ7,H7,I7.unpinned,T.keep _ _ _ st5 λb hb o e=>(I7.pin (b,o) (Fe _ (Fe _ (lG hb e)))).1,λb hb=>?_,w7⟩;obtain⟨o,e,d⟩:=T.obj _ _ st5 b hb;exact(I7.pin (b,o) (Fe _ (Fe _ (lG hb e)))).2.1
  cases f with
  |next=>obtain⟨σ7,H7,I7,n7⟩:=q7;exact again I7 n7
  |cont=>obtain⟨σ7,H7,I7,n7⟩:=q7;exact again I7 n7
  |brk=>obtain⟨σ7,H7,I7,q7⟩:=q7;exact⟨σ7,H7,I7.unpinned,q7⟩
  |ret v=>obtain⟨x7,σ7,H7,I7,r7,q7⟩:=q7;exact⟨x7,σ7,H7,I7.unpinned,r7,q7⟩
end
theorem oV{K:PySem.W.Frag}{a:Addr}{xs:List V}{g:TG}{tb:TS}{D:Ends}{σ:St}{H:Hp}(Pv:Nat->St->Hp->Prop)(h0:Pv 0 σ H)(hl:∀i σ H,i<=xs.length->Pv i σ H->SqL K H a xs)
 (hs:∀i x σ H,xs[i]?=some x->Pv i σ H->g x σ H λσ2 H2=>tb { D with nx:=Pv (i+1),ct:=Pv (i+1),bk:=D.nx } σ2 H2) (hd:∀σ H,Pv xs.length σ H->D.nx σ H) :
 ∃W:Nat->Nat->St->Hp->Prop,(∃m,W 0 m σ H)/\∀i m σ H,W i m σ H ->
  ((Itl K a).stop i H/\D.nx σ H)\/((Itl K a).go i H/\∃N:St->Hp->Prop,(∀σ' H',N σ' H'->∃m',m'<m/\W (i+1) m' σ' H')/\∀x H',(Itl K a).yld i H x H'->g x σ H' λσ2 H2=>tb { D with nx:=N,ct:=N,bk:=D.nx } σ2 H2):=by
 refine⟨λi m σ H=>m=xs.length-i/\i<=xs.length/\Pv i σ H,⟨xs.length,by simp,Fb _,h0⟩,?_⟩;rintro i m σ H ⟨rfl,hi,p⟩;have q:=hl i σ H hi p;by_cases hlt:i<xs.length
 ·refine .inr ⟨⟨xs,xs[i],q,by simp[hlt]⟩,Pv (i+1),λσ' H' p'=>⟨xs.length-(i+1),by omega,rfl,hlt,p'⟩,λx H' y=>?_⟩;obtain⟨e,y⟩:=y;subst e;exact hs i x σ _ (y xs q) p
 ·have e:i=xs.length:=by omega
  subst e;exact .inl ⟨⟨xs,q,EO _⟩,hd σ H p⟩
theorem A5{K:PySem.W.Frag}{a:Addr}{xs:List V}{g:TG}{tb:TS}{D:Ends}{σ:St}{H:Hp}(Pv:Nat->St->Hp->Prop)(h0:Pv 0 σ H)(hl:∀i σ H,i<=xs.length->Pv i σ H->SqT K H a xs)
 (hs:∀i x σ H,xs[i]?=some x->Pv i σ H->g x σ H λσ2 H2=>tb { D with nx:=Pv (i+1),ct:=Pv (i+1),bk:=D.nx } σ2 H2) (hd:∀σ H,Pv xs.length σ H->D.nx σ H) :
 ∃W:Nat->Nat->St->Hp->Prop,(∃m,W 0 m σ H)/\∀i m σ H,W i m σ H ->
  ((Itt K a).stop i H/\D.nx σ H)\/((Itt K a).go i H/\∃N:St->Hp->Prop,(∀σ' H',N σ' H'->∃m',m'<m/\W (i+1) m' σ' H')/\∀x H',(Itt K a).yld i H x H'->g x σ H' λσ2 H2=>tb { D with nx:=N,ct:=N,bk:=D.nx } σ2 H2):=by
 refine⟨λi m σ H=>m=xs.length-i/\i<=xs.length/\Pv i σ H,⟨xs.length,by simp,Fb _,h0⟩,?_⟩;rintro i m σ H ⟨rfl,hi,p⟩;have q:=hl i σ H hi p;by_cases hlt:i<xs.length
 ·refine .inr ⟨⟨xs,xs[i],q,by simp[hlt]⟩,Pv (i+1),λσ' H' p'=>⟨xs.length-(i+1),by omega,rfl,hlt,p'⟩,λx H' y=>?_⟩;obtain⟨e,y⟩:=y;subst e;exact hs i x σ _ (y xs q) p
 ·have e:i=xs.length:=by omega
  subst e;exact .inl ⟨⟨xs,q,EO _⟩,hd σ H p⟩
theorem tU{lo:Int}{n:Nat}{g:TG}{tb:TS}{D:Ends}{σ:St}{H:Hp}(Pv:Nat->St->Hp->Prop)(h0:Pv 0 σ H)
 (hs:∀i σ H,i<n->Pv i σ H->g (.int (lo+i)) σ H λσ2 H2=>tb { D with nx:=Pv (i+1),ct:=Pv (i+1),bk:=D.nx } σ2 H2) (hd:∀σ H,Pv n σ H->D.nx σ H) :
 ∃W:Nat->Nat->St->Hp->Prop,(∃m,W 0 m σ H)/\∀i m σ H,W i m σ H ->
  ((Itr lo n).stop i H/\D.nx σ H)\/((Itr lo n).go i H/\∃N:St->Hp->Prop,(∀σ' H',N σ' H'->∃m',m'<m/\W (i+1) m' σ' H')/\∀x H',(Itr lo n).yld i H x H'->g x σ H' λσ2 H2=>tb { D with nx:=N,ct:=N,bk:=D.nx } σ2 H2):=by
 refine⟨λi m σ H=>m=n-i/\i<=n/\Pv i σ H,⟨n,by simp,Fb _,h0⟩,?_⟩;rintro i m σ H ⟨rfl,hi,p⟩;by_cases hlt:i<n
 ·refine .inr ⟨hlt,Pv (i+1),λσ' H' p'=>⟨n-(i+1),by omega,rfl,hlt,p'⟩,λx H' y=>?_⟩;obtain⟨e,y⟩:=y;subst e y;exact hs i σ _ hlt p
 ·have e:i=n:=by omega
  subst e;exact .inl ⟨EO _,hd σ H p⟩
abbrev R2:=V->V->Hp->VK->Prop
noncomputable def OpR(X:Cx)(f:Value->Value->Sem Value)(r:R2):Prop :=
 ∀(pins:List (Addr×Obj)) (s:Shared) (σ:St) (H:Hp) (x y:V) (v u:Value) (Q:VK),Inv X pins σ H s->RelV x v->RelV y u->r x y H Q ->
  wpAny (model X.prog X.w) X.A (f v u) (EP X pins σ Q) X.xe s
noncomputable def UnR(X:Cx)(f:Value->Sem Value)(r:V->Hp->VK->Prop):Prop :=
 ∀(pins:List (Addr×Obj)) (s:Shared) (σ:St) (H:Hp) (x:V) (v:Value) (Q:VK),Inv X pins σ H s->RelV x v->r x H Q ->
  wpAny (model X.prog X.w) X.A (f v) (EP X pins σ Q) X.xe s
noncomputable def cy(X:Cx)(f:Value)(r:List V->Hp->VK->Prop):Prop :=
 ∀(pins:List (Addr×Obj)) (s:Shared) (σ:St) (H:Hp) (xs:List V) (us:List Value) (Q:VK),Inv X pins σ H s->Vals xs us->r xs H Q ->
  wpAny (model X.prog X.w) X.A (call f us) (EP X pins σ Q) X.xe s
def tOp(r:R2)(ta tb:TE):TE:=λσ H Q=>ta σ H λx H1=>tb σ H1 λy H2=>r x y H2 Q
def tUn(r:V->Hp->VK->Prop)(ta:TE):TE:=λσ H Q=>ta σ H λx H1=>r x H1 Q
def rI(C:Int->Int->Prop)(g:Int->Int->V):R2:=λx y H Q=>∃i j,x=.int i/\y=.int j/\C i j/\Q (g i j) H
def rI0(g:Int->Int->V):R2:=λx y H Q=>∃i j,x=.int i/\y=.int j/\Q (g i j) H
noncomputable def rU(g:Int->V):V->Hp->VK->Prop:=λx H Q=>∃i,x=.int i/\Q (g i) H
section
variable {X:Cx}{a b c:Expr}{ta tb tc:TE}{pos:Pos}
theorem pD(ha:PE X a ta)(hb:PE X b tb){pins:List (Addr×Obj)}{s:Shared}{σ:St}{H:Hp}{R:V->V->Hp->Prop}(I:Inv X pins σ H s)
 (h:ta σ H λx H1=>tb σ H1 λy H2=>R x y H2) {Q:Value->Shared->Prop} {f:Value->Value->Sem Value}
 (hf:∀v u s2 x y H2,Inv X pins σ H2 s2->RelV x v->RelV y u->R x y H2->wpAny (model X.prog X.w) X.A (f v u) Q X.xe s2) :
 wpAny (model X.prog X.w) X.A (eval a X.env) (λv s₁=>wpAny (model X.prog X.w) X.A (eval b X.env) (λu s₂=>wpAny (model X.prog X.w) X.A (f v u) Q X.xe s₂) X.xe s₁) X.xe s:=by
 refine thn (ha pins s σ H _ I h) λv s1 ⟨x,H1,I1,r1,q1⟩=>?_
 refine thn (hb pins s1 σ H1 _ I1 q1) λu s2 ⟨y,H2,I2,r2,q2⟩=>?_
 exact hf v u s2 x y H2 I2 r1 r2 q2
theorem ag{op:Operator}{r:R2}(ho:OpR X (binaryOp op) r)(ha:PE X a ta)(hb:PE X b tb):PE X (.BinOp a op b pos) (tOp r ta tb):=by intro pins s σ H Q I h;exact wpAny_BinOp (pD ha hb I h λv u s2 x y H2 I2 rx ry q=>ho pins s2 σ H2 x y v u Q I2 rx ry q)
theorem cD{op:UnaryOp}{r:V->Hp->VK->Prop}(ho:UnR X (unaryOp op) r)(ha:PE X a ta):PE X (.UnaryOp op a pos) (tUn r ta):=by intro pins s σ H Q I h;exact UnaryOp_ (thn (ha pins s σ H _ I h) λv s1 ⟨x,H1,I1,r1,q1⟩=>ho pins s1 σ H1 x v Q I1 r1 q1)
theorem opI{f:Value->Value->Sem Value}{C:Int->Int->Prop}{g:Int->Int->Int}
 (rule:∀(i j:Int) (t u:Tok) (s:Shared) (Q:Value->Shared->Prop) (E:Value->Shared->Prop),C i j->Q (.int (g i j) s.toks) { s with toks:=s.toks+1 }->wpAny (model X.prog X.w) X.A (f (.int i t) (.int j u)) Q E s) :
 OpR X f (rI C λi j=>.int (g i j)):=by
 intro pins s σ H x y v u Q I rx ry h;obtain⟨i,j,rfl,rfl,hc,q⟩:=h;obtain⟨t,rfl⟩:=rx;obtain⟨t',rfl⟩:=ry;exact rule i j t t' s _ _ hc ⟨.int (g i j),H,I.tok _,⟨_,rfl⟩,q⟩
theorem rL{f:Value->Value->Sem Value}{g:Int->Int->Int}
 (rule:∀(i j:Int) (t u:Tok) (s:Shared) (Q:Value->Shared->Prop) (E:Value->Shared->Prop),Q (.int (g i j) s.toks) { s with toks:=s.toks+1 }->wpAny (model X.prog X.w) X.A (f (.int i t) (.int j u)) Q E s) :
 OpR X f (rI0 λi j=>.int (g i j)):=by
 intro pins s σ H x y v u Q I rx ry h;obtain⟨i,j,rfl,rfl,q⟩:=h;obtain⟨t,rfl⟩:=rx;obtain⟨t',rfl⟩:=ry;exact rule i j t t' s _ _ ⟨.int (g i j),H,I.tok _,⟨_,rfl⟩,q⟩
theorem jh{f:Value->Value->Sem Value}{g:Int->Int->Bool}
 (rule:∀(i j:Int) (t u:Tok) (s:Shared) (Q:Value->Shared->Prop) (E:Value->Shared->Prop),Q (.bool (g i j)) s->wpAny (model X.prog X.w) X.A (f (.int i t) (.int j u)) Q E s) :
 OpR X f (rI0 λi j=>.bl (g i j)):=by
 intro pins s σ H x y v u Q I rx ry h;obtain⟨i,j,rfl,rfl,q⟩:=h;obtain⟨t,rfl⟩:=rx;obtain⟨t',rfl⟩:=ry;exact rule i j t t' s _ _ ⟨.bl (g i j),H,I,rfl,q⟩
def Em(i j:Int):Prop:=0<=j/\j<=1000000/\i.natAbs<2^64
def CMul(i j:Int):Prop:=(-(2^64)<i/\i<2^64)\/(-(2^64)<j/\j<2^64)
theorem CMul.ok{i j:Int}(h:CMul i j):IntMulOk i j:=by
 rcases h with⟨h1,h2⟩ |⟨h1,h2⟩
 ·exact .of_left (intBits_le_64 h1 h2)
 ·exact .of_right (intBits_le_64 h1 h2)
theorem bG:OpR X (binaryOp .Add) (rI0 λi j=>.int (i+j)):=rL λ_ _ _ _ _ _ _ q=>add_int q
theorem iw:OpR X (binaryOp .Sub) (rI0 λi j=>.int (i-j)):=rL λ_ _ _ _ _ _ _ q=>sub_int q
theorem nI:OpR X (binaryOp .Mult) (rI CMul λi j=>.int (i*j)):=opI λ_ _ _ _ _ _ _ hc q=>mul_int q hc.ok
theorem xt:OpR X (binaryOp .Mod) (rI (λ_ j=>0<j) λi j=>.int (i%j)):=opI λi j _ _ _ _ _ hc q=>by have h1:(0:Int)<j:=hc;exact mod_int' (by omega) (by rw[Int.fmod_eq_emod_of_nonneg i (by omega)];exact q)
theorem xn:OpR X (binaryOp .Pow) (rI Em λi j=>.int (i^j.toNat)):=opI λ_ _ _ _ _ _ _ hc q=>pow_int_small hc.1 hc.2.1 hc.2.2 q
theorem unI{f:Value->Sem Value}{g:Int->Int}
 (rule:∀(i:Int) (t:Tok) (s:Shared) (Q:Value->Shared->Prop) (E:Value->Shared->Prop),Q (.int (g i) s.toks) { s with toks:=s.toks+1 }->wpAny (model X.prog X.w) X.A (f (.int i t)) Q E s) :
 UnR X f (rU λi=>.int (g i)):=by
 intro pins s σ H x v Q I rx h;obtain⟨i,rfl,q⟩:=h;obtain⟨t,rfl⟩:=rx;exact rule i t s _ _ ⟨.int (g i),H,I.tok _,⟨_,rfl⟩,q⟩
theorem cz:UnR X (unaryOp .USub) (rU λi=>.int (-i)):=unI λ_ _ _ _ _ q=>neg_int q
end
noncomputable def rc:V->V->Bool
 |.non,.non=>true |.non,.int _=>true |.int _,.non=>true |.non,.bl _=>true |.bl _,.non=>true |.non,.str _=>true |.str _,.non=>true
 |.int _,.int _=>true |.bl _,.bl _=>true |.str _,.str _=>true |.byt _,.byt _=>true
 |.int _,.str _=>true |.str _,.int _=>true |.bl _,.str _=>true |.str _,.bl _=>true
 |_,_=>false
def rEq:R2:=λx y H Q=>rc x y=true/\Q (.bl (decide (x=y))) H
def rNe:R2:=λx y H Q=>rc x y=true/\Q (.bl (!decide (x=y))) H
theorem uc{i j:Int}:decide (V.int i=V.int j)=(i == j):=by rw[Fj];simp
theorem ue{i j:Bool}:decide (V.bl i=V.bl j)=(i == j):=by rw[Fj];simp
theorem ub{i j:Str}:decide (V.str i=V.str j)=(i == j):=by rw[Fj];simp
theorem ud{i j:Array UInt8}:decide (V.byt i=V.byt j)=(i.toList == j.toList):=by rw[Fj];cases i;cases j;simp
section
variable {X:Cx}{a b c:Expr}{ta tb tc:TE}{pos:Pos}
theorem aZ{pins:List (Addr×Obj)}{σ:St}{H:Hp}{s:Shared}{Q:VK}{k k':Bool}(I:Inv X pins σ H s)(q:Q (.bl k) H)(e:k=k'):EP X pins σ Q (.bool k') s:=by subst e;exact⟨.bl k,H,I,rfl,q⟩
theorem cq:OpR X (compareOp .Eq) rEq:=by
 intro pins s σ H x y v u Q I rx ry h;obtain⟨hs,q⟩:=h;cases x with
 |non =>
  cases rx;cases y with
  |non=>cases ry;exact PySem.EqNone.eq_none_none (aZ I q (by simp))
  |bl j=>cases ry;exact PySem.EqNone.eq_none_bool (aZ I q (by simp))
  |int j=>obtain⟨t',rfl⟩:=ry;exact PySem.EqNone.eq_none_int (aZ I q (by simp))
  |str j=>obtain⟨t',rfl⟩:=ry;exact PySem.EqNone.eq_none_str (aZ I q (by simp))
  |_=>exact absurd (show false=true from hs) EU
 |bl i =>
  cases rx;cases y with
  |non=>cases ry;exact PySem.EqNone.eq_bool_none (aZ I q (by simp))
  |bl j=>cases ry;exact eq_bool (aZ I q ue)
  |str j=>obtain⟨t',rfl⟩:=ry;exact PySem.EqMixed.eq_bool_str (aZ I q (by simp))
  |_=>exact absurd (show false=true from hs) EU
 |int i =>
  obtain⟨t,rfl⟩:=rx;cases y with
  |non=>cases ry;exact PySem.EqNone.eq_int_none (aZ I q (by simp))
  |int j=>obtain⟨t',rfl⟩:=ry;exact eq_int (aZ I q uc)
  |str j=>obtain⟨t',rfl⟩:=ry;exact PySem.EqMixed.eq_int_str (aZ I q (by simp))
  |_=>exact absurd (show false=true from hs) EU
 |str i =>
  obtain⟨t,rfl⟩:=rx;cases y with
  |non=>cases ry;exact PySem.EqNone.eq_str_none (aZ I q (by simp))
  |bl j=>cases ry;exact PySem.EqMixed.eq_str_bool (aZ I q (by simp))
  |int j=>obtain⟨t',rfl⟩:=ry;exact PySem.EqMixed.eq_str_int (aZ I q (by simp))
  |str j=>obtain⟨t',rfl⟩:=ry;exact eq_str (aZ I q ub)
  |_=>exact absurd (show false=true from hs) EU
 |byt i =>
  obtain⟨t,rfl⟩:=rx;cases y with
  |byt j=>obtain⟨t',rfl⟩:=ry;exact PySem.W.eq_bytes (aZ I q ud)
  |_=>exact absurd (show false=true from hs) EU
 |_=>cases y<;>exact absurd (show false=true from hs) EU
theorem fE:OpR X (compareOp .NotEq) rNe:=by
 intro pins s σ H x y v u Q I rx ry h;obtain⟨hs,q⟩:=h;cases x with
 |non =>
  cases rx;cases y with
  |non=>cases ry;exact PySem.EqNone.ne_none_none (aZ I q (by simp))
  |bl j=>cases ry;exact PySem.EqNone.ne_none_bool (aZ I q (by simp))
  |int j=>obtain⟨t',rfl⟩:=ry;exact PySem.EqNone.ne_none_int (aZ I q (by simp))
  |str j=>obtain⟨t',rfl⟩:=ry;exact PySem.EqNone.ne_none_str (aZ I q (by simp))
  |_=>exact absurd (show false=true from hs) EU
 |bl i =>
  cases rx;cases y with
  |non=>cases ry;exact PySem.EqNone.ne_bool_none (aZ I q (by simp))
  |bl j=>cases ry;exact ne_bool (aZ I q (congrArg not ue))
  |str j=>obtain⟨t',rfl⟩:=ry;exact PySem.EqMixed.ne_bool_str (aZ I q (by simp))
  |_=>exact absurd (show false=true from hs) EU
 |int i =>
  obtain⟨t,rfl⟩:=rx;cases y with
  |non=>cases ry;exact PySem.EqNone.ne_int_none (aZ I q (by simp))
  |int j=>obtain⟨t',rfl⟩:=ry;exact ne_int (aZ I q (congrArg not uc))
  |str j=>obtain⟨t',rfl⟩:=ry;exact PySem.EqMixed.ne_int_str (aZ I q (by simp))
  |_=>exact absurd (show false=true from hs) EU
 |str i =>
  obtain⟨t,rfl⟩:=rx;cases y with
  |non=>cases ry;exact PySem.EqNone.ne_str_none (aZ I q (by simp))
  |bl j=>cases ry;exact PySem.EqMixed.ne_str_bool (aZ I q (by simp))
  |int j=>obtain⟨t',rfl⟩:=ry;exact PySem.EqMixed.ne_str_int (aZ I q (by simp))
  |str j=>obtain⟨t',rfl⟩:=ry;exact ne_str (aZ I q (congrArg not ub))
  |_=>exact absurd (show false=true from hs) EU
 |byt i =>
  obtain⟨t,rfl⟩:=rx;cases y with
  |byt j=>obtain⟨t',rfl⟩:=ry;exact PySem.W.ne_bytes (aZ I q (congrArg not ud))
  |_=>exact absurd (show false=true from hs) EU
 |_=>cases y<;>exact absurd (show false=true from hs) EU
theorem eU:OpR X (compareOp .Lt) (rI0 λi j=>.bl (decide (i<j))):=jh λ_ _ _ _ _ _ _ q=>lt_int q
theorem nJ:OpR X (compareOp .LtE) (rI0 λi j=>.bl (decide (i<=j))):=jh λ_ _ _ _ _ _ _ q=>le_int q
theorem ix:OpR X (compareOp .Gt) (rI0 λi j=>.bl (decide (j<i))):=jh λ_ _ _ _ _ _ _ q=>gt_int q
theorem nK:OpR X (compareOp .In) (λx y H Q=>∃i j,x=.str i/\y=.str j/\Q (.bl (!(Builtin.Str.occurrences j i 0 j.length 1).isEmpty)) H):=by intro pins s σ H x y v u Q I rx ry h;obtain⟨i,j,rfl,rfl,q⟩:=h;obtain⟨t,rfl⟩:=rx;obtain⟨t',rfl⟩:=ry;exact in_str (aZ I q rfl)
theorem aA(b:Expr){op:CmpOp}(h:op≠.In:=by decide)(h2:op≠.NotIn:=by decide):behindInMarks op b=false:=by
 have e1:(op == CmpOp.In)=false:=by cases op<;>first |rfl |exact absurd rfl h
 have e2:(op == CmpOp.NotIn)=false:=by cases op<;>first |rfl |exact absurd rfl h2
 cases b<;>simp[behindInMarks,e1,e2]
theorem bH{op:CmpOp}{r:R2}(ho:OpR X (compareOp op) r)(ha:PE X a ta)(hb:PE X b tb)(hm:behindInMarks op b=false):PE X (.Compare a [op] [b] pos) (tOp r ta tb):=by intro pins s σ H Q I h;exact wpAny_Compare1 (pD ha hb I h λv u s2 x y H2 I2 rx ry q=>ho pins s2 σ H2 x y v u Q I2 rx ry q) hm
def vr(t:TE):TT:=λσ H Q=>t σ H λx H'=>∃k,x=.bl k/\Q k H'
theorem aI{op:CmpOp}{r:R2}(ho:OpR X (compareOp op) r)(ha:PE X a ta)(hb:PE X b tb)(hm:behindInMarks op b=false):PT X (.Compare a [op] [b] pos) (vr (tOp r ta tb)):=by
 intro pins s σ H Q I h
 refine wpAny_isTrue_Compare1 (thn (ha pins s σ H _ I h) λv s1 ⟨x,H1,I1,r1,q1⟩=>thn (hb pins s1 σ H1 _ I1 q1) λu s2 ⟨y,H2,I2,r2,q2⟩ =>thn (ho pins s2 σ H2 x y v u _ I2 r1 r2 q2) λc s3 ⟨z,H3,I3,r3,k,e,q3⟩=>?_) hm
 subst e;cases r3;exact wpAny_truthy_bool ⟨H3,I3,q3⟩
theorem iF:(sizeLine:Nat)<2^63:=by rw[sizeLine_eq];decide
theorem lu:OpR X (binaryOp .Add) (λx y H Q=>∃i j,x=.str i/\y=.str j/\i.length+j.length<=sizeLine/\Q (.str (i++j)) H):=by intro pins s σ H x y v u Q I rx ry h;obtain⟨i,j,rfl,rfl,hz,q⟩:=h;obtain⟨t,rfl⟩:=rx;obtain⟨t',rfl⟩:=ry;exact add_str (λt' tk=>⟨.str (i++j),H,I.tok _,⟨_,rfl⟩,q⟩) hz
theorem eE{x:V}{us:List Value}(r:Vals [x] us):∃u,us=[u]/\RelV x u:=by
 cases r with
 |cons r1 r2=>cases r2;exact⟨_,rfl,r1⟩
theorem vc{x y:V}{us:List Value}(r:Vals [x,y] us):∃u w',us=[u,w']/\RelV x u/\RelV y w':=by
 cases r with
 |cons r1 r2 =>
  cases r2 with
  |cons r3 r4=>cases r4;exact⟨_,_,rfl,r1,r3⟩
theorem uq:cy X (.builtin "abs") (λxs H Q=>∃i,xs=[.int i]/\Q (.int (if i<0 then -i else i)) H):=by intro pins s σ H xs us Q I r h;obtain⟨i,rfl,q⟩:=h;obtain⟨u,rfl,t,rfl⟩:=eE r;exact call_abs_int λu tk=>⟨.int (if i<0 then -i else i),H,I.tok _,⟨_,rfl⟩,q⟩
theorem pC(hc:X.calm=true):cy X (.builtin "max") (λxs H Q=>∃i j,xs=[.int i,.int j]/\Q (.int (if j>i then j else i)) H):=by
 intro pins s σ H xs us Q I r h;obtain⟨i,j,rfl,q⟩:=h;obtain⟨u,w',rfl,⟨t,rfl⟩,⟨t',rfl⟩⟩:=vc r;refine max_two_ints (I.ok.hd hc) λh' tk k=>⟨_,H,I.kept k,?_,q⟩
 by_cases hj:j>i
 ·rw[if_pos hj,if_pos hj];exact⟨_,rfl⟩
 ·rw[if_neg hj,if_neg hj];exact⟨_,rfl⟩
theorem dF:cy X (.type "str") (λxs H Q=>∃i,xs=[.int i]/\i.natAbs.log2<1920/\Q (.str (toString i)) H):=by intro pins s σ H xs us Q I r h;obtain⟨i,rfl,hz,q⟩:=h;obtain⟨u,rfl,t,rfl⟩:=eE r;exact PySem.P.str_of_int hz ⟨.str _,H,I.tok _,⟨_,rfl⟩,q⟩
end
structure ObjM(h:Heap)(x dx C:Addr)(mA:Str->Option Value):Prop where
 obj:h.get? x=some (PySem.W.instObj C dx)
 ns:h.Ns1 dx mA
 ne:dx≠x
theorem zH{h:Heap}{dx:Addr}{mA:Str->Option Value}(n:h.Ns1 dx mA):∃od,h.get? dx=some od/\∀name,PySem.W.lookIn name od=some (mA name):=by
 obtain⟨o,es,ep,ho,hd,hk,_,hm⟩:=n;refine⟨o,ho,λname=>?_⟩;have e:=hm name;unfold nsFind findBy at e
 rw[<- Array.find?_toList]at e;unfold PySem.W.lookIn;rw[hd];dsimp only
 split
 ·rename_i y q
  rw[q]at e;exact congrArg some e
 ·rename_i q
  rw[q]at e
  have a:es.toList.any (·.refKey)=false:=by rw[List.any_eq_false];intro y hy;obtain⟨z,t,hkey⟩:=hk y (Array.mem_toList_iff.mp hy);simp[DictEntry.refKey,hkey]
  have a':¬es.toList.any (·.refKey)=true:=by rw[a];exact EU
  rw[if_neg a'];exact congrArg some e
theorem ObjM.look{h:Heap}{x dx C:Addr}{mA:Str->Option Value}(I:ObjM h x dx C mA):∃od,PySem.W.InstAt h x (PySem.W.instObj C dx) C (some od)/\∀name,PySem.W.lookIn name od=some (mA name) :=
 let⟨od,ho,hl⟩:=zH I.ns
 ⟨od,⟨I.obj,rfl,rfl,ho⟩,hl⟩
section
variable {prog:Program}{w:World}{A:Around}{E:Value->Shared->Prop}{s:Shared}{K:PySem.W.Frag}{x dx C f:Addr}{mA:Str->Option Value}{name:Str}{v:Value}
theorem AX{expr:Bool}{Q:Value->Shared->Prop}(X:K.In s.heap)(I:ObjM s.heap x dx C mA)(hg:PySem.W.plainGet K C name=true)(hh:PySem.W.hasDictIn K C=true)
 (ha:PySem.W.findIn K (.ref C) name=some none) (hv:mA name=some v) (hv':PySem.W.handedIn v=true) (h:Q v { s with toks:=s.toks+1 }) :
 wpAny (model prog w) A (getAttr (.ref x) name expr) Q E s:=by
 obtain⟨od,J,hl⟩:=I.look;exact PySem.W.get_value X J (PySem.W.plainGet_of hg).1 (PySem.W.findObj_own hh ha rfl (by rw[hl,hv])) hv' h
theorem AW{pl:Sem Bool}{Q:Value×List Value->Shared->Prop}(X:K.In s.heap)(I:ObjM s.heap x dx C mA)(hg:PySem.W.plainGet K C name=true)
 (hf:PySem.W.findIn K (.ref C) name=some (some (.ref f))) (ht:PySem.W.isFn K (.ref f)=true) (hv:mA name=none) (h:Q (.ref f,[.ref x]) s) :
 wpAny (model prog w) A (getMethod (.ref x) name pl) Q E s:=by
 obtain⟨od,J,hl⟩:=I.look;exact PySem.W.method_fn X J (PySem.W.plainGet_of hg).1 (PySem.W.plainGet_of hg).2 hf (beq_iff_eq.mp ht) (by show(PySem.W.lookIn name od).map (·.isSome)=some false;rw[hl,hv];rfl) h
theorem vN{ns:List Str}{Q:Unit->Shared->Prop}(X:K.In s.heap)(I:ObjM s.heap x dx C mA)
 (hs:PySem.W.findIn K (.ref C) "__setattr__"=some (some (.builtin "object.__setattr__"))) (hp:PySem.W.plainOver K C=true) (ht:PySem.W.takerIn K C name=some none) (hh:PySem.W.hasDictIn K C=true)
 (hw:PySem.Within mA ns) (hsz:ns.length<=sizeLine)
 (h:∀h',ObjM h' x dx C (λy=>if y=name then some v else mA y)->Heap.SameBut dx s.heap h'->Q () { s with heap:=h',toks:=s.toks+2 }) :
 wpAny (model prog w) A (setAttr (.ref x) name v) Q E s:=by
 obtain⟨od,J,hl⟩:=I.look;refine PySem.W.set_plain X J hs (PySem.W.osa_open (s:={ s with toks:=s.toks+1 }) (r:=none) X J hp ht λb=>?_);obtain⟨cd,hc,hd'⟩:=PySem.W.any_some hh;have hx:s.heap.get? x=some ⟨.ref C,some dx,.plain,#[]⟩:=I.obj;refine wpAny_bind (wpAny_pure (wpAny_bind (wpAny_bind (wpAny_loadPart hx (wpAny_bind (PySem.W.Looks.here (s:={ s with toks:=s.toks+1 }) (PySem.W.looks_clsIn X hc) ?_))))));rw[hd'];refine wpAny_pure (a:=some dx) (wpAny_bind (wpAny_pure (wpAny_bind ?_)));refine wpAny_nsSet1 (s:={ s with toks:=s.toks+1 }) I.ns λh' hn2 hs2=>?_
 obtain⟨oD,esD,epD,hoD,hdD,hcD⟩:=hn2.count (PySem.Within.cons name v hw);refine wpAny_bind (wpAny_lookBehind hoD (by rw[hdD];exact pastItsLine_dict (ES hcD (by rw[E1];omega))) ?_);exact wpAny_pure (h _ ⟨(hs2.2 _ (Ne.symm I.ne)).trans I.obj,hn2,I.ne⟩ hs2)
theorem y8{R:Result->Shared->Prop}{vs:List Value}{kw:List (Str×Value)}(X:K.In s.heap)(hm:PySem.W.makesIn K C=true)
 (hi:PySem.W.findIn K (.ref C) "__init__"=some (some (.ref f))) (hf:PySem.W.typeIn K (.ref f)=some (.type "function"))
 (h:codeAny (model prog w) (A.under (.builtin "type.__call__" ⟨.ref C::vs,kw⟩)) (.call (.ref f) ⟨.ref (s.heap.objs.size+1)::vs,kw⟩) (PySem.W.InitBack (s.heap.objs.size+1) R)
   { s with heap:=(s.heap.push PySem.W.emptyDict).push (PySem.W.instObj C s.heap.objs.size) }) :
 codeAny (model prog w) A (.call (.ref C) ⟨vs,kw⟩) R s:=by
 obtain⟨hh,g,d,t,os⟩:=s;exact PySem.W.make_core (PySem.W.makes_of X hm) (PySem.W.looks_findIn X hi) (λself=>PySem.W.bind_fn X self hf) (.inl rfl) h
end
noncomputable def aL(f:Str)(v:V):List (Str×V)->List (Str×V)
 | []=>[(f,v)]
 | (g,x)::r=>if g=f then(g,v)::r else(g,x)::aL f v r
theorem bg(f g:Str)(v:V):∀fs:List (Str×V),(aL f v fs).lookup g=if g=f then some v else fs.lookup g
 | []=>by
  show List.lookup g [(f,v)]=_;by_cases h:g=f
  ·have hb:(g == f)=true:=beq_iff_eq.mpr h;simp only[List.lookup,hb,if_pos h]
  ·have hb:(g == f)=false:=beq_eq_false_iff_ne.mpr h;simp only[List.lookup,hb,if_neg h]
 | (k,x)::r=>by
  have ih:=bg f g v r;rw[show aL f v ((k,x)::r)=(if k=f then(k,v)::r else(k,x)::aL f v r)from rfl];by_cases hk:k=f
  ·rw[if_pos hk];by_cases h:g=k
   ·have hb:(g == k)=true:=beq_iff_eq.mpr h;simp only[List.lookup,hb,if_pos (h.trans hk)]
   ·have hb:(g == k)=false:=beq_eq_false_iff_ne.mpr h;simp only[List.lookup,hb,if_neg (λe:g=f=>h (e.trans hk.symm))]
  ·rw[if_neg hk];by_cases h:g=k
   ·have hb:(g == k)=true:=beq_iff_eq.mpr h;simp only[List.lookup,hb,if_neg (λe:g=f=>hk (h.symm.trans e))]
   ·have hb:(g == k)=false:=beq_eq_false_iff_ne.mpr h;simp only[List.lookup,hb];exact ih
theorem oM(f:Str)(v:V):∀fs:List (Str×V),f∈(aL f v fs).map (·.1)/\∀g,g∈fs.map (·.1)->g∈(aL f v fs).map (·.1)
 | []=>⟨by simp[aL],λg h=>by simp at h⟩
 | (k,x)::r=>by
  obtain⟨i1,i2⟩:=oM f v r;rw[show aL f v ((k,x)::r)=(if k=f then(k,v)::r else(k,x)::aL f v r)from rfl];by_cases hk:k=f
  ·rw[if_pos hk];subst hk;exact⟨by simp,λg h=>by simpa using h⟩
  ·rw[if_neg hk];refine⟨?_,λg h=>?_⟩
   ·rw[Fh];exact Fo _ i1
   ·rw[Fh]at h ⊢;rcases EQ.mp h with e |e
    ·exact EQ.mpr (.inl e)
    ·exact Fo _ (i2 g e)
theorem oJ(f:Str)(v:V):∀fs:List (Str×V),(aL f v fs).length<=fs.length+1
 | []=>by simp[aL]
 | (k,x)::r=>by
  have ih:=oJ f v r;rw[show aL f v ((k,x)::r)=(if k=f then(k,v)::r else(k,x)::aL f v r)from rfl];by_cases hk:k=f
  ·rw[if_pos hk,E1,E1];omega
  ·rw[if_neg hk,E1,E1];omega
theorem RelO.some_of{v:V}{o:Option Value}(r:RelO (some v) o):∃u,o=some u/\RelV v u:=by
 cases o with
 |none=>exact(show False from r).elim
 |some u=>exact⟨u,rfl,r⟩
theorem RelO.none_of{o:Option Value}(r:RelO none o):o=none:=by
 cases o with
 |none=>rfl
 |some u=>exact(show False from r).elim
theorem AQ{v:V}{u:Value}(r:RelV v u):PySem.W.handedIn u=true:=by
 cases v with
 |non=>cases(show u=Value.none from r);rfl
 |bl b=>cases(show u=Value.bool b from r);rfl
 |int i=>obtain⟨t,e⟩:=(show ∃t,u=Value.int i t from r);cases e;rfl
 |str x=>obtain⟨t,e⟩:=(show ∃t,u=Value.str x t from r);cases e;rfl
 |byt b=>obtain⟨t,e⟩:=(show ∃t,u=Value.bytes b t from r);cases e;rfl
 |flt b=>obtain⟨t,e⟩:=(show ∃t,u=Value.float b t from r);cases e;rfl
 |ref a=>cases(show u=Value.ref a from r);rfl
 |ty n=>cases(show u=Value.type n from r);rfl
section
variable {P:Program}{w:World}{H H':Hp}{h h':Heap}{a C dx:Addr}{fs fs':List (Str×V)}
theorem lU(hok:HOk P w H h)(e:H a=some (.ins C dx fs)):∃mA,ObjM h a dx C mA/\(∀f,RelO (fs.lookup f) (mA f))/\PySem.Within mA (fs.map (·.1))/\fs.length<=1000/\H dx=some (.own a):=by obtain⟨d,z,ne,ob,mA,n,r,q⟩:=(show ObjOk P w H h a (.ins C dx fs)from hok a _ e);exact⟨mA,⟨ob,n,ne⟩,r,q,z,d⟩
end
structure Cls(K:PySem.W.Frag)(C:Addr):Prop where
 pg:PySem.W.plainGet K C Str.empty=true
 hd:PySem.W.hasDictIn K C=true
 po:PySem.W.plainOver K C=true
 sa:PySem.W.findIn K (.ref C) "__setattr__"=some (some (.builtin "object.__setattr__"))
theorem Cls.get{K:PySem.W.Frag}{C:Addr}(c:Cls K C)(f:Str):PySem.W.plainGet K C f=true:=c.pg
def NoAttr(K:PySem.W.Frag)(C:Addr)(f:Str):Prop:=PySem.W.findIn K (.ref C) f=some none
theorem NoAttr.taker{K:PySem.W.Frag}{C:Addr}{f:Str}(n:NoAttr K C f):PySem.W.takerIn K C f=some none:=by unfold PySem.W.takerIn;rw[show PySem.W.findIn K (.ref C) f=some none from n];rfl
structure Meth(K:PySem.W.Frag)(C:Addr)(m:Str)(f:Addr):Prop where
 at_:PySem.W.findIn K (.ref C) m=some (some (.ref f))
 fn:PySem.W.isFn K (.ref f)=true
 kp:PySem.W.keepIn K (.ref f)=true
section
variable {X:Cx}{pins:List (Addr×Obj)}{σ:St}{H:Hp}{s:Shared}{a C dx:Addr}{fs:List (Str×V)}{f:Str}{v:V}{A:Around}{E:Value->Shared->Prop}
theorem AV{b:Bool}{Q:Value->Shared->Prop}(I:Inv X pins σ H s)(e:H a=some (.ins C dx fs))(c:Cls X.K C)(n:NoAttr X.K C f)(l:fs.lookup f=some v)
 (h:∀u s',Inv X pins σ H s'->RelV v u->Q u s'):wpAny (model X.prog X.w) A (getAttr (.ref a) f b) Q E s:=by
 obtain⟨mA,O,r,_,_,_⟩:=lU I.hok e;obtain⟨u,hu,ru⟩:=RelO.some_of (v:=v) (o:=mA f) (by rw[<- l];exact r f);exact AX I.kIn O (c.get f) c.hd n hu (AQ ru) (h u _ (I.tok _) ru)
theorem tP{m:Str}{g:Addr}{pl:Sem Bool}{Q:Value×List Value->Shared->Prop}(I:Inv X pins σ H s)(e:H a=some (.ins C dx fs))(c:Cls X.K C)(k:Meth X.K C m g)(l:fs.lookup m=none)
 (h:Q (.ref g,[.ref a]) s):wpAny (model X.prog X.w) A (getMethod (.ref a) m pl) Q E s:=by
 obtain⟨mA,O,r,_,_,_⟩:=lU I.hok e;have hn:mA m=none:=RelO.none_of (by rw[<- l];exact r m);exact AW I.kIn O (c.get m) k.at_ k.fn hn h
theorem vM{y:V}{u:Value}{Q:Unit->Shared->Prop}(I:Inv X pins σ H s)(e:H a=some (.ins C dx fs))(c:Cls X.K C)(n:NoAttr X.K C f)(hl:fs.length<1000)(ry:RelV y u)
 (h:∀s',Inv X pins σ (upd H a (.ins C dx (aL f y fs))) s'->Q () s'):wpAny (model X.prog X.w) A (setAttr (.ref a) f u) Q E s:=by
 obtain⟨mA,O,r,wi,_,ho⟩:=lU I.hok e;have hz:(fs.map (·.1)).length<=sizeLine:=by rw[EN,sizeLine_eq];omega
 refine vN I.kIn O c.sa c.po n.taker c.hd wi hz λh' O' sb=>h _ ?_
 have hd:∃o,h'.get? dx=some o:=let⟨o,_,_,e',_⟩:=O'.ns;⟨o,e'⟩;refine I.write (x:=a) (e:=dx) (by rw[e];exact True.intro) (.inr ho) (λb q hb z=>(sb.2 b hb).trans z) hd ?_;refine⟨by rw[upd_ne O.ne];exact ho,?_,O.ne,O'.obj,_,O'.ns,λg=>?_,λg hg=>?_⟩
 ·have:=oJ f y fs;omega
 ·show RelO ((aL f y fs).lookup g) (if g=f then some u else mA g);rw[bg];by_cases q:g=f
  ·rw[if_pos q,if_pos q];exact ry
  ·rw[if_neg q,if_neg q];exact r g
 ·by_cases q:g=f
  ·rw[q];exact(oM f y fs).1
  ·refine(oM f y fs).2 g (wi g λz=>hg ?_);show(if g=f then some u else mA g)=none;rw[if_neg q];exact z
theorem Inv.made(I:Inv X pins σ H s):Inv X pins σ (upd (upd H s.heap.objs.size (.own (s.heap.objs.size+1))) (s.heap.objs.size+1) (.ins C s.heap.objs.size []))
 { s with heap:=(s.heap.push PySem.W.emptyDict).push (PySem.W.instObj C s.heap.objs.size) }:=by
 have e1:(s.heap.push PySem.W.emptyDict).get? s.heap.objs.size=some PySem.W.emptyDict:=Heap.get?_push_size s.heap rfl
 have e2:((s.heap.push PySem.W.emptyDict).push (PySem.W.instObj C s.heap.objs.size)).get? (s.heap.objs.size+1)=some (PySem.W.instObj C s.heap.objs.size):=by
  have:=Heap.get?_push_size (s.heap.push PySem.W.emptyDict) (o:=PySem.W.instObj C s.heap.objs.size) rfl
  rwa [Heap.size_push]at this
 have e3:(s.heap.push PySem.W.emptyDict).Ns s.heap.objs.size (λ_=>none):=⟨PySem.W.emptyDict,#[],_,e1,rfl,(λe he=>absurd he (by simp)),λ_=>rfl⟩;have I1:=I.laid (a:=s.heap.objs.size) (o:=.own (s.heap.objs.size+1)) (h':=s.heap.push PySem.W.emptyDict) (t':=s.toks) (λb u q=>Heap.get?_push_of_some _ q) (EO _) ⟨_,e1⟩;refine I1.laid (a:=s.heap.objs.size+1) (o:=.ins C s.heap.objs.size []) (t':=s.toks) (λb u q=>Heap.get?_push_of_some _ q) (Fp (Heap.size_push _ _)) ?_;have ne:s.heap.objs.size≠s.heap.objs.size+1:=E3 (FA _);refine⟨by rw[upd_ne ne,af],Fb _,ne,e2,λ_=>none,(Heap.Ns1.of_empty e3).at λo q=>Heap.get?_push_of_some _ q,λ_=>True.intro,λy hy=>absurd rfl hy⟩
theorem C6{prog:Program}{w:World}{env:Env}{e:Expr}{f:Str}{pos:Pos}{s:Shared}{Q:Value->Shared->Prop}(hb:attributeBase e f env (eval e env)=eval e env)
 (h:wpAny (model prog w) A (eval e env) (λo s₁=>wpAny (model prog w) A (getAttr o f true) Q E s₁) E s):wpAny (model prog w) A (eval (.Attribute e f pos) env) Q E s :=
 Attribute_any_ h (by rw[arm_eval_Attribute,hb])
end
def qI(K:PySem.W.Frag)(ta:TE)(f:Str):TE:=λσ H Q=>ta σ H λx H1=>∃a C dx fs v,x=.ref a/\H1 a=some (.ins C dx fs)/\Cls K C/\NoAttr K C f/\fs.lookup f=some v/\Q v H1
def wu(K:PySem.W.Frag)(ta tv:TE)(f:Str):TS:=λD σ H=>tv σ H λy H1=>ta σ H1 λx H2=>∃a C dx fs,x=.ref a/\H2 a=some (.ins C dx fs)/\Cls K C/\NoAttr K C f/\fs.length<1000 /\
 D.nx σ (upd H2 a (.ins C dx (aL f y fs)))
section
variable {X:Cx}{o e value:Expr}{f:Str}{pos pos' tpos:Pos}{ta tv:TE}
theorem xj(he:PE X e ta)(hb:attributeBase e f X.env (eval e X.env)=eval e X.env):PE X (.Attribute e f pos) (qI X.K ta f):=by intro pins s σ H Q I h;refine C6 hb (thn (he pins s σ H _ I h) λu s1 ⟨x,H1,I1,rx,a,C,dx,fs,v,ex,ea,c,n,l,q⟩=>?_);subst ex;obtain rfl:u=Value.ref a:=rx;exact AV I1 ea c n l λu' s2 I2 ru=>⟨v,H1,I2,ru,q⟩
theorem bi(ha:PE X o ta)(hv:PE X value tv)(hs:swapsWith value (some (.Attribute o f pos')) pos.line X.env=pure false):PS X (.Assign [.Attribute o f pos'] value pos) (wu X.K ta tv f):=by intro pins s σ H D I h;refine plainObj_wpAny_Assign_Attribute (thn (hv pins s σ H _ I h) λu s1 ⟨y,H1,I1,ry,q⟩=>thn (ha pins s1 σ H1 _ I1 q) λov s2 ⟨x,H2,I2,rx,a,C,dx,fs,ex,ea,c,n,l,q2⟩=>?_) hs;subst ex;obtain rfl:ov=Value.ref a:=rx;exact vM I2 ea c n l ry λs3 I3=>⟨σ,_,I3,q2⟩
end
section
variable {X:Cx}{pins:List (Addr×Obj)}{σ:St}{H:Hp}{s:Shared}{A:Around}{E:Value->Shared->Prop}{Q:Value->Shared->Prop}{c:Value}{b:Bool}
inductive TyOf(K:PySem.W.Frag)(H:Hp):V->Value->Prop where
 |non:TyOf K H .non (.type "NoneType")
 |bl (x:Bool):TyOf K H (.bl x) (.type "bool")
 |int (i:Int):TyOf K H (.int i) (.type "int")
 |str (x:Str):TyOf K H (.str x) (.type "str")
 |flt (x:UInt64):TyOf K H (.flt x) (.type "float")
 |lst {a:Addr} {xs:List V} (e:H a=some (.lst xs)):TyOf K H (.ref a) (.type "list")
 |frz {a:Addr} {o:Obj} {xs:List V} (e:H a=some (.frz o (.lst xs))):TyOf K H (.ref a) (.type "list")
 |tup {a:Addr} {xs:List V} (e:H a=some (.tup xs)):TyOf K H (.ref a) (.type "tuple")
 |dK {a:Addr} {kvs:List (Key×V)} (e:H a=some (.dK kvs)):TyOf K H (.ref a) (.type "dict")
 |dT {a:Addr} {kvs:List (List Key×V)} (e:H a=some (.dT kvs)):TyOf K H (.ref a) (.type "dict")
 |ins {a C dx:Addr} {fs:List (Str×V)} (e:H a=some (.ins C dx fs)) (cl:Cls K C) (ha:PySem.W.findIn K (.ref C) "__class__"=some (some (.builtin "object.__class__")))
  (hn:PySem.W.specialIn K (.builtin "object.__class__") "__get__"=some (some (.builtin "getset_descriptor.__get__"))) (htk:PySem.W.takesIn K (.builtin "object.__class__")=some true)
  (hm:PySem.W.mroIn K C (.type "object")=some true):TyOf K H (.ref a) (.ref C)
theorem Av{x:V}{u t:Value}(I:Inv X pins σ H s)(rx:RelV x u)(ty:TyOf X.K H x t)(e:PySem.W.kitOne X.K t c=some b)(h:∀tk,Q (.bool b) { s with toks:=tk }) :
 wpAny (model X.prog X.w) A (call (.builtin "isinstance") [u,c]) Q E s:=by
 cases ty with
 |non=>cases(show u=Value.none from rx);exact PySem.W.kia_one PySem.W.kitx_none I.kIn True.intro e (λz=>nomatch z) h
 |bl y=>cases(show u=Value.bool y from rx);exact PySem.W.kia_one PySem.W.kitx_bool I.kIn True.intro e (λz=>nomatch z) h
 |int i=>obtain⟨t,q⟩:=(show ∃t,u=Value.int i t from rx);cases q;exact PySem.W.kia_one PySem.W.kitx_int I.kIn True.intro e (λz=>nomatch z) h
 |str y=>obtain⟨t,q⟩:=(show ∃t,u=Value.str y t from rx);cases q;exact PySem.W.kia_one PySem.W.kitx_str I.kIn True.intro e (λz=>nomatch z) h
 |flt y=>obtain⟨t,q⟩:=(show ∃t,u=Value.float y t from rx);cases q;exact PySem.W.kia_one PySem.W.kitx_float I.kIn True.intro e (λz=>nomatch z) h
 | @lst a xs ea =>cases(show u=Value.ref a from rx);obtain⟨_,_,n,_,h1⟩:=(show ObjOk X.prog X.w H s.heap a (.lst xs)from I.hok a _ ea);exact PySem.W.kia_one PySem.W.kitx_list I.kIn ⟨_,h1,rfl⟩ e (λz=>nomatch z) h
 | @frz a ob xs ea =>cases(show u=Value.ref a from rx);obtain⟨_,_,_,n,_,h1⟩:=(show ObjOk X.prog X.w H s.heap a (.frz ob (.lst xs))from I.hok a _ ea);exact PySem.W.kia_one PySem.W.kitx_list I.kIn ⟨_,h1,rfl⟩ e (λz=>nomatch z) h
 | @tup a xs ea =>cases(show u=Value.ref a from rx);obtain⟨_,_,_,p⟩:=(show ObjOk X.prog X.w H s.heap a (.tup xs)from I.hok a _ ea);obtain⟨o,h1,h2,_⟩:=p;exact PySem.W.kia_one PySem.W.kitx_tuple I.kIn ⟨o,h1,h2⟩ e (λz=>nomatch z) h
 | @dK a kvs ea =>cases(show u=Value.ref a from rx);obtain⟨_,_,vs,_,p⟩:=(show ObjOk X.prog X.w H s.heap a (.dK kvs)from I.hok a _ ea);obtain⟨o,es,ep,h1,h2,_⟩:=p;exact PySem.W.kia_one PySem.W.kitx_dict I.kIn ⟨o,h1,h2.1⟩ e (λz=>nomatch z) h
 | @dT a kvs ea =>cases(show u=Value.ref a from rx);obtain⟨_,_,xs,_,o,es,ep,h1,h2,_⟩:=(show ObjOk X.prog X.w H s.heap a (.dT kvs)from I.hok a _ ea);exact PySem.W.kia_one PySem.W.kitx_dict I.kIn ⟨o,h1,h2.1⟩ e (λz=>nomatch z) h
 | @ins a C dx fs ea cl ha hn htk hm =>cases(show u=Value.ref a from rx);obtain⟨mA,O,_⟩:=lU I.hok ea;obtain⟨od,J,_⟩:=O.look;exact PySem.W.kia_one (PySem.W.kitx_own (cl.get _) cl.hd ha hn htk hm) I.kIn J e (λz=>nomatch z) h
end
structure Room(k:Nat)(A:Around):Prop where
 hd:A.handled=none
 dp:A.depth+3*k+5<recursionLimit
 un:A.units+16*k+200<cLine
theorem Room.mono{j k:Nat}{A:Around}(r:Room k A)(h:j<=k:=by decide):Room j A:=⟨r.hd,by have:=r.dp;omega,by have:=r.un;omega⟩
theorem Room.deeper{k:Nat}{A:Around}(r:Room (k+1) A)(env:Env):Room k (A.deeper env) :=
 ⟨r.hd,by have:=r.dp;show A.depth+1+3*k+5<_;omega,by have:=r.un;show A.units+3+16*k+200<_;omega⟩
theorem Room.in1{k:Nat}{A:Around}(r:Room (k+1) A):Room k A.in1 :=
 ⟨r.hd,by have:=r.dp;show A.depth+3*k+5<_;omega,by have:=r.un;show A.units+1+16*k+200<_;omega⟩
theorem y9{A:Around}{C:Addr}{us:List Value}{kw:List (Str×Value)}:(A.under (.builtin "type.__call__" ⟨.ref C::us,kw⟩)).depth=A.depth+1:=by first |rfl |simp[Around.under,Code.weight,Code.isCreation,Code.isGuard,Code.isCaller,Code.frames,Code.isFrame,guardIds]
theorem y7{A:Around}{C:Addr}{us:List Value}{kw:List (Str×Value)}:(A.under (.builtin "type.__call__" ⟨.ref C::us,kw⟩)).units=A.units+1:=by first |rfl |simp[Around.under,Code.cUnits,Code.frames,Code.isFrame]
theorem Room.make{k:Nat}{A:Around}(r:Room (k+1) A)(C:Addr)(us:List Value)(kw:List (Str×Value)):Room k (A.under (.builtin "type.__call__" ⟨.ref C::us,kw⟩)) :=
 ⟨r.hd,by have:=r.dp;rw[y9];omega,by have:=r.un;rw[y7];omega⟩
theorem Room.depth{k:Nat}{A:Around}(r:Room k A):A.depth<recursionLimit:=by have:=r.dp;omega
theorem Room.units{k:Nat}{A:Around}(r:Room k A):A.units+64<cLine:=by have:=r.un;omega
def fZ:TA:=λ_ H Q=>Q [] H
def fz(ta:TE)(tr:TA):TA:=λσ H Q=>ta σ H λx H1=>tr σ H1 λxs H2=>Q (x::xs) H2
section
variable {X:Cx}{e:Expr}{es:List Expr}{te:TE}{t:TA}{pos:Pos}
theorem ad:PA X [] fZ:=λ_ _ _ _ H Q I h=>Calls.spliced_nil ⟨[],H,I,.nil,h⟩
theorem aa(ha:PE X e te)(hr:PA X es t)(hs:starEach (e::es) X.env=(false,eval e X.env)::starEach es X.env:=by rfl):PA X (e::es) (fz te t):=by intro pos pins s σ H Q I h;rw[hs];show wpAny _ _ (spliced ((false,eval e X.env)::backTo pos (starEach es X.env))) _ _ s;refine Calls.spliced_cons (thn (ha pins s σ H _ I h) λu s1 ⟨x,H1,I1,r1,q1⟩=>?_);exact thn (hr pos pins s1 σ H1 _ I1 q1) λus s2 ⟨xs,H2,I2,r2,q2⟩=>⟨x::xs,H2,I2,.cons r1 r2,q2⟩
def qC(t:TA):TE:=λσ H Q=>t σ H λxs H1=>xs.length<=sizeLine/\∀p,H1 p=none->Q (.ref p) (upd H1 p (.tup xs))
def mD(t:TA):TE:=λσ H Q=>t σ H λxs H1=>xs.length<=sizeLine/\∀p,H1 p=none->Q (.ref p) (upd H1 p (.lst xs))
theorem bj{x1}(h:PA X es t):PE X (.Tuple es x1 pos) (qC t):=by intro pins s σ H Q I hq;refine wpAny_Tuple_spliced (thn (h pos pins s σ H _ I hq) λus s1 ⟨xs,H1,I1,r,z,q⟩=>⟨by rw[<- r.length];exact z,?_⟩);have hf:H1 s1.heap.objs.size=none:=I1.hok.fresh (EO _);refine⟨.ref s1.heap.objs.size,upd H1 s1.heap.objs.size (.tup xs),I1.laid (t':=s1.toks) (λb u e=>Heap.get?_push_of_some _ e) (EO _) ?_,rfl,q _ hf⟩;exact⟨z,us,r,⟨_,Heap.get?_push_size _ rfl,rfl,_,rfl⟩⟩
theorem bf(h:PA X es t):PE X (.List es pos) (mD t):=by intro pins s σ H Q I hq;refine wpAny_List_spliced (thn (h pos pins s σ H _ I hq) λus s1 ⟨xs,H1,I1,r,z,q⟩=>⟨by rw[<- r.length];exact z,?_⟩);have hf:H1 s1.heap.objs.size=none:=I1.hok.fresh (EO _);refine⟨.ref s1.heap.objs.size,upd H1 s1.heap.objs.size (.lst xs),I1.laid (t':=s1.toks) (λb u e=>Heap.get?_push_of_some _ e) (EO _) ?_,rfl,q _ hf⟩;exact⟨z,us,0,r,Heap.get?_push_size _ rfl⟩
end
abbrev Sp:=List V->Hp->VK->XK->Prop
abbrev CXT:=List Env->Hp->Shared->XK->Value->Shared->Prop
structure Env0(P:Program)(w:World)(K:PySem.W.Frag)(mg:Str->Option Value)(base:Heap)(A:Around)(outer:List Env)(s:Shared)(H:Hp):Prop where
 frames:A.frames=some outer
 mod:Mod K mg base
 bs:∀b o,base.get? b=some o->s.heap.get? b=some o/\H b=none
 bsz:base.objs.size<=s.heap.objs.size
 funs:s.heap.FunFrames base outer
 frf:∀b∈frs outer,H b=none
 hok:HOk P w H s.heap
 bare:AllBare s.gens
noncomputable def CE(outer:List Env)(P:Program)(w:World)(H:Hp)(s:Shared)(Q:VK)(u:Value)(s':Shared):Prop :=
 ∃v H',s'.os=s.os/\AllBare s'.gens/\Un (frs outer) [] H H' s.heap s'.heap/\HOk P w H' s'.heap/\RelV v u/\Q v H'
noncomputable def CR(CX:CXT)(outer:List Env)(P:Program)(w:World)(H:Hp)(s:Shared)(Q:VK)(E:XK)(r:Result)(s':Shared):Prop :=
 match r with
 |.ok (.ret u)=>CE outer P w H s Q u s'
 |.ok _=>False
 |.error e=>CX outer H s E e s'
structure FnOk(P:Program)(w:World)(K:PySem.W.Frag)(mg:Str->Option Value)(base:Heap)(CX:CXT)(k:Nat)(f:Addr)(fd:FuncData)(ps:List Str)(sp:Sp):Prop where
 len:∀vs H Q E,sp vs H Q E->vs.length=ps.length
 run:∀(A:Around) (outer:List Env) (s:Shared) (H:Hp) (args:Args) (us:List Value) (vs:List V) (Q:VK) (E:XK),Room k A->Env0 P w K mg base A outer s H->BindsTo s fd args (ps.zip us)->Vals vs us->sp vs H Q E ->
  codeAny (model P w) A (.call (.ref f) args) (CR CX outer P w H s Q E) s
theorem FnOk.mono{P:Program}{w:World}{K:PySem.W.Frag}{mg:Str->Option Value}{base:Heap}{CX:CXT}{j k:Nat}{f:Addr}{fd:FuncData}{ps:List Str}{sp:Sp}(F:FnOk P w K mg base CX j f fd ps sp)(h:j<=k:=by decide) :
 FnOk P w K mg base CX k f fd ps sp:=⟨F.len,λA outer s H args us vs Q E hr=>F.run A outer s H args us vs Q E (hr.mono h)⟩
theorem Env0.make{P:Program}{w:World}{K:PySem.W.Frag}{mg:Str->Option Value}{base:Heap}{A:Around}{outer:List Env}{s:Shared}{H:Hp}(e:Env0 P w K mg base A outer s H)(C:Addr)(us:List Value)(kw:List (Str×Value)) :
 Env0 P w K mg base (A.under (.builtin "type.__call__" ⟨.ref C::us,kw⟩)) outer s H:=⟨by first |exact e.frames | (simpa[Around.under,Code.envs,Code.isFrame,pushEnvs]using e.frames),e.mod,e.bs,e.bsz,e.funs,e.frf,e.hok,e.bare⟩
section
variable {X:Cx}{pins:List (Addr×Obj)}{σ:St}{H:Hp}{s s':Shared}
theorem Inv.env0(I:Inv X pins σ H s):Env0 X.prog X.w X.K X.mg X.base X.A X.stack s H :=
 ⟨I.ok.frames,I.ok.mod,I.bs,ES I.ok.bsz I.sz,I.stack,I.stkFree,I.hok,I.bare⟩
theorem Inv.after{Q:VK}{u:Value}(I:Inv X pins σ H s)(h:CE X.stack X.prog X.w H s Q u s'):EP X pins σ Q u s':=by obtain⟨v,H',os,bare,un,hok,r,q⟩:=h;obtain⟨hh,g,d,t,os'⟩:=s';obtain rfl:os'=s.os:=os;exact⟨v,H',I.call (h':=hh) (g':=g) (d':=d) (t':=t) (ch:=[]) un hok bare (λb z=>absurd z (by simp)),r,q⟩
end
def vB(sp:Sp)(dvs:List V)(E:XK)(t:TA):TE:=λσ H Q=>t σ H λvs H1=>sp (vs++dvs) H1 Q E
def qH(C:Addr)(m:Str)(sp:Sp)(dvs:List V)(E:XK)(ta:TE)(t:TA):TE:=λσ H Q=>ta σ H λx H1=>∃a dx fs,x=.ref a/\H1 a=some (.ins C dx fs)/\fs.lookup m=none /\
 t σ H1 λvs H2=>sp (x::(vs++dvs)) H2 Q E
def vy(C:Addr)(sp:Sp)(dvs:List V)(E:XK)(t:TA):TE:=λσ H Q=>t σ H λvs H1=>∀x dx,H1 x=none->H1 dx=none->dx≠x ->
 sp (.ref x::(vs++dvs)) (upd (upd H1 dx (.own x)) x (.ins C dx [])) (λv H2=>v=.non/\Q (.ref x) H2) E
noncomputable def Binds(K:PySem.W.Frag)(fd:FuncData)(ps:List Str)(ds:List Value):Prop :=
 ∀(s:Shared) (us:List Value),K.In s.heap->(us++ds).length=ps.length->BindsTo s fd ⟨us,[]⟩ (ps.zip (us++ds))
theorem Binds.all{K:PySem.W.Frag}{fd:FuncData}{ps:List Str}(h:∀us:List Value,us.length=ps.length->bindArgs fd ⟨us,[]⟩=pure (ps.zip us)):Binds K fd ps []:=λs us _ hl=>by rw[Ff]at hl ⊢;exact .of_eq (h us hl)
def ey(CX:CXT)(X:Cx)(E:XK):Prop:=∀(pins:List (Addr×Obj)) (σ:St) (H:Hp) (s:Shared) (e:Value) (s':Shared),Inv X pins σ H s->CX X.stack H s E e s'->X.xe e s'
section
variable {X:Cx}{CX:CXT}{k:Nat}{f C:Addr}{fd:FuncData}{ps:List Str}{sp:Sp}{dvs:List V}{ds:List Value}{E:XK}{x m:Str}{p pos apos:Pos}{e o:Expr}{es:List Expr}{ta:TE}{t:TA}
theorem nh{pins:List (Addr×Obj)}{σ:St}{H:Hp}{s:Shared}{Q:VK}{us:List Value}{vs:List V}(F:FnOk X.prog X.w X.K X.mg X.base CX k f fd ps sp)(hr:Room k X.A)(hb:Binds X.K fd ps ds)(hd:Vals dvs ds)(hx:ey CX X E)
 (I:Inv X pins σ H s) (r:Vals vs us) (h:sp (vs++dvs) H Q E):wpAny (model X.prog X.w) X.A (call (.ref f) us) (EP X pins σ Q) X.xe s:=by
 have r2:Vals (vs++dvs) (us++ds):=r.append hd;have hl:(us++ds).length=ps.length:=by rw[<- r2.length];exact F.len _ _ _ _ h
 refine wpAny_call (codeAny_mono (F.run X.A X.stack s H ⟨us,[]⟩ (us++ds) (vs++dvs) Q E hr I.env0 (hb s us I.kIn hl) r2 h) λr s' hq=>?_);cases r with
 |error e=>exact hx pins σ H s e s' I hq
 |ok fl =>
  cases fl with
  |ret u=>exact I.after hq
  |next=>exact False.elim hq
  |brk=>exact False.elim hq
  |cont=>exact False.elim hq
theorem aq(F:FnOk X.prog X.w X.K X.mg X.base CX k f fd ps sp)(hr:Room k X.A)(hg:Gl X x)(hm:X.mg x=some (.ref f))(hk:PySem.W.keepIn X.K (.ref f)=true)(hb:Binds X.K fd ps ds)(hd:Vals dvs ds)(hx:ey CX X E)
 (ha:PA X (e::es) t) (hdb:(x == ("__debug__":Str))=false:=by decide) (he:starEach (e::es) X.env=(false,eval e X.env)::starEach es X.env:=by rfl) (hpl:(backTo pos (starEach es X.env)).any (·.1)=false:=by rfl) :
 PE X (.Call (.Name x p) (e::es) [] pos) (vB sp dvs E t):=by
 intro pins s σ H Q I h;refine wpAny_Call_Name_kw (lO I hg hm ?_ hdb);refine PySem.W.callWith_K (h₀:=X.base) I.ok.mod.kin hk (thn (ha pos pins s σ H _ I h) λus s1 ⟨vs,H1,I1,r,q⟩=>⟨I1.kIn,?_⟩) he hpl;exact nh F hr hb hd hx I1 r q
theorem cp{pl:Sem Bool}(he:PE X o ta)(c:Cls X.K C)(hm:Meth X.K C m f)(F:FnOk X.prog X.w X.K X.mg X.base CX k f fd ps sp)(hr:Room k X.A)(hb:Binds X.K fd ps ds)(hd:Vals dvs ds)(hx:ey CX X E)(ha:PA X (e::es) t)
 (hst:starEach (e::es) X.env=(false,eval e X.env)::starEach es X.env:=by rfl) (hpl:(backTo pos (starEach es X.env)).any (·.1)=false:=by rfl)
 (ht:eval (.Call (.Attribute o m apos) (e::es) [] pos) X.env=(do
   let ov <- eval o X.env
   standAt apos.atName
   let(f,first) <- holding [ov] (getMethod ov m pl)
   callWith pos f first (backTo pos (starEach (e::es) X.env)) (backToKw pos (keywordEach [] X.env))):=by rfl) :
 PE X (.Call (.Attribute o m apos) (e::es) [] pos) (qH C m sp dvs E ta t):=by
 intro pins s σ H Q I h;refine PySem.W.methodCall_KW (pl:=pl) (thn (he pins s σ H _ I h) λu s1 ⟨x,H1,I1,rx,a,dx,fs,ex,ea,l,q⟩=>?_) ht;subst ex;obtain rfl:u=Value.ref a:=rx;refine tP I1 ea c hm l ?_;refine PySem.W.callWith_K (first:=[.ref a]) (h₀:=X.base) I.ok.mod.kin hm.kp (thn (ha pos pins s1 σ H1 _ I1 q) λus s2 ⟨vs,H2,I2,r,q2⟩=>⟨I2.kIn,?_⟩) hst hpl;exact nh (us:=.ref a::us) (vs:=.ref a::vs) F hr hb hd hx I2 (.cons rfl r) q2
theorem ba{pl:Sem Bool}(he:PE X o ta)(c:Cls X.K C)(hm:Meth X.K C m f)(F:FnOk X.prog X.w X.K X.mg X.base CX k f fd ps sp)(hr:Room k X.A)(hb:Binds X.K fd ps ds)(hd:Vals dvs ds)(hx:ey CX X E)
 (ht:eval (.Call (.Attribute o m apos) [] [] pos) X.env=(do
   let ov <- eval o X.env
   standAt apos.atName
   let(f,first) <- holding [ov] (getMethod ov m pl)
   callWith pos f first (backTo pos (starEach [] X.env)) (backToKw pos (keywordEach [] X.env))):=by rfl) :
 PE X (.Call (.Attribute o m apos) [] [] pos) (qH C m sp dvs E ta fZ):=by
 intro pins s σ H Q I h;refine PySem.W.methodCall_KW (pl:=pl) (thn (he pins s σ H _ I h) λu s1 ⟨x,H1,I1,rx,a,dx,fs,ex,ea,l,q⟩=>?_) ht;subst ex;obtain rfl:u=Value.ref a:=rx;refine tP I1 ea c hm l ?_;exact PySem.W.callWith_K0 (first:=[.ref a]) I1.kIn hm.kp (nh (us:=[.ref a]) (vs:=[.ref a]) F hr hb hd hx I1 (.cons rfl .nil) q)
structure Mk(K:PySem.W.Frag)(C f:Addr):Prop where
 makes:PySem.W.makesIn K C=true
 init:PySem.W.findIn K (.ref C) "__init__"=some (some (.ref f))
 fn:PySem.W.isFn K (.ref f)=true
 kp:PySem.W.keepIn K (.ref C)=true
theorem wv{pins:List (Addr×Obj)}{σ:St}{H:Hp}{s:Shared}{Q:VK}{us:List Value}{vs:List V}(M:Mk X.K C f)(F:FnOk X.prog X.w X.K X.mg X.base CX k f fd ps sp)(hr:Room (k+1) X.A)(hb:Binds X.K fd ps ds)(hd:Vals dvs ds)
 (hx:ey CX X E) (I:Inv X pins σ H s) (r:Vals vs us)
 (h:∀x dx,H x=none->H dx=none->dx≠x->sp (.ref x::(vs++dvs)) (upd (upd H dx (.own x)) x (.ins C dx [])) (λv H2=>v=.non/\Q (.ref x) H2) E) :
 wpAny (model X.prog X.w) X.A (call (.ref C) us) (EP X pins σ Q) X.xe s:=by
 have hq:=h (s.heap.objs.size+1) s.heap.objs.size (I.hok.fresh (Nat.le_succ _)) (I.hok.fresh (EO _)) (E3 (FA _));have I2:=Inv.made (C:=C) I;have r2:Vals (V.ref (s.heap.objs.size+1)::(vs++dvs)) (Value.ref (s.heap.objs.size+1)::(us++ds)):=.cons rfl (r.append hd)
 have hl:(Value.ref (s.heap.objs.size+1)::us++ds).length=ps.length:=by have e:=r2.length;rw[F.len _ _ _ _ hq]at e;exact e.symm
 refine wpAny_call (y8 (f:=f) I.kIn M.makes M.init (beq_iff_eq.mp M.fn) (codeAny_mono (F.run _ X.stack _ _ ⟨Value.ref (s.heap.objs.size+1)::us,[]⟩ (Value.ref (s.heap.objs.size+1)::(us++ds)) _ _ E (hr.make C us [])
  (I2.env0.make C us []) (hb _ (Value.ref (s.heap.objs.size+1)::us) I2.kIn hl) r2 hq) λr s' hq'=>?_))
 cases r with
 |error e=>exact hx pins σ _ _ e s' I2 hq'
 |ok fl =>
  cases fl with
  |ret u =>obtain⟨v,H',I3,rv,ev,q3⟩:=I2.after hq';subst ev;exact⟨rv,⟨V.ref (s.heap.objs.size+1),H',I3,rfl,q3⟩⟩
  |next=>exact False.elim hq'
  |brk=>exact False.elim hq'
  |cont=>exact False.elim hq'
theorem cE(M:Mk X.K C f)(F:FnOk X.prog X.w X.K X.mg X.base CX k f fd ps sp)(hr:Room (k+1) X.A)(hg:Gl X x)(hm:X.mg x=some (.ref C))(hb:Binds X.K fd ps ds)(hd:Vals dvs ds)(hx:ey CX X E)
 (ha:PA X (e::es) t) (hdb:(x == ("__debug__":Str))=false:=by decide) (he:starEach (e::es) X.env=(false,eval e X.env)::starEach es X.env:=by rfl) (hpl:(backTo pos (starEach es X.env)).any (·.1)=false:=by rfl) :
 PE X (.Call (.Name x p) (e::es) [] pos) (vy C sp dvs E t):=by
 intro pins s σ H Q I h;refine wpAny_Call_Name_kw (lO I hg hm ?_ hdb);refine PySem.W.callWith_K (h₀:=X.base) I.ok.mod.kin M.kp (thn (ha pos pins s σ H _ I h) λus s1 ⟨vs,H1,I1,r,q⟩=>⟨I1.kIn,?_⟩) he hpl;exact wv M F hr hb hd hx I1 r q
end
section
variable {X:Cx}{CX:CXT}{k:Nat}{f C:Addr}{fd:FuncData}{ps ks:List Str}{sp:Sp}{E:XK}{x m:Str}{p pos apos kpos:Pos}{e o:Expr}{es:List Expr}{kws:List Keyword}{te ta:TE}{t tk:TA}{nm:Option Str}
variable {g:List Value->List Value->List Value}{gV:List V->List V->List V}
end
structure FnScope(N P:List Str)(sc:Scope):Prop where
 kind:sc.kind=.function
 co:sc.isCoroutine=false
 gen:sc.isGenerator=false
 nd:N.Nodup
 pre:N.take P.length=P
 par:∀x∈P,sc.names.lookup x=some .local\/sc.names.lookup x=some .cell
 nofree:∀y∈sc.names,y.2≠.free
theorem ut{kindOf:Str->Option NameKind}{x:Str}:∀{binds:List (Str×Value)} {m:Str->Option Value},(∀v,(x,v)∉binds)->bindL kindOf binds m x=m x
 | [],_,_=>rfl
 | (n,v)::r,m,h=>by
  unfold bindL;rw[ut λw hw=>h w (Fo _ hw)];split
  ·have:x≠n:=by rintro rfl;exact h v FJ
   simp[this]
  ·rfl
theorem uv{kindOf:Str->Option NameKind}{x:Str}:∀{binds:List (Str×Value)} {m:Str->Option Value},(∀v,(x,v)∉binds)->bindC kindOf binds m x=m x
 | [],_,_=>rfl
 | (n,v)::r,m,h=>by
  unfold bindC;rw[uv λw hw=>h w (Fo _ hw)];split
  ·rfl
  ·have:x≠n:=by rintro rfl;exact h v FJ
   simp[this]
theorem uu{kindOf:Str->Option NameKind}{x:Str}{v:Value}:∀{P:List Str} {vs:List Value} {i:Nat} {m:Str->Option Value},P.Nodup->P[i]?=some x->vs[i]?=some v->kindOf x=some .local ->
 bindL kindOf (P.zip vs) m x=some v
 | [],_,_,_,_,h,_,_=>by simp at h
 |_::_,[],_,_,_,_,h,_=>by simp at h
 |p::P,w::vs,0,m,nd,h1,h2,hk=>by
  simp at h1 h2;subst h1;subst h2
  show bindL kindOf ((p,w)::P.zip vs) m p=_;unfold bindL;rw[ut λv hv=>(List.nodup_cons.mp nd).1 (List.of_mem_zip hv).1,if_pos hk];simp
 |p::P,w::vs,i+1,m,nd,h1,h2,hk=>by show bindL kindOf ((p,w)::P.zip vs) m x=_;unfold bindL;exact uu (i:=i) (List.nodup_cons.mp nd).2 (by simpa using h1) (by simpa using h2) hk
theorem uw{kindOf:Str->Option NameKind}{x:Str}{v:Value}:∀{P:List Str} {vs:List Value} {i:Nat} {m:Str->Option Value},P.Nodup->P[i]?=some x->vs[i]?=some v->kindOf x≠some .local ->
 bindC kindOf (P.zip vs) m x=some v
 | [],_,_,_,_,h,_,_=>by simp at h
 |_::_,[],_,_,_,_,h,_=>by simp at h
 |p::P,w::vs,0,m,nd,h1,h2,hk=>by
  simp at h1 h2;subst h1;subst h2
  show bindC kindOf ((p,w)::P.zip vs) m p=_;unfold bindC;rw[uv λv hv=>(List.nodup_cons.mp nd).1 (List.of_mem_zip hv).1,if_neg hk];simp
 |p::P,w::vs,i+1,m,nd,h1,h2,hk=>by show bindC kindOf ((p,w)::P.zip vs) m x=_;unfold bindC;exact uw (i:=i) (List.nodup_cons.mp nd).2 (by simpa using h1) (by simpa using h2) hk
noncomputable def cY(N:List Str)(vs:List V):St:=vs.map some++List.replicate (N.length-vs.length) none
noncomputable def bn(CX:CXT)(P:Program)(w:World)(K:PySem.W.Frag)(mg:Str->Option Value)(base:Heap)(N:List Str)(qual:Str)(scope:Scope)(f:Addr)(cd:Value)(A:Around)(outer:List Env)(s:Shared)(H:Hp)(E:XK):Cx where
 prog:=P
 w:=w
 K:=K
 mg:=mg
 base:=base
 A:=A.deeper (envOfC qual scope s.heap.objs.size f cd)
 N:=N
 s₀:=s
 H₀:=H
 env:=envOfC qual scope s.heap.objs.size f cd
 outer:=outer
 stack:=envOfC qual scope s.heap.objs.size f cd::outer
 ex:=[]
 calm:=true
 fn:=λ_=>true
 pn:=[]
 xe:=λe s'=>wpAny (model P w) (A.deeper (envOfC qual scope s.heap.objs.size f cd)) (leaving (envOfC qual scope s.heap.objs.size f cd) e) (λ_ s''=>CX outer H s E e s'') (λe' s''=>CX outer H s E e' s'') s'
theorem uo{sc:Scope}{n:Nat}{x:Str}(h:sc.names.lookup x=some .cell):∃c,(cellsFrom n sc.names []).lookup x=some c:=by have q:=PySem.W.cellsFrom_some sc.names n [] (.inl h);exact Option.isSome_iff_exists.mp q
theorem AC{CX:CXT}{P:Program}{w:World}{K:PySem.W.Frag}{mg:Str->Option Value}{base:Heap}{N ps:List Str}{qual:Str}{scope:Scope}{f:Addr}{cd:Value}{A:Around}{outer:List Env}{s s1:Shared}{H:Hp}{E:XK}{us:List Value}{vs:List V}
 (S:FnScope N ps scope) (hd:A.handled=none) (e0:Env0 P w K mg base A outer s H) (hl:vs.length=ps.length) (r:Vals vs us)
 (x:InCallC s s.heap.objs.size (bindL (envOfC qual scope s.heap.objs.size f cd).kindOf (ps.zip us) λ_=>none) (cellsFrom (s.heap.objs.size+1) scope.names []) (bindC (envOfC qual scope s.heap.objs.size f cd).kindOf (ps.zip us) λ_=>none) s1) :
 Inv (bn CX P w K mg base N qual scope f cd A outer s H E) [] (cY N vs) H s1:=by
 have hpl:ps.length<=N.length:=by have:=congrArg List.length S.pre;rw[Fq]at this;omega
 obtain⟨h1,tk,rfl,hk⟩:=x.done;have noA:∀b:Addr,b∉(bn CX P w K mg base N qual scope f cd A outer s H E).ex:=λb z=>absurd (show b∈([]:List Addr)from z) (by simp)
 refine⟨⟨e0.mod,S.kind,rfl,rfl,EO _,λy z c h1 h2=>?_,λy hy=>?_,λy c _ h=>?_,λ_=>hd,Around.frames_deeper e0.frames,.inr ⟨rfl,rfl⟩,λb z=>absurd z (noA b),e0.bs,e0.bsz,λb _ _=>noA b,λb z=>absurd z (noA b),e0.funs,e0.frf⟩,
  rfl,e0.bare,Un.kept hk,⟨_,x.toInCall.ns,λi y v h1 h2 h3=>?_⟩,λy c h=>⟨_,x.cell y c h⟩,e0.hok.fresh (EO _),λy c h=>?_,λp hp=>absurd (show p∈([]:List (Addr×Obj))from hp) (by simp),e0.hok.kept hk,?_⟩
 ·exact name_of_addr x.apart (PySem.mem_of_lookup h1) (PySem.mem_of_lookup h2)
 ·have hy:scope.names.lookup y=some .cell\/scope.names.lookup y=some .free:=hy;rcases hy with hy |hy
  ·exact uo hy
  ·exact absurd rfl (S.nofree _ (PySem.mem_of_lookup hy))
 ·exact Nat.le_of_lt (x.above y c (PySem.mem_of_lookup h))
 ·have hi:i<vs.length:=by
   unfold cY at h2
   by_cases hi:i<vs.length
   ·exact hi
   ·rw[List.getElem?_append_right (by simpa using hi)]at h2;rw[List.getElem?_replicate]at h2;split at h2<;>cases h2
  have ha:vs[i]?=some v:=by
   unfold cY at h2
   rw[List.getElem?_append_left (by simpa using hi),List.getElem?_map]at h2;cases e:vs[i]? with
   |none=>rw[e]at h2;cases h2
   |some a=>rw[e]at h2;cases h2;rfl
  obtain⟨u,hu,rv⟩:=r.get ha
  have hp:ps[i]?=some y:=by rw[<- S.pre,List.getElem?_take_of_lt (by omega)];exact h1
  have ndP:ps.Nodup:=by rw[<- S.pre];exact S.nd.sublist (List.take_sublist _ _)
  refine⟨u,rv,?_⟩;rcases S.par y (List.mem_of_getElem? hp)with k |k
  ·exact .inl ⟨k,uu ndP hp hu k⟩
  ·obtain⟨c,e⟩:=uo (n:=s.heap.objs.size+1) k;refine .inr ⟨.inl k,c,e,?_⟩;have q:=x.cell y c e;rw[uw ndP hp hu (by show scope.names.lookup y≠_;rw[k];decide)]at q;exact q
 ·exact e0.hok.fresh (Nat.le_of_lt (x.above y c (PySem.mem_of_lookup h)))
 ·unfold cY;show _=N.length;rw[ER,EN,E8];omega
theorem lZ{CX:CXT}{P:Program}{w:World}{K:PySem.W.Frag}{mg:Str->Option Value}{base:Heap}{k:Nat}{f:Addr}{name qual:Str}{params:Arguments}{body:List Stmt}{scope:Scope}{dV kV doc pm cdv ct oc:Value}{an od:Option Addr}
 {osl:Array (Option Value)} {N ps:List Str} {sp:Sp} (lk:K.lookup f=some ⟨oc,od,.func (PySem.W.fnOf name qual params body scope dV kV doc pm an cdv ct),osl⟩) (hcd:PySem.W.codeIn K cdv qual=true) (S:FnScope N ps scope)
 (len:∀vs H Q E,sp vs H Q E->vs.length=ps.length)
 (hbody:∀(A:Around) (outer:List Env) (s:Shared) (H:Hp) (vs:List V) (Q:VK) (E:XK),Room k (A.deeper (envOfC qual scope s.heap.objs.size f cdv))->sp vs H Q E ->
   ∃t,PSs (bn CX P w K mg base N qual scope f cdv A outer s H E) body t/\t { nx:=λ_ H'=>Q .non H',rt:=Q } (cY N vs) H) :
 FnOk P w K mg base CX (k+1) f (PySem.W.fnOf name qual params body scope dV kV doc pm an cdv ct) ps sp:=by
 refine⟨len,λA outer s H args us vs Q E hr e0 hb r hsp=>?_⟩;have hl:=len _ _ _ _ hsp;have KX:K.In s.heap:=e0.mod.kin.keeps λb o e=>(e0.bs b o e).1
 have lim:s.heap.NoLimit:=e0.mod.nolimit.keeps λb o e=>(e0.bs b o e).1
 have hkind:∀y∈ps.zip us,scope.names.lookup y.1=some .local\/(scope.names.lookup y.1=some .cell/\((cellsFrom (s.heap.objs.size+1) scope.names []).lookup y.1).isSome=true):=λ⟨n,v⟩ hy=>by
  rcases S.par n (List.of_mem_zip hy).1 with q |q
  ·exact .inl q
  ·exact .inr ⟨q,PySem.W.cellsFrom_some _ _ _ (.inl q)⟩
 refine codeAny_call_function hr.depth (KX _ _ lk) rfl S.co S.gen rfl (PySem.W.codeRec_of KX hcd) (hb _ _ _ _ ?_);refine wpAny_newFunctionEnv_cells S.kind hkind λenv he s1 x=>?_
 subst he;refine⟨lim.keeps x.toInCall.keep,codeAny_func ?_⟩;obtain⟨t,ht,hq⟩:=hbody A outer s H vs Q E (hr.deeper _) hsp;have I:Inv (bn CX P w K mg base N qual scope f cdv A outer s H E) [] (cY N vs) H s1:=AC S hr.hd e0 hl r x;refine wpAny_mono (ht [] s1 (cY N vs) H _ I hq) (λfl s' hs=>?_) λe s' hs=>hs
 have fin:∀{σ':St} {H':Hp} {v:V} {u:Value},Inv (bn CX P w K mg base N qual scope f cdv A outer s H E) [] σ' H' s'->RelV v u->Q v H'->CE outer P w H s Q u s' :=
  λ{σ' H' v u} J rv q=>⟨v,H',J.os,J.bare,J.base,J.hok,rv,q⟩
 cases fl with
 |ret u =>obtain⟨v,σ',H',J,rv,q⟩:=hs;exact fin J rv q
 |next =>obtain⟨σ',H',J,q⟩:=hs;exact fin (v:=V.non) (u:=Value.none) J rfl q
 |brk =>obtain⟨_,_,_,q⟩:=hs;exact False.elim q
 |cont =>obtain⟨_,_,_,q⟩:=hs;exact False.elim q
section
variable {X:Cx}{x:Str}{p pos:Pos}{e:Expr}{es:List Expr}{t:TA}{id T:String}{r:List V->Hp->VK->Prop}
def tCB(r:List V->Hp->VK->Prop)(t:TA):TE:=λσ H Q=>t σ H λvs H1=>r vs H1 Q
theorem aO(hc:cy X (.builtin id) r)(hg:Gl X x)(hm:X.mg x=none)(hv:bootBuiltins x=some (.builtin id))(ha:PA X (e::es) t)(hn:x≠"__name__":=by decide)(hdb:(x == ("__debug__":Str))=false:=by decide)
 (he:starEach (e::es) X.env=(false,eval e X.env)::starEach es X.env:=by rfl) (hpl:(backTo pos (starEach es X.env)).any (·.1)=false:=by rfl):PE X (.Call (.Name x p) (e::es) [] pos) (tCB r t):=by
 intro pins s σ H Q I h;refine wpAny_Call_Name_kw (ju I hg hm hv ?_ hn hdb);exact PyProof.Rows.callWith_builtin1 (thn (ha pos pins s σ H _ I h) λus s1 ⟨vs,H1,I1,r1,q1⟩=>hc pins s1 σ H1 vs us Q I1 r1 q1) he hpl
theorem cv(hc:cy X (.type T) r)(hg:Gl X x)(hm:X.mg x=none)(hv:bootBuiltins x=some (.type T))(ha:PA X (e::es) t)(hn:x≠"__name__":=by decide)(hdb:(x == ("__debug__":Str))=false:=by decide)
 (he:starEach (e::es) X.env=(false,eval e X.env)::starEach es X.env:=by rfl) (hpl:(backTo pos (starEach es X.env)).any (·.1)=false:=by rfl):PE X (.Call (.Name x p) (e::es) [] pos) (tCB r t):=by
 intro pins s σ H Q I h;refine wpAny_Call_Name_kw (ju I hg hm hv ?_ hn hdb);exact PyProof.Rows.callWith_type1 (thn (ha pos pins s σ H _ I h) λus s1 ⟨vs,H1,I1,r1,q1⟩=>hc pins s1 σ H1 vs us Q I1 r1 q1) he hpl
end
end L2
namespace HT
open PySem PyProof.Rows
section
open PySem.SeqAt
open PySem.AutoSeq1 (wpAny_loadPart')
open PySem.MeetsSeq PySem.MeetsSeq2 PySem.MeetsSeq3
end
section
variable {prog:Program}{w:World}{A:Around}{E:Value->Shared->Prop}{s:Shared}
noncomputable def sIx(n d:Nat):Option Int->Nat
 |none=>d
 |some v=>if v<0 then(v+(n:Int)).toNat else min v.toNat n
theorem sIx_none(n d:Nat):sIx n d none=d:=rfl
theorem sIx_nat(n d k:Nat):sIx n d (some (k:Int))=min k n:=by show(if(k:Int)<0 then((k:Int)+(n:Int)).toNat else min (k:Int).toNat n)=min k n;rw[if_neg (by omega),FC]
end
end HT
namespace L2
open PySem PySem.Spec PyProof.Rows
abbrev TO:=St->Hp->(Option Int->Hp->Prop)->Prop
noncomputable def PO(X:Cx)(e:Option Expr)(t:TO):Prop :=
 ∀(pins:List (Addr×Obj)) (s:Shared) (σ:St) (H:Hp) (Q:Option Int->Hp->Prop),Inv X pins σ H s->t σ H Q ->
  wpAny (model X.prog X.w) X.A (evalPart e X.env) (λu s'=>∃o H',Inv X pins σ H' s'/\IsPart u o/\Q o H') X.xe s
noncomputable def vw:TO:=λ_ H Q=>Q none H
noncomputable def vv(t:TE):TO:=λσ H Q=>t σ H λx H1=>∃i,x=.int i/\Q (some i) H1
theorem tE{ns:List Int}:∀{us:List Value},Vals (ns.map V.int) us->IntsAre us ns:=by
 induction ns with
 |nil=>intro us r;rw[List.map_nil]at r;cases r;exact .nil
 |cons n ns ih =>
  intro us r;rw[Fh]at r;cases r with
  |cons r1 r2 =>obtain⟨t,e⟩:=r1;subst e;exact .cons n t (ih r2)
section
variable {X:Cx}{e:Expr}{te:TE}{lo hi:Option Expr}{tl th:TO}{pos p2:Pos}
theorem rA:PO X none vw:=by intro pins s σ H Q I h;rw[evalPart_none];exact wpAny_pure ⟨none,H,I,.none,h⟩
theorem eQ(h:PE X e te):PO X (some e) (vv te):=by
 intro pins s σ H Q I hw;rw[evalPart_some];refine thn (h pins s σ H _ I hw) λu s1 ⟨x,H1,I1,r1,q1⟩=>?_
 obtain⟨i,rfl,q⟩:=q1;obtain⟨t,rfl⟩:=r1;exact⟨some i,H1,I1,.int i t,q⟩
noncomputable def SlR(X:Cx)(r:V->Option Int->Option Int->Hp->VK->Prop):Prop :=
 ∀(pins:List (Addr×Obj)) (s:Shared) (σ:St) (H:Hp) (x:V) (v vl vu:Value) (lo hi:Option Int) (sl:Addr) (Q:VK),Inv X pins σ H s->RelV x v->s.heap.IsSliceOf sl vl vu .none->IsPart vl lo->IsPart vu hi->r x lo hi H Q ->
  ∃T id,typeLookup (.type T) "__getitem__"=pure (some (.builtin id))/\s.TypeIs v T/\wpAny (model X.prog X.w) X.A (getItem v (.ref sl)) (EP X pins σ Q) X.xe s
def tSl(r:V->Option Int->Option Int->Hp->VK->Prop)(te:TE)(tl th:TO):TE:=λσ H Q=>te σ H λx H1=>tl σ H1 λl H2=>th σ H2 λu H3=>r x l u H3 Q
theorem je{r:V->Option Int->Option Int->Hp->VK->Prop}(hr:SlR X r)(he:PE X e te)(hl:PO X lo tl)(hu:PO X hi th):PE X (.Subscript e (.Slice lo hi none p2) pos) (tSl r te tl th):=by
 intro pins s σ H Q I h;refine Subscript_ (thn (he pins s σ H _ I h) λv s1 ⟨x,H1,I1,r1,q1⟩=>?_);refine wpAny_Slice (thn (hl pins s1 σ H1 _ I1 q1) λvl s2 ⟨l,H2,I2,pl,q2⟩=>thn (hu pins s2 σ H2 _ I2 q2) λvu s3 ⟨u,H3,I3,pu,q3⟩=>?_);rw[evalPart_none];refine wpAny_pure ?_;have I4:Inv X pins σ H3 { s3 with heap:=s3.heap.push { cls:=.type "slice",data:=.fields #[vl,vu,.none] } }:=I3.kept (t':=s3.toks) λb ob q=>Heap.get?_push_of_some _ q
 obtain⟨T,id,hT,ht,hg⟩:=hr pins { s3 with heap:=s3.heap.push { cls:=.type "slice",data:=.fields #[vl,vu,.none] } } σ H3 x v vl vu l u s3.heap.objs.size Q I4 r1 (Heap.IsSliceOf.new ..) pl pu q3;show wpAny (model X.prog X.w) X.A (subscriptTail e (.Slice lo hi none p2) v (.ref s3.heap.objs.size)) (EP X pins σ Q) X.xe { s3 with heap:=s3.heap.push { cls:=.type "slice",data:=.fields #[vl,vu,.none] } };exact tail_any (ops:=[.ref s3.heap.objs.size,v]) ht hT hg (by with_unfolding_all rfl)
noncomputable def cJ(xs:List V)(lo hi:Option Int):List V:=(xs.drop (HT.sIx xs.length 0 lo)).take (HT.sIx xs.length xs.length hi-HT.sIx xs.length 0 lo)
theorem uh(xs:List V)(lo hi:Option Int):(cJ xs lo hi).length<=xs.length:=by unfold cJ;rw[Fq,Fc];omega
end
noncomputable def ixN(n:Nat)(i:Int):Option Nat:=if 0<=i then(if i<n then some i.toNat else none)else if -(n:Int)<=i then some (i+n).toNat else none
noncomputable def atI{α:Type}(xs:List α)(i:Int):Option α:=(ixN xs.length i).bind λj=>xs[j]?
theorem tu{n:Nat}{i:Int}{j:Nat}(h:ixN n i=some j):seqIndex? i n=some j/\j<n /\ -(n:Int)<=i/\i<n:=by
 unfold ixN at h
 by_cases h0:0<=i
 ·rw[if_pos h0]at h;by_cases h1:i<n
  ·rw[if_pos h1]at h;have e:i.toNat=j:=Option.some.inj h;exact⟨by rw[seqIndex_of h0 h1,e],by omega,by omega,h1⟩
  ·rw[if_neg h1]at h;cases h
 ·rw[if_neg h0]at h;by_cases h1 : -(n:Int)<=i
  ·rw[if_pos h1]at h;have e:(i+n).toNat=j:=Option.some.inj h;exact⟨by rw[seqIndex_neg (by omega) h1,e],by omega,h1,by omega⟩
  ·rw[if_neg h1]at h;cases h
theorem pO{α:Type}{xs:List α}{i:Int}{v:α}(h:atI xs i=some v):∃j,seqIndex? i xs.length=some j/\xs[j]?=some v/\j<xs.length /\ -(xs.length:Int)<=i/\i<xs.length:=by
 unfold atI at h
 cases e:ixN xs.length i with
 |none=>rw[e]at h;cases h
 |some j =>rw[e]at h;obtain⟨h1,h2,h3,h4⟩:=tu e;exact⟨j,h1,h,h2,h3,h4⟩
theorem iK{α:Type}{xs:List α}{j:Nat}{v:α}(h:xs[j]?=some v):atI xs (j:Int)=some v:=by
 have hj:j<xs.length:=(List.getElem?_eq_some_iff.mp h).1
 have e:ixN xs.length (j:Int)=some j:=by unfold ixN;rw[if_pos (by omega),if_pos (by omega)];simp
 unfold atI;rw[e];exact h
theorem Dc{α:Type}(xs:List α)(v:α):atI (xs++[v]) (-1)=some v:=by
 have hl:(xs++[v]).length=xs.length+1:=by simp
 have e:ixN (xs++[v]).length (-1)=some xs.length:=by
  unfold ixN;rw[hl,if_neg (by decide),if_pos (by omega)]
  congr 1
  omega
 unfold atI;rw[e];show(xs++[v])[xs.length]?=some v;simp
def Di(b:Expr):Prop:=∀o i,subscripted b false o i=operate [o,i] (getItem o i)
noncomputable def IxR(X:Cx)(r:R2):Prop :=
 ∀(value slice:Expr) (pins:List (Addr×Obj)) (s:Shared) (σ:St) (H:Hp) (x y:V) (v u:Value) (Q:VK),Inv X pins σ H s->RelV x v->RelV y u->r x y H Q ->
  subscripted slice false v u=operate [v,u] (getItem v u)->wpAny (model X.prog X.w) X.A (subscriptTail value slice v u) (EP X pins σ Q) X.xe s
noncomputable def MtR(X:Cx)(id:String)(r:V->List V->Hp->VK->Prop):Prop :=
 ∀(pins:List (Addr×Obj)) (s:Shared) (σ:St) (H:Hp) (x:V) (xs:List V) (v:Value) (us:List Value) (Q:VK),Inv X pins σ H s->RelV x v->Vals xs us->r x xs H Q ->
  wpAny (model X.prog X.w) X.A (call (.builtin id) (v::us)) (EP X pins σ Q) X.xe s
section
variable {X:Cx}{a b:Expr}{ta tb:TE}{pos:Pos}
theorem ao{r:R2}(hr:IxR X r)(ha:PE X a ta)(hb:PE X b tb)(hs:Di b):PE X (.Subscript a b pos) (tOp r ta tb):=by intro pins s σ H Q I h;exact Subscript_ (pD ha hb I h λv u s2 x y H2 I2 rx ry q=>hr a b pins s2 σ H2 x y v u Q I2 rx ry q (hs _ _))
def rq(K:PySem.W.Frag):R2:=λx y H Q=>∃p xs i v,x=.ref p/\y=.int i/\SqL K H p xs/\atI xs i=some v/\Q v H
def lf(K:PySem.W.Frag):R2:=λx y H Q=>∃p xs i v,x=.ref p/\y=.int i/\SqT K H p xs/\atI xs i=some v/\Q v H
def wP:R2:=λx y H Q=>∃z i c,x=.str z/\y=.int i/\z.length<=sizeLine/\atI z.cps.toList i=some c/\Q (.str ⟨#[c]⟩) H
theorem Au:IxR X (rq X.K):=by
 intro value slice pins s σ H x y v u Q I rx ry h hs;obtain⟨p,xs,i,z,rfl,rfl,hq,he,q⟩:=h;cases rx;obtain⟨t,rfl⟩:=ry;obtain⟨its,r,pl,hz⟩:=I.list hq;obtain⟨j,h1,h2,h3,h4,h5⟩:=pO he;obtain⟨w,ew,rw'⟩:=r.get h2;have hl:=r.length;have hn:=iF;have fin:EP X pins σ Q w s:=⟨z,H,I,rw',q⟩;by_cases h0:0<=i
 ·have hj:i.toNat=j:=by rw[seqIndex_of h0 h5]at h1;exact Option.some.inj h1
  exact item_listR pl.isList h0 (by omega) (by rw[hj];simpa using ew) fin hs
 ·have hj:(i+(its.toArray.size:Int)).toNat=j:=by rw[seqIndex_neg (by omega) h4]at h1;rw[EY,<- hl];exact Option.some.inj h1
  exact subscriptTail_builtinR (x:=w) pl.isList.typeIs slot_list_getitem.lookup
   (wpAny_getItem_list_neg (Q:=λr s'=>r=w/\EP X pins σ Q r s') pl.isList (by omega) (by rw[EY]<;>omega) (by omega) (by rw[hj];simpa using ew) ⟨rfl,fin⟩) hs
theorem At:IxR X (lf X.K):=by
 intro value slice pins s σ H x y v u Q I rx ry h hs;obtain⟨p,xs,i,z,rfl,rfl,hq,he,q⟩:=h;cases rx;obtain⟨t,rfl⟩:=ry;obtain⟨its,r,pl,hz⟩:=I.tuple hq;obtain⟨j,h1,h2,h3,h4,h5⟩:=pO he;obtain⟨w,ew,rw'⟩:=r.get h2;have hl:=r.length;have hn:=iF;have fin:EP X pins σ Q w s:=⟨z,H,I,rw',q⟩
 exact subscriptTail_builtinR (x:=w) pl.typeIs slot_tuple_getitem.lookup
  (getItem_tuple (j:=j) (Q:=λr s'=>r=w/\EP X pins σ Q r s') pl (by omega) (by omega) (by rw[EY,<- hl];exact h1) (by simpa using ew) ⟨rfl,fin⟩) hs
theorem jx:IxR X wP:=by
 intro value slice pins s σ H x y v u Q I rx ry h hs;obtain⟨z,i,c,rfl,rfl,hz,he,q⟩:=h;obtain⟨t,rfl⟩:=rx;obtain⟨t',rfl⟩:=ry;obtain⟨j,h1,h2,h3,h4,h5⟩:=pO he;have hl:z.cps.toList.length=z.length:=by simp[Str.length]
 rw[hl]at h1 h4 h5;have hn:=iF
 exact tail_any (typeIs_str s z t) slot_str_getitem.lookup (getItem_str (c:=c) (by
  have e1:decide (i < -(2^63:Int))=false:=decide_eq_false (by omega);have e2:decide (i≥2^63)=false:=decide_eq_false (by omega)
  rw[e1,e2,Bool.or_false]) (by rw[h1];simpa using h2) ⟨.str ⟨#[c]⟩,H,I.tok _,⟨_,rfl⟩,q⟩) hs
theorem y6(its:List Value)(n j:Nat)(u:Value):Obj.mapSeq (·.setIfInBounds j u) { cls:=.type "list",data:=.seq its.toArray n }={ cls:=.type "list",data:=.seq (its.set j u).toArray n }:=by simp[Obj.mapSeq]
theorem Inv.lst{pins:List (Addr×Obj)}{σ:St}{H:Hp}{s:Shared}{p:Addr}{xs:List V}(I:Inv X pins σ H s)(h:H p=some (.lst xs)) :
 ∃(its:List Value) (n:Nat),Vals xs its/\s.heap.get? p=some { cls:=.type "list",data:=.seq its.toArray n }/\xs.length<=sizeLine:=by
 obtain⟨z,its,n,r,e⟩:=I.hok p _ h;exact⟨its,n,r,e,z⟩
theorem Inv.lstUpd{pins:List (Addr×Obj)}{σ:St}{H:Hp}{s:Shared}{p:Addr}{xs ys:List V}{its its':List Value}{n n':Nat}{f:Obj->Obj}(I:Inv X pins σ H s)(h:H p=some (.lst xs))
 (ho:s.heap.get? p=some { cls:=.type "list",data:=.seq its.toArray n }) (hf:f { cls:=.type "list",data:=.seq its.toArray n }={ cls:=.type "list",data:=.seq its'.toArray n' }) (r:Vals ys its') (hz:ys.length<=sizeLine) (t:Nat) :
 Inv X pins σ (upd H p (.lst ys)) { s with heap:=s.heap.update p f,toks:=t }:=by
 have e:(s.heap.update p f).get? p=some { cls:=.type "list",data:=.seq its'.toArray n' }:=by rw[Heap.get?_update_self f ho (by rw[hf]<;>rfl),hf]
 refine I.write (x:=p) (e:=p) (by rw[h];trivial) (.inl rfl) (λb u hb q=>(Heap.get?_update_other _ _ (Ne.symm hb)).trans q) ⟨_,e⟩ ?_;exact⟨hz,its',n',r,e⟩
noncomputable def wJ:V->V->V->Hp->(Hp->Prop)->Prop:=λo i v H Q=>∃p xs k j,o=.ref p/\i=.int k/\H p=some (.lst xs)/\ixN xs.length k=some j/\Q (upd H p (.lst (xs.set j v)))
theorem iW:uH X wJ:=by
 intro pins s σ H o i v ov iv u Q I ro ri rv h;obtain⟨p,xs,k,j,rfl,rfl,hp,hj,q⟩:=h;cases ro;obtain⟨t,rfl⟩:=ri;obtain⟨its,n,r,ho,hz⟩:=I.lst hp;obtain⟨h1,h2,h3,h4⟩:=tu hj;have hl:=r.length;have hn:=iF
 have I':Inv X pins σ (upd H p (.lst (xs.set j v))) { s with heap:=s.heap.update p (Obj.mapSeq (·.setIfInBounds j u)) } :=
  I.lstUpd hp ho (y6 its n j u) (r.set rv j) (by rw[Fu];exact hz) s.toks
 by_cases h0:0<=k
 ·have hk:k.toNat=j:=by rw[seqIndex_of h0 h4]at h1;exact Option.some.inj h1
  exact PySem.W.ki_setAt ho h0 (by omega) (by rw[EY,<- hl];exact h4) (by rw[hk];exact⟨_,I',q⟩)
 ·have hk:(k+(its.toArray.size:Int)).toNat=j:=by rw[seqIndex_neg (by omega) h3]at h1;rw[EY,<- hl];exact Option.some.inj h1
  exact PySem.W.ki_setBack ho (by omega) (by rw[EY,<- hl];exact h3) (by omega) (by rw[hk];exact⟨_,I',q⟩)
theorem vH(lo hi:Option Int)(n:Nat):(sliceBounds lo hi none n).1=((HT.sIx n 0 lo:Nat):Int)/\(sliceBounds lo hi none n).2.1=((HT.sIx n n hi:Nat):Int)/\(sliceBounds lo hi none n).2.2=1:=by
 refine⟨?_,?_,rfl⟩
 ·cases lo with
  |none=>simp[sliceBounds,HT.sIx]
  |some i =>
   simp only[sliceBounds,HT.sIx,Option.getD_none,show(1:Int)>0 by decide,if_true];by_cases h:i<0
   ·simp only[h,if_true]<;>omega
   ·simp only[h,if_false]<;>omega
 ·cases hi with
  |none=>simp[sliceBounds,HT.sIx]
  |some i =>
   simp only[sliceBounds,HT.sIx,Option.getD_none,show(1:Int)>0 by decide,if_true];by_cases h:i<0
   ·simp only[h,if_true]<;>omega
   ·simp only[h,if_false]<;>omega
theorem vI(its:List Value)(lo hi:Option Int):slicePick its.toArray lo hi none=((its.drop (HT.sIx its.length 0 lo)).take (HT.sIx its.length its.length hi-HT.sIx its.length 0 lo)).toArray:=by obtain⟨h1,h2,h3⟩:=vH lo hi its.toArray.size;unfold slicePick;rw[h1,h2,h3];simp only[sliceRange_one,pick_run,EY]<;>rfl
noncomputable def nw(K:PySem.W.Frag):V->Option Int->Option Int->Hp->VK->Prop:=λx lo hi H Q=>∃a xs,x=.ref a/\SqL K H a xs/\∀p,H p=none->Q (.ref p) (upd H p (.lst (cJ xs lo hi)))
theorem vJ:SlR X (nw X.K):=by intro pins s σ H x v vl vu lo hi sl Q I rx hs pl pu h;obtain⟨a,xs,rfl,hx,q⟩:=h;cases rx;obtain⟨its,r,ht,hz⟩:=I.list hx;have hlen:=r.length;refine⟨"list",_,slot_list_getitem.lookup,ht.isList.typeIs,?_⟩;refine wpAny_getItem_list_slice ht.isList hs pl pu .none (by simp) ?_ (by rw[EY]<;>omega);rw[vI,<- hlen];refine⟨.ref s.heap.objs.size,_,I.laid (t':=s.toks) (o:=.lst (cJ xs lo hi)) (λb ob q=>Heap.get?_push_of_some _ q) (EO _) ?_,rfl,q _ (I.hok.fresh (EO _))⟩;exact⟨ES (uh xs lo hi) hz,_,0,(r.drop (HT.sIx xs.length 0 lo)).take (HT.sIx xs.length xs.length hi-HT.sIx xs.length 0 lo),Heap.get?_push_size _ rfl⟩
noncomputable def ff:V->Bool
 |.non=>true
 |.bl _=>true
 |.int _=>true
 |.str _=>true
 |_=>false
noncomputable def eqV:V->V->Bool
 |.non,.non=>true
 |.bl a,.bl b=>a == b
 |.bl a,.int b=>(if a then 1 else 0) == b
 |.int a,.bl b=>a == (if b then 1 else 0)
 |.int a,.int b=>a == b
 |.str a,.str b=>a == b
 |_,_=>false
theorem B3{A:Around}{s:Shared}{y x:V}{u v:Value}(ry:RelV y u)(rx:RelV x v)(fy:ff y=true)(fx:ff x=true):SeqAt.EqAt A s u v (eqV y x):=by
 cases y with
 |non =>
  cases ry;cases x with
  |non=>cases rx;exact SeqAt.EqAt.same _
  |bl b=>cases rx;exact SeqAt.EqAt.none_bool b
  |int b=>obtain⟨t,rfl⟩:=rx;exact SeqAt.EqAt.none_int b t
  |str b=>obtain⟨t,rfl⟩:=rx;exact SeqAt.EqAt.none_str b t
  |_=>exact absurd (show false=true from fx) EU
 |bl a =>
  cases ry;cases x with
  |non=>cases rx;exact SeqAt.EqAt.bool_none a
  |bl b=>cases rx;exact SeqAt.EqAt.bool_bool a b
  |int b=>obtain⟨t,rfl⟩:=rx;exact SeqAt.EqAt.bool_int a b t
  |str b=>obtain⟨t,rfl⟩:=rx;exact SeqAt.EqAt.bool_str a b t
  |_=>exact absurd (show false=true from fx) EU
 |int a =>
  obtain⟨t',rfl⟩:=ry;cases x with
  |non=>cases rx;exact SeqAt.EqAt.int_none a t'
  |bl b=>cases rx;exact SeqAt.EqAt.int_bool a t' b
  |int b=>obtain⟨t,rfl⟩:=rx;exact SeqAt.EqAt.int_int a t' b t
  |str b=>obtain⟨t,rfl⟩:=rx;exact SeqAt.EqAt.int_str a t' b t
  |_=>exact absurd (show false=true from fx) EU
 |str a =>
  obtain⟨t',rfl⟩:=ry;cases x with
  |non=>cases rx;exact SeqAt.EqAt.str_none a t'
  |bl b=>cases rx;exact SeqAt.EqAt.str_bool a t' b
  |int b=>obtain⟨t,rfl⟩:=rx;exact SeqAt.EqAt.str_int a t' b t
  |str b=>obtain⟨t,rfl⟩:=rx;exact SeqAt.EqAt.str_str a t' b t
  |_=>exact absurd (show false=true from fx) EU
 |_=>exact absurd (show false=true from fy) EU
noncomputable def eqU(x:V)(u:Value):Bool:=match u with
 |.none=>eqV .non x
 |.bool b=>eqV (.bl b) x
 |.int i _=>eqV (.int i) x
 |.str z _=>eqV (.str z) x
 |_=>false
theorem t8{x y:V}{u:Value}(r:RelV y u)(f:ff y=true):eqU x u=eqV y x:=by
 cases y with
 |non=>cases r;rfl
 |bl b=>cases r;rfl
 |int i=>obtain⟨t,rfl⟩:=r;rfl
 |str z=>obtain⟨t,rfl⟩:=r;rfl
 |_=>exact absurd (show false=true from f) EU
theorem kC{x:V}:∀{xs:List V} {us:List Value},Vals xs us->xs.all ff=true->us.any (eqU x)=xs.any λy=>eqV y x
 |_,_,.nil,_=>rfl
 |y::xs,u::us,.cons r t,f=>by rw[List.all_cons,EZ]at f;rw[List.any_cons,List.any_cons,t8 r f.1,kC t f.2]
theorem jk{A:Around}{s:Shared}{x:V}{v:Value}(rx:RelV x v)(fx:ff x=true):∀{xs:List V} {us:List Value},Vals xs us->xs.all ff=true->∀u∈us,SeqAt.EqAt A s u v (eqU x u)
 |_,_,.nil,_=>λu hu=>by cases hu
 |y::xs,u::us,.cons r t,f=>λu' hu=>by
  rw[List.all_cons,EZ]at f;rcases EQ.mp hu with rfl |hu
  ·rw[t8 r f.1];exact B3 r rx f.1 fx
  ·exact jk rx fx t f.2 u' hu
noncomputable def inV(x:V)(xs:List V):Bool:=xs.any λy=>eqV y x
def rIn(K:PySem.W.Frag)(neg:Bool):R2:=λx y H Q=>∃p xs,y=.ref p/\(SqL K H p xs\/SqT K H p xs)/\ff x=true/\xs.all ff=true/\Q (.bl (if neg then !inV x xs else inV x xs)) H
theorem xu:OpR X (compareOp .In) (rIn X.K false):=by
 intro pins s σ H x y v u Q I rx ry h;obtain⟨p,xs,rfl,hq,fx,fs,q⟩:=h;cases ry;rcases hq with hq |hq
 ·obtain⟨its,r,pl,hz⟩:=I.list hq;refine SeqAt.in_listAt (eqU x) pl.isList (λw hw=>jk rx fx r fs w (by simpa using hw)) ⟨.bl _,H,I,rfl,?_⟩;rw[show its.toArray.any (eqU x)=its.any (eqU x) by simp,kC r fs];exact q
 ·obtain⟨its,r,pl,hz⟩:=I.tuple hq;refine SeqAt.in_tupleAt (eqU x) pl (λw hw=>jk rx fx r fs w (by simpa using hw)) ⟨.bl _,H,I,rfl,?_⟩;rw[show its.toArray.any (eqU x)=its.any (eqU x) by simp,kC r fs];exact q
theorem xo:OpR X (compareOp .NotIn) (rIn X.K true):=by
 intro pins s σ H x y v u Q I rx ry h;obtain⟨p,xs,rfl,hq,fx,fs,q⟩:=h;cases ry;rcases hq with hq |hq
 ·obtain⟨its,r,pl,hz⟩:=I.list hq;refine SeqAt.notIn_listAt (eqU x) pl.isList (λw hw=>jk rx fx r fs w (by simpa using hw)) ⟨.bl _,H,I,rfl,?_⟩;rw[show its.toArray.any (eqU x)=its.any (eqU x) by simp,kC r fs];exact q
 ·obtain⟨its,r,pl,hz⟩:=I.tuple hq;refine SeqAt.notIn_tupleAt (eqU x) pl (λw hw=>jk rx fx r fs w (by simpa using hw)) ⟨.bl _,H,I,rfl,?_⟩;rw[show its.toArray.any (eqU x)=its.any (eqU x) by simp,kC r fs];exact q
theorem Cq:cy X (.builtin "len") (λxs H Q=>∃p ys,xs=[.ref p]/\(SqL X.K H p ys\/SqT X.K H p ys)/\Q (.int ys.length) H):=by
 intro pins s σ H xs us Q I r h;obtain⟨p,ys,rfl,hq,q⟩:=h;obtain⟨u,rfl,rx⟩:=eE r;cases rx;have hn:=iF;rcases hq with hq |hq
 ·obtain⟨its,r',pl,hz⟩:=I.list hq;have hlen:=r'.length;exact Calls.call_len_list pl.isList (by simp only[EY]<;>omega) ⟨.int ys.length,H,I.tok _,⟨s.toks+1,by rw[EY,hlen]⟩,q⟩
 ·obtain⟨its,r',pl,hz⟩:=I.tuple hq;have hlen:=r'.length;exact len_tuple pl (by simp only[EY]<;>omega) ⟨.int ys.length,H,I.tok _,⟨s.toks+1,by rw[EY,hlen]⟩,q⟩
theorem ku:cy X (.builtin "len") (λxs H Q=>∃z,xs=[.str z]/\z.length<=sizeLine/\Q (.int z.length) H):=by intro pins s σ H xs us Q I r h;obtain⟨z,rfl,hz,q⟩:=h;obtain⟨u,rfl,t,rfl⟩:=eE r;have hn:=iF;exact len_str (by omega) ⟨.int z.length,H,I.tok _,⟨_,rfl⟩,q⟩
theorem Co:cy X (.type "list") (λxs H Q=>∃p ys,xs=[.ref p]/\(SqL X.K H p ys\/SqT X.K H p ys)/\∀l,H l=none->Q (.ref l) (upd H l (.lst ys))):=by
 intro pins s σ H xs us Q I r h;obtain⟨p,ys,rfl,hq,q⟩:=h;obtain⟨u,rfl,rx⟩:=eE r;cases rx
 have fin:∀(its:List Value),Vals ys its->ys.length<=sizeLine->∀(h':Heap) (c':Nat),(∀b o',s.heap.get? b=some o'->h'.get? b=some o') ->
  h'.get? s.heap.objs.size=some { cls:=.type "list",dict:=none,data:=.seq its.toArray c',slots:=#[] }->EP X pins σ Q (.ref s.heap.objs.size) { s with heap:=h' }:=λits r' hz h' c' kp e =>
  ⟨.ref s.heap.objs.size,_,I.laid (t':=s.toks) kp (EO _) (show ObjOk X.prog X.w _ h' _ (.lst ys)from⟨hz,its,c',r',e⟩),rfl,q _ (I.hok.fresh (EO _))⟩
 rcases hq with hq |hq
 ·obtain⟨its,r',pl,hz⟩:=I.list hq;have hlen:=r'.length;obtain⟨o,ho,hc,n,hd⟩:=pl.isList;exact call_list_seq p (.inl rfl) ho hc hd (λh' c' kp e=>fin its r' hz h' c' kp e) (by simp only[EY]<;>omega)
 ·obtain⟨its,r',pl,hz⟩:=I.tuple hq;have hlen:=r'.length;obtain⟨o,ho,hc,n,hd⟩:=pl;exact call_list_seq p (.inr rfl) ho hc hd (λh' c' kp e=>fin its r' hz h' c' kp e) (by simp only[EY]<;>omega)
def tyV(K:PySem.W.Frag)(T:String)(x:V)(H:Hp):Prop:=match x with
 |.str _=>T="str"
 |.int _=>T="int"
 |.ref p=>(T="list"/\∃xs,SqL K H p xs)\/(T="tuple"/\∃o,K.lookup p=some o/\o.cls=.type "tuple"/\o.dict=none) \/
  (T="dict"/\((∃kvs,H p=some (.dK kvs))\/∃kvs,H p=some (.dT kvs)))\/(T="set"/\∃S n,H p=some (.set S n))
 |_=>False
theorem qq{pins:List (Addr×Obj)}{σ:St}{H:Hp}{s:Shared}{T:String}{x:V}{v:Value}(I:Inv X pins σ H s)(r:RelV x v)(ty:tyV X.K T x H) :
 s.TypeIs v T/\∀a,v=.ref a->∃ob,s.heap.get? a=some ob/\ob.dict=none:=by
 cases x with
 |str z =>obtain⟨t,rfl⟩:=r;cases(show T="str" from ty);exact⟨typeIs_str s z t,λ_ e=>nomatch e⟩
 |int i =>obtain⟨t,rfl⟩:=r;cases(show T="int" from ty);exact⟨typeIs_int s i t,λ_ e=>nomatch e⟩
 |ref p =>
  cases r;rcases ty with⟨rfl,xs,hq⟩ |⟨rfl,o,hk,hc,hd⟩ |⟨rfl,hk⟩ |⟨rfl,S,n,hk⟩
  ·obtain⟨its,_,pl,_⟩:=I.list hq;refine⟨pl.isList.typeIs,λa e=>?_⟩;cases e;obtain⟨o,n,e,c,hd,_⟩:=pl;exact⟨o,e,hd⟩
  ·refine⟨⟨o,I.kIn p o hk,hc⟩,λa e=>?_⟩;cases e;exact⟨o,I.kIn _ o hk,hd⟩
  ·have z:∃o,s.heap.get? p=some o/\o.ExactDict:=by
    rcases hk with⟨kvs,hk⟩ |⟨kvs,hk⟩
    ·obtain⟨_,_,_,_,o,_,_,e,ex,_⟩:=I.hok p _ hk;exact⟨o,e,ex⟩
    ·obtain⟨_,_,_,_,o,_,_,e,ex,_⟩:=I.hok p _ hk;exact⟨o,e,ex⟩
   obtain⟨o,e,ex⟩:=z;refine⟨⟨o,e,ex.1⟩,λa e2=>?_⟩;cases e2;exact⟨o,e,ex.2.1⟩
  ·obtain⟨o,_,_,_,e,ex,_⟩:=I.hok p _ hk;refine⟨⟨o,e,ex.1⟩,λa e2=>?_⟩;cases e2;exact⟨o,e,ex.2.1⟩
 |_=>exact False.elim ty
def vC(K:PySem.W.Frag)(T:String)(r:V->List V->Hp->VK->Prop)(to:TE):TE:=λσ H Q=>to σ H λx H1=>tyV K T x H1/\r x [] H1 Q
def tBM(K:PySem.W.Frag)(T:String)(r:V->List V->Hp->VK->Prop)(to:TE)(t:TA):TE:=λσ H Q=>to σ H λx H1=>tyV K T x H1/\t σ H1 λxs H2=>r x xs H2 Q
variable {o e:Expr}{es:List Expr}{to:TE}{t:TA}{name:Str}{apos cpos:Pos}{T id:String}{r:V->List V->Hp->VK->Prop}
theorem xk(pa:PlainAttrs T)(slot:Slot T name id)(hty:typeOf (.builtin id)=pure (.type "method_descriptor"))(hm:MtR X id r)(ho:PE X o to)
 (hbase:attributeBase o name X.env (eval o X.env)=eval o X.env:=by rfl) (hline:(apos.endLine == cpos.line)=true:=by rfl):PE X (.Call (.Attribute o name apos) [] [] cpos) (vC X.K T r to):=by
 intro pins s σ H Q I h;refine wpAny_Call_method0_late hbase hline (thn (ho pins s σ H _ I h) λv s1 ⟨x,H1,I1,r1,ty,q1⟩=>?_);obtain⟨h1,h2⟩:=qq I1 r1 ty;exact⟨T,id,pa,slot,hty,h1,h2,Calls.callWith_builtin rfl (PySem.evalArgs_none (hm pins s1 σ H1 x [] v [] Q I1 r1 .nil q1))⟩
theorem rC(pa:PlainAttrs T)(slot:Slot T name id)(hty:typeOf (.builtin id)=pure (.type "method_descriptor"))(hm:MtR X id r)(ho:PE X o to)(ha:PA X (e::es) t)
 (hbase:attributeBase o name X.env (eval o X.env)=eval o X.env:=by rfl)
 (hfew:((backTo cpos (starEach (e::es) X.env)).all (λx=>!x.1)&&(backToKw cpos (keywordEach [] X.env)).all (λx=>x.1.isSome)
   && decide ((e::es).length+([]:List Keyword).length+(if([]:List Keyword).isEmpty then 0 else 1)<30))=true:=by rfl)
 (hline:(apos.endLine == cpos.line)=true:=by rfl) (hs:starEach (e::es) X.env=(false,eval e X.env)::starEach es X.env:=by rfl) (hplain:(backTo cpos (starEach es X.env)).any (·.1)=false:=by rfl) :
 PE X (.Call (.Attribute o name apos) (e::es) [] cpos) (tBM X.K T r to t):=by
 intro pins s σ H Q I h;refine wpAny_Call_method_late hbase hfew hline rfl (thn (ho pins s σ H _ I h) λv s1 ⟨x,H1,I1,r1,ty,q1⟩=>?_);obtain⟨h1,h2⟩:=qq I1 r1 ty;refine⟨T,id,pa,slot,hty,h1,h2,?_⟩;have hA:=ha cpos pins s1 σ H1 _ I1 q1;rw[hs]at hA ⊢;refine Calls.callWith_builtin (by show(false || (backTo cpos (starEach es X.env)).any (·.1))=false;rw[hplain]<;>rfl) (Calls.evalArgs_plain ?_);exact thn hA λus s2 ⟨vs,H2,I2,r2,q2⟩=>hm pins s2 σ H2 x vs v us Q I2 r1 r2 q2
end
noncomputable def MtM(X:Cx)(id:String)(r:V->List V->Hp->VK->Prop):Prop :=
 ∀(pins:List (Addr×Obj)) (s:Shared) (σ:St) (H:Hp) (x:V) (xs:List V) (v:Value) (us:List Value) (Q:VK),Inv X pins σ H s->RelV x v->Vals xs us->r x xs H Q ->
  wpAny (model X.prog X.w) X.A (call (.builtin id) (v::us)) (EP X pins σ Q) X.xe s
theorem Vals.one:∀{x:V} {us:List Value},Vals [x] us->∃u,us=[u]/\RelV x u
 |_,_,.cons r .nil=>⟨_,rfl,r⟩
theorem Vals.two:∀{x y:V} {us:List Value},Vals [x,y] us->∃u v,us=[u,v]/\RelV x u/\RelV y v
 |_,_,_,.cons r (.cons q .nil)=>⟨_,_,rfl,r,q⟩
theorem Vals.zero:∀{us:List Value},Vals [] us->us=[]
 |_,.nil=>rfl
theorem Vals.dropLast{xs:List V}{us:List Value}(h:Vals xs us):Vals xs.dropLast us.dropLast:=by
 induction h with
 |nil=>exact .nil
 |cons r t ih =>
  cases t with
  |nil=>exact .nil
  |cons q t'=>exact .cons r ih
theorem Vals.eraseIdx:∀{xs:List V} {us:List Value} (i:Nat),Vals xs us->Vals (xs.eraseIdx i) (us.eraseIdx i)
 |_,_,_,.nil=>.nil
 |_,_,0,.cons _ t=>t
 |_,_,i+1,.cons r t=>.cons r (Vals.eraseIdx i t)
theorem Vals.reverse{xs:List V}{us:List Value}(h:Vals xs us):Vals xs.reverse us.reverse:=by
 induction h with
 |nil=>exact .nil
 |cons r t ih=>rw[List.reverse_cons,List.reverse_cons];exact Vals.append ih (.cons r .nil)
theorem Vals.rep{xs:List V}{us:List Value}(h:Vals xs us):∀k:Nat,Vals (List.replicate k xs).flatten (List.replicate k us).flatten
 |0=>.nil
 |k+1=>by rw[Fk,Fk,FD,FD];exact Vals.append h (Vals.rep h k)
theorem B2{α:Type}(l:List α):l.eraseIdx (l.length-1)=l.dropLast:=by
 induction l with
 |nil=>rfl
 |cons a r ih =>
  cases r with
  |nil=>rfl
  |cons b r =>
   have e:(a::b::r).length-1=((b::r).length-1)+1:=by have h1:(a::b::r).length=r.length+2:=rfl;have h2:(b::r).length=r.length+1:=rfl;omega
   rw[e,List.eraseIdx_cons_succ,ih]
   all_goals rfl
theorem tV(its:List Value):∀(k:Nat) (acc:List Value),
 List.foldl (λx1 x2=>x1++x2) acc.toArray (List.replicate k its.toArray)=(acc++(List.replicate k its).flatten).toArray
 |0,acc=>by simp
 |k+1,acc=>by
  have e:acc.toArray++its.toArray=(acc++its).toArray:=by simp
  have e2:(acc++its)++(List.replicate k its).flatten=acc++(List.replicate (k+1) its).flatten:=by rw[Fk,FD,E7]
  rw[<- e2,<- tV its k (acc++its),<- e,Fk,List.foldl_cons]
section
variable {X:Cx}{pins:List (Addr×Obj)}{σ:St}{H:Hp}{s:Shared}{l b:Addr}{xs ys zs:List V}
theorem Inv.lset{its its':List Value}{n:Nat}{f:Array Value->Array Value}{t':Nat}(I:Inv X pins σ H s)(hH:H l=some (.lst xs))
 (e:s.heap.get? l=some { cls:=.type "list",data:=.seq its.toArray n }) (hf:f its.toArray=its'.toArray) (hv:Vals ys its') (hz:ys.length<=sizeLine) :
 Inv X pins σ (upd H l (.lst ys)) { s with heap:=s.heap.update l (Obj.mapSeq f),toks:=t' }:=by
 have q:=PySem.IsL.update e f;rw[hf]at q;refine I.write (x:=l) (e:=l) (by rw[hH];exact trivial) (.inl rfl) (λb' u hb hu=>(Heap.get?_update_other s.heap (Obj.mapSeq f) (Ne.symm hb)).trans hu) ⟨_,q⟩ ?_;exact⟨hz,its',_,hv,q⟩
theorem Inv.lnew{its:List Value}{t':Nat}(I:Inv X pins σ H s)(hv:Vals ys its)(hz:ys.length<=sizeLine) :
 Inv X pins σ (upd H s.heap.objs.size (.lst ys)) { s with heap:=s.heap.push { cls:=.type "list",data:=.seq its.toArray },toks:=t' } :=
 I.laid (λ_ _ q=>Heap.get?_push_of_some _ q) (EO _) ⟨hz,its,0,hv,Heap.get?_push_size _ rfl⟩
theorem Inv.fresh(I:Inv X pins σ H s):H s.heap.objs.size=none:=I.hok.fresh (EO _)
theorem Inv.lstM(I:Inv X pins σ H s)(hH:H l=some (.lst xs)):xs.length<=sizeLine/\∃(its:List Value) (n:Nat),Vals xs its/\xs.length=its.length/\s.heap.get? l=some { cls:=.type "list",data:=.seq its.toArray n }:=by obtain⟨z,its,n,r,e⟩:=I.hok l _ hH;exact⟨z,its,n,r,r.length,e⟩
theorem yH{n:Nat}(h:n<=sizeLine):Builtin.List.listTooLong n=false:=by unfold Builtin.List.listTooLong;exact decide_eq_false (by omega)
end
section
variable {X:Cx}
noncomputable def wQ:V->List V->Hp->VK->Prop:=λx vs H Q=>∃l xs y,x=.ref l/\vs=[y]/\H l=some (.lst xs)/\xs.length<sizeLine/\Q .non (upd H l (.lst (xs++[y])))
theorem rS:MtM X "list.append" wQ:=by intro pins s σ H x vs v us Q I rx rv h;obtain⟨l,xs,y,rfl,rfl,hH,hz,q⟩:=h;cases rx;obtain⟨u,rfl,ru⟩:=rv.one;obtain⟨z,its,n,r,hl,e⟩:=I.lstM hH;refine call_meets F.slot_list_append ⟨_,e,rfl⟩ F.entry_list_append (F.args_list_append_2 _ _) (PySem.list_append l its.toArray n u (by rw[EY];omega)) ⟨e,?_⟩;refine⟨.non,_,I.lset (its':=its++[u]) hH e (by simp) (r.append (.cons ru .nil)) ?_,rfl,q⟩;rw[ER,FK];omega
noncomputable def wM:V->List V->Hp->VK->Prop:=λx vs H Q=>∃l xs y,x=.ref l/\vs=[]/\H l=some (.lst xs)/\xs[xs.length-1]?=some y/\Q y (upd H l (.lst xs.dropLast))
theorem yM:MtM X "list.pop" wM:=by
 intro pins s σ H x vs v us Q I rx rv h;obtain⟨l,xs,y,rfl,rfl,hH,hy,q⟩:=h;cases rx;have hus:=rv.zero;subst hus;obtain⟨z,its,n,r,hl,e⟩:=I.lstM hH;obtain⟨u,hu,ru⟩:=r.get hy
 have hy':its.toArray[its.toArray.size-1]?=some u:=by show its.toArray[its.length-1]?=some u;rw[<- Array.getElem?_toList,<- hl];exact hu
 refine call_meets F.slot_list_pop ⟨_,e,rfl⟩ F.entry_list_pop (F.args_list_pop_1 _) (MeetsSeq.list_pop_last l its.toArray n u hy' (by rw[EY];omega)) ⟨e,?_⟩;refine⟨y,_,I.lset (its':=its.dropLast) hH e ?_ r.dropLast ?_,ru,q⟩
 ·show its.toArray.eraseIdxIfInBounds (its.toArray.size-1)=its.dropLast.toArray;rw[EY,List.eraseIdxIfInBounds_toArray,B2]
 ·rw[List.length_dropLast];omega
def ny:R2:=λx y H Q=>∃l b xs zs,x=.ref l/\y=.ref b/\H l=some (.lst xs)/\H b=some (.lst zs)/\xs.length+zs.length<=sizeLine/\∀p,H p=none->Q (.ref p) (upd H p (.lst (xs++zs)))
theorem cw:OpR X (binaryOp .Add) ny:=by
 intro pins s σ H x y v u Q I rx ry h;obtain⟨l,b,xs,zs,rfl,rfl,hH,hB,hz,q⟩:=h;cases rx;cases ry;obtain⟨z,its,n,r,hl,e⟩:=I.lstM hH;obtain⟨z2,its2,n2,r2,hl2,e2⟩:=I.lstM hB;refine PySem.P.add_list e e2 ?_ (by rw[EY,EY];omega);have ea:its.toArray++its2.toArray=(its++its2).toArray:=by simp
 rw[ea];exact⟨.ref _,_,I.lnew (t':=s.toks) (r.append r2) (by rw[ER];omega),rfl,q _ I.fresh⟩
def wL:R2:=λx y H Q=>∃l k xs,x=.ref l/\y=.int k/\H l=some (.lst xs) /\ -(2^63)<=k/\k<2^63/\xs.length*k.toNat<=sizeLine /\
 ∀p,H p=none->Q (.ref p) (upd H p (.lst (List.replicate k.toNat xs).flatten))
theorem zR{α:Type}(xs:List α)(k:Nat):(List.replicate k xs).flatten.length=k*xs.length:=by
 induction k with
 |zero=>simp
 |succ k ih=>rw[Fk,FD,ER,ih,Nat.succ_mul,Nat.add_comm]
theorem nG:OpR X (binaryOp .Mult) wL:=by
 intro pins s σ H x y v u Q I rx ry h;obtain⟨l,k,xs,rfl,rfl,hH,h1,h2,hz,q⟩:=h;cases rx;obtain⟨t,rfl⟩:=ry;obtain⟨z,its,n,r,hl,e⟩:=I.lstM hH;have hlen:its.toArray.size*k.toNat<=sizeLine:=by rw[EY,<- hl];exact hz
 have hcap:¬its.toArray.size*k.toNat>(2^63-1)/8:=by
  have:(sizeLine:Nat)<=(2^63-1)/8:=by decide
  omega
 have hfit:¬(!Builtin.List.listFitsIndex k)=true:=by rw[fitsIndex_both h1 h2];exact EU
 have hlong:¬Builtin.List.listTooLong (its.toArray.size*k.toNat)=true:=by rw[yH hlen];exact EU
 have hnew:List.foldl (λx1 x2=>x1++x2) #[] (List.replicate (if its.toArray.isEmpty=true then 0 else k.toNat) its.toArray)=(List.replicate k.toNat its).flatten.toArray:=by
  have f0:∀m:Nat,List.foldl (λx1 x2=>x1++x2) #[] (List.replicate m its.toArray)=(List.replicate m its).flatten.toArray:=λm=>by have:=tV its m [];rw[Fs]at this;exact this
  rw[f0];cases its with
  |nil=>simp
  |cons a r'=>rw[if_neg (by simp)]
 refine wpAny_binaryOp_repeat_ref (T:="list") (U:="int") (by decide) ⟨_,e,rfl⟩ (λs'=>typeIs_int s' k t) noFill_list_mul F.fills_int_mul F.slot_int_rmul repeat_list F.slot_int_index.lookup
  (call_meets F.slot_int_rmul (typeIs_int s k t) F.entry_int_rmul (F.args_int_rmul_2 _ _) (int___rmul___int_list k t l its.toArray n)
    ⟨e,rfl,⟨_,e,rfl⟩,call_meets F.slot_list_mul ⟨_,e,rfl⟩ F.entry_list_mul (F.args_list_mul_2 _ _) (AutoListH.list___mul___list_int_3 l its.toArray n k t hfit hcap hlong) ⟨e,?_⟩⟩)
 rw[hnew];exact⟨.ref _,_,I.lnew (t':=s.toks) (r.rep k.toNat) (by rw[zR,Nat.mul_comm];exact hz),rfl,q _ I.fresh⟩
end
section
variable {prog:Program}{w:World}{A:Around}{E:Value->Shared->Prop}{s:Shared}
end
section
variable {X:Cx}
end
end L2
namespace Att
open PySem PySem.W PySem.Calls PyProof.Rows
theorem AD{P:Params}{h:Heap}:∀(ns:List Int) (vs:List Value),WellAll P h vs (ns.map WData.int)->IntsAre vs ns:=by
 intro ns
 induction ns with
 |nil =>intro vs w;rw[List.map_nil]at w;cases w;exact .nil
 |cons n ns ih =>
  intro vs w;rw[Fh]at w;cases w with
  |cons a b =>cases a;exact .cons _ _ (ih _ b)
theorem vO{l:OpenLaw}{n:Nat}(hn:l.most=some n){P:Params}{h:Heap}{args:List WData}{vals:List Value}
 (hpre:l.row.toRowW.claim.pre args=true) (hwl:WellAll P h vals args) :
 ∃a vs ns,vals=[Value.ref a]/\args=[WData.list (ns.map WData.int)]/\h.get? a=some { cls:=.type "list",data:=.seq vs.toArray }/\IntsAre vs ns/\ns.length<=n:=by
 have hsh:WShape.hasAll [] args [.list .int]=true:=(pre_splitW hpre).1;have hc:l.pre.holds [] { args:=args }=true:=(pre_splitW hpre).2;obtain⟨d,r,rfl,h1,h2⟩:=hasAllW_cons hsh;obtain rfl:=hasAllW_nil h2;obtain⟨xs,rfl,h3⟩:=hasW_list h1;obtain⟨ns,rfl⟩:=items_int h3
 have hlen:ns.length<=n:=by
  unfold OpenLaw.pre at hc
  have h4:(WTm.not (.lt (.lit (.int (n:Int))) (.len (.arg 0)))).holds [] { args:=[.list (ns.map .int)] }=true:=by have h4:=(holds_andW hc).1;rw[hn]at h4;exact h4
  have h5:=condW_of h4 (w_not (w_lt w_lit (w_len_list (w_arg rfl))));rw[EN]at h5;refine FE λq=>?_
  have q':(n:Int)<((ns.length:Nat):Int):=by omega
  first
   | (rw[decide_eq_true q']at h5;exact absurd h5 (by decide))
   | (simp at h5;omega)
 cases hwl with
 |cons w1 w2 =>
  cases w2;cases w1 with
  |list ho hall=>exact⟨_,_,ns,rfl,rfl,ho,AD ns _ hall,hlen⟩
theorem wV(l:OpenLaw)(args:List WData):l.row.toRowW.claim.post args (.bool true) args=true :=
 postW_of (r:=l.row.toRowW) (X:=(true == true))
  (show WShape.has [] (.bool true) .bool=true by first |rfl |decide |simp[WShape.has,WShape.arms,WShape.armsAll])
  (show(WTm.eq .res (.lit (.bool true))).value [] { args:=args,res:=some (.bool true),after:=args }=some (.bool (true == true))from w_eq_bool (w_res rfl) w_lit) rfl
theorem attach_call{l:OpenLaw}{n:Nat}{q:Program}{loose:List Str}{XP:(Str->Option Value)->Heap->Prop}{YP:World->Heap->Prop}{d:DefRec}
 (hn:l.most=some n) (hdf:d.params.defaults=[])
 (call:∀(w:World) (s₀ s₁:Shared) (mg mb:Str->Option Value) (fa:Addr) (o:Obj) (pm cd doc:Value) (a:Addr) (vs:List Value) (ns:List Int),
   Ground q loose [] XP w s₀ mg mb s₁.heap->YP w s₁.heap ->
   s₁.heap.get? fa=some o->o.data=.func (docDef d.name d.params d.body d.scope pm cd doc)->s₁.heap.CodeRec cd d.name->mg d.name=some (.ref fa) ->
   s₁.heap.get? a=some { cls:=.type "list",data:=.seq vs.toArray }->IntsAre vs ns->ns.length<=n->s₁.gens=#[] ->
   codeAny (model l.prog w) callerA (.call (.ref fa) ⟨[.ref a],[]⟩) (λr s'=>r=.ok (.ret (.bool true))/\OldK s₁.heap s'.heap/\s'.os=s₁.os/\AllBare s'.gens) s₁) :
 WalkO q loose XP YP l.row.toRowW d [] (λf vs=>PySem.call f vs):=by
 intro w s₀ s₁ mg mb G Y fa o pm cd doc dV kV ho hd hcd hD hmg hg args vals as hpre hlay hrd hwl hlo;obtain rfl:dV=.none:=Dflts.none hD hdf;obtain rfl:kV=.none:=Dflts.noKw hD;obtain⟨a,vs,ns,rfl,rfl,hobj,hints,hlen⟩:=vO hn hpre hwl;refine enter_call (codeAny_mono (call w s₀ s₁ mg mb fa o pm cd doc a vs ns G Y ho (fd_plain hd) hcd hmg hobj hints hlen hg) λr s' hq=>?_);obtain⟨rfl,h2,h3,h4⟩:=hq;exact⟨.inl ⟨.bool true,.bool true,[],rfl,λ_=>rfl,.bool true,wV l _,λ_=>⟨List.Pairwise.nil,λ_ hm=>(nomatch hm)⟩⟩,h2,h3,h4⟩
section
variable {prog:Program}{w:World}{A:Around}{E:Value->Shared->Prop}{s:Shared}{K:Frag}
end
end Att
namespace L2
open PySem PySem.Spec PyProof.Rows
theorem qp:∀{vs:List Value} {ns:List Int},IntsAre vs ns->Vals (ns.map V.int) vs
 |_,_,.nil=>.nil
 |_,_,.cons n t h=>.cons ⟨t,rfl⟩ (qp h)
def pR(H:Hp):Prop:=∀b,H b=none\/∃o xs,H b=some (.frz o (.lst xs))
theorem zW{P:Program}{w:World}{K:PySem.W.Frag}{mg mb:Str->Option Value}{CX:CXT}{k:Nat}{fa a:Addr}{fd:FuncData}{x:Str}{sp:Sp}{s₁:Shared}{vs:List Value}{ns:List Int}
 (KX:K.In s₁.heap) (hns:s₁.heap.Ns mainGlobals mg) (hb:s₁.heap.Ns builtinsNs mb) (hbb:∀x:Str,x≠"__name__"->mb x=bootBuiltins x) (hlim:s₁.heap.NoLimit) (hg:s₁.gens=#[])
 (ha:s₁.heap.get? a=some { cls:=.type "list",data:=.seq vs.toArray }) (hi:IntsAre vs ns) (hl:ns.length<=sizeLine) (hr:Room k callerA)
 (F:∀base:Heap,K.In base->base.Ns mainGlobals mg->FnOk P w K mg base CX k fa fd [x] sp) (hbind:∀(s:Shared) (u:Value),BindsTo s fd ⟨[u],[]⟩ [(x,u)])
 (hsp:∀H:Hp,pR H->SqL K H a (ns.map V.int)->sp [.ref a] H (λv _=>v=.bl true) λ_ _ _=>False)
 (hCX:∀H e s',CX [] H s₁ (λ_ _ _=>False) e s'->False) :
 codeAny (model P w) callerA (.call (.ref fa) ⟨[.ref a],[]⟩) (λr s'=>r=.ok (.ret (.bool true))/\OldK s₁.heap s'.heap/\s'.os=s₁.os/\AllBare s'.gens) s₁:=by
 have rv:=qp hi;have lenV:=hi.length
 have core:∀H:Hp,pR H->SqL K H a (ns.map V.int)->HOk P w H s₁.heap->(∀b,H b≠none->b=a)->(H a≠none->K.lookup a=none) ->
  codeAny (model P w) callerA (.call (.ref fa) ⟨[.ref a],[]⟩) (λr s'=>r=.ok (.ret (.bool true))/\OldK s₁.heap s'.heap/\s'.os=s₁.os/\AllBare s'.gens) s₁:=by
  intro H hO hS hok hA hK;have base_of:∀{b:Addr} {o:Obj},s₁.heap.get? b=some o->H b=none->(d5 s₁.heap H).get? b=some o:=λe n=>AO e n
  have noA:∀{b:Addr} {o:Obj} {es:Array DictEntry} {ep:Nat},s₁.heap.get? b=some o->o.data=.dict es ep->H b=none:=λ{b o es ep} e d=>by
   cases q:H b with
   |none=>rfl
   |some u =>have e':b=a:=hA b (by rw[q];simp);subst e';rw[ha]at e;cases e;have d':Data.seq vs.toArray _=Data.dict es ep:=d;cases d'
  have nsK:∀{b:Addr} {m:Str->Option Value},s₁.heap.Ns b m->(d5 s₁.heap H).Ns b m:=λ{b m} ⟨o,es,ep,e,d,r⟩=>⟨o,es,ep,base_of e (noA e d),d,r⟩
  have hKb:K.In (d5 s₁.heap H):=λb o e=>base_of (KX b o e) (by
   cases q:H b with
   |none=>rfl
   |some u =>
    have e':b=a:=hA b (by rw[q];simp);subst e'
    rw[hK (by rw[q];simp)]at e;cases e)
  have hM:Mod K mg (d5 s₁.heap H):=⟨hKb,nsK hns,⟨mb,nsK hb,hbb⟩,let⟨mc,h1,h2⟩:=hlim;⟨mc,nsK h1,h2⟩⟩;have e0:Env0 P w K mg (d5 s₁.heap H) callerA [] s₁ H:=⟨rfl,hM,λb o e=>yC e,Fp (AN _ _),trivial,λb hb=>absurd (show b∈([]:List Addr)from hb) (by simp),hok,.of_eq hg⟩;refine codeAny_mono ((F _ hKb (nsK hns)).run callerA [] s₁ H ⟨[.ref a],[]⟩ [.ref a] [.ref a] _ _ hr e0 (hbind s₁ (.ref a)) (.cons rfl .nil) (hsp H hO hS)) λr s' h=>?_
  cases r with
  |error e=>exact(hCX H e s' h).elim
  |ok fl =>
   cases fl with
   |next=>exact False.elim h
   |brk=>exact False.elim h
   |cont=>exact False.elim h
   |ret u =>
    obtain⟨v,H',os,bare,un,hok',r',q⟩:=h;have q':v=.bl true:=q;subst q';obtain rfl:u=Value.bool true:=r';refine⟨rfl,OldK.of_keep λb o e=>?_,os,bare⟩;cases q:H b with
    |none=>exact un.keep b o e q (by intro z;exact absurd (show b∈([]:List Addr)from z) (by simp)) (by simp)
    |some u =>
     rcases hO b with z |⟨ob,xs,z⟩
     ·rw[q]at z;cases z
     ·have z2:=un.frzs b ob _ z;obtain⟨e1,_⟩:=hok b _ z;obtain⟨e2,_⟩:=hok' b _ z2;rw[e]at e1;cases e1;exact e2
 cases hk:K.lookup a with
 |some o =>have e:=KX a o hk;rw[ha]at e;cases e;refine core (λ_=>none) (λ_=>.inl rfl) (.inr ⟨_,vs.toArray,_,hk,rfl,rfl,rfl,by rw[EY,lenV];exact hl,by simpa using rv⟩) (λb u z=>by have z':(none:Option HO)=some u:=z;cases z') (λb z=>absurd rfl z) λz=>absurd rfl z
 |none =>
  refine core (λb=>if b=a then some (.frz { cls:=.type "list",data:=.seq vs.toArray } (.lst (ns.map V.int)))else none) (λb=>?_) (.inl (.inr ⟨{ cls:=.type "list",data:=.seq vs.toArray },if_pos rfl⟩)) (λb u z=>?_) (λb z=>?_) λ_=>hk
  ·by_cases hb:b=a
   ·exact .inr ⟨_,_,if_pos hb⟩
   ·exact .inl (if_neg hb)
  ·by_cases hb:b=a
   ·have z':=(if_pos hb).symm.trans z;cases z';subst hb;exact⟨ha,by rw[EN];exact hl,vs,_,rv,ha⟩
   ·have z':=(if_neg hb).symm.trans z;cases z'
  ·by_cases hb:b=a
   ·exact hb
   ·exact absurd (if_neg hb) z
theorem walk_of{l:PySem.W.OpenLaw}{n k:Nat}{q:Program}{loose:List Str}{XP:(Str->Option Value)->Heap->Prop}{YP:World->Heap->Prop}{d:DefRec}{K:Params->PySem.W.Frag}{CX:World->CXT}{sp:World->Sp}{x:Str}
 (hn:l.most=some n) (hn2:n<=sizeLine) (hdf:d.params.defaults=[]) (hr:Room k callerA)
 (hY:∀(w:World) (h:Heap),YP w h->(K w.params).In h)
 (F:∀(w:World) (mg:Str->Option Value) (fa:Addr) (h:Heap),(K w.params).In h->h.Ns mainGlobals mg->mg d.name=some (.ref fa) ->
   ∃fd:FuncData,(∀(s:Shared) (u:Value),BindsTo s fd ⟨[u],[]⟩ [(x,u)]) /\
    ∀base:Heap,(K w.params).In base->base.Ns mainGlobals mg->FnOk l.prog w (K w.params) mg base (CX w) k fa fd [x] (sp w))
 (hsp:∀(w:World) (H:Hp) (a:Addr) (ns:List Int),ns.length<=n->pR H->SqL (K w.params) H a (ns.map V.int)->sp w [.ref a] H (λv _=>v=.bl true) λ_ _ _=>False)
 (hCX:∀(w:World) (H:Hp) (s:Shared) (e:Value) (s':Shared),CX w [] H s (λ_ _ _=>False) e s'->False) :
 PySem.W.WalkO q loose XP YP l.row.toRowW d [] (λf vs=>PySem.call f vs):=by
 refine Att.attach_call hn hdf λw s₀ s₁ mg mb fa o pm cd doc a vs ns G Y ho hd hcd hmg hobj hints hlen hg=>?_
 have KX:=hY w _ Y;obtain⟨fd,hb,hF⟩:=F w mg fa _ KX G.T.g hmg;exact zW KX G.T.g G.T.b G.T.builtins G.T.nolimit hg hobj hints (ES hlen hn2) hr hF hb (λH hO hS=>hsp w H a ns hlen hO hS) λH e s'=>hCX w H s₁ e s'
noncomputable def bI(s:Stmt)(j:Nat):Stmt:=match s with
 |.ClassDef _ _ _ body _ _ _ _ _ _ _=>body.getD j (.Pass ⟨0,0,0,0⟩)
 |_=>.Pass ⟨0,0,0,0⟩
noncomputable def aw(s:Stmt):Arguments:=match s with
 |.FunctionDef _ a _ _ _ _ _ _ _ _=>a
 |_=>{ posonlyargs:=[],args:=[],vararg:=none,kwonlyargs:=[],kw_defaults:=[],kwarg:=none,defaults:=[] }
noncomputable def au(s:Stmt):List Stmt:=match s with
 |.FunctionDef _ _ b _ _ _ _ _ _ _=>b
 |_=>[]
noncomputable def ah(s:Stmt):Scope:=match s with
 |.FunctionDef _ _ _ _ _ _ sc _ _ _=>sc
 |_=>{ kind:=.function,names:=[],isGenerator:=false,isCoroutine:=false }
abbrev CX0:CXT:=λ_ _ _ _ _ _=>False
abbrev E0:XK:=λ_ _ _=>False
theorem ak{X:Cx}:ey CX0 X E0:=λ_ _ _ _ _ _ _ h=>h.elim
structure Fun(K:PySem.W.Frag)(x qual:Str)(st:Stmt)(f:Addr)(fd:FuncData):Prop where
 ex:∃(oc:Value) (od:Option Addr) (kV doc pm:Value) (an:Option Addr) (cdv ct:Value) (osl:Array (Option Value)),
  fd=PySem.W.fnOf x qual (aw st) (au st) (ah st) .none kV doc pm an cdv ct/\K.lookup f=some ⟨oc,od,.func fd,osl⟩/\PySem.W.codeIn K cdv qual=true
 kp:PySem.W.keepIn K (.ref f)=true
section
variable {P:Program}{w:World}{K:PySem.W.Frag}{mg:Str->Option Value}{base:Heap}
theorem Fun.ok{x qual:Str}{st:Stmt}{f:Addr}{fd:FuncData}{N ps:List Str}{k:Nat}{sp:Sp}(F:Fun K x qual st f fd)(S:FnScope N ps (ah st))(len:∀vs H Q E,sp vs H Q E->vs.length=ps.length)
 (hbody:∀(cdv:Value) (A:Around) (outer:List Env) (s:Shared) (H:Hp) (vs:List V) (Q:VK) (E:XK),Room k (A.deeper (envOfC qual (ah st) s.heap.objs.size f cdv))->sp vs H Q E ->
   ∃t,PSs (bn CX0 P w K mg base N qual (ah st) f cdv A outer s H E).nox (au st) t/\t { nx:=λ_ H'=>Q .non H',rt:=Q } (cY N vs) H):FnOk P w K mg base CX0 (k+1) f fd ps sp:=by
 obtain⟨oc,od,kV,doc,pm,an,cdv,ct,osl,rfl,lk,hcd⟩:=F.ex;refine lZ lk hcd S len λA outer s H vs Q E hr hsp=>?_
 obtain⟨t,h,q⟩:=hbody cdv A outer s H vs Q E hr hsp;exact⟨t,h.nox,q⟩
theorem Fun.binds{x qual:Str}{st:Stmt}{f:Addr}{fd:FuncData}{ps:List Str}(F:Fun K x qual st f fd)
 (h:∀(kV doc pm:Value) (an:Option Addr) (cdv ct:Value) (us:List Value),us.length=ps.length->bindArgs (PySem.W.fnOf x qual (aw st) (au st) (ah st) .none kV doc pm an cdv ct) ⟨us,[]⟩=pure (ps.zip us)):Binds K fd ps []:=by
 obtain⟨oc,od,kV,doc,pm,an,cdv,ct,osl,rfl,lk,hcd⟩:=F.ex;exact .all (h kV doc pm an cdv ct)
theorem az{x qual:Str}{st:Stmt}{f:Addr}{oc:Value}{od an:Option Addr}{osl:Array (Option Value)}{kV doc pm cdv ct:Value}(l:K.lookup f=some ⟨oc,od,.func (PySem.W.fnOf x qual (aw st) (au st) (ah st) .none kV doc pm an cdv ct),osl⟩)
 (c:PySem.W.codeIn K cdv qual=true) (k:PySem.W.keepIn K (.ref f)=true):Fun K x qual st f (PySem.W.fnOf x qual (aw st) (au st) (ah st) .none kV doc pm an cdv ct):=⟨⟨oc,od,kV,doc,pm,an,cdv,ct,osl,rfl,l,c⟩,k⟩
end
section
variable {X:Cx}
theorem pv(i:Nat){x:Str}{pos:Pos}(hN:X.N[i]?=some x:=by rfl)(hv:Vis X.env.scope x:=by first |exact Or.inl rfl |exact Or.inr (Or.inl rfl) |exact Or.inr (Or.inr rfl))(hd:(x == ("__debug__":Str))=false:=by decide)
 (hcd:(x == ("__classdict__":Str))=false:=by decide):PE X (.Name x pos) (kT i):=xg hN hv hd hcd
end
def Same(H H':Hp):Prop:=∀b o,H b=some o->H' b=some o
theorem Same.refl(H:Hp):Same H H:=λ_ _ h=>h
theorem Same.trans{H H1 H2:Hp}(a:Same H H1)(b:Same H1 H2):Same H H2:=λc o h=>b c o (a c o h)
theorem Same.free{H H':Hp}(e:Same H H'){l:Addr}(h:H' l=Option.none):H l=Option.none:=by
 cases q:H l with
 |none=>rfl
 |some o =>rw[e l o q]at h;cases h
theorem Same.seq{K:PySem.W.Frag}{H H':Hp}{a:Addr}{xs:List V}(e:Same H H')(h:SqL K H a xs):SqL K H' a xs:=by
 rcases h with(h |⟨o,h⟩) |h
 ·exact .inl (.inl (e _ _ h))
 ·exact .inl (.inr ⟨o,e _ _ h⟩)
 ·exact .inr h
end L2
set_option maxHeartbeats 4000000
namespace L2
open PySem PySem.Spec PyProof.Rows
noncomputable def fj(X:Cx)(N:List Str)(scope:Scope)(cl:List (Str×Addr))(C:Addr)(s₀:Shared)(H₀:Hp)(ex:List Addr):Cx where
 prog:=X.prog
 w:=X.w
 K:=X.K
 mg:=X.mg
 base:=X.base
 A:=X.A
 N:=N
 s₀:=s₀
 H₀:=H₀
 env:=compEnvC scope cl C X.env
 outer:=X.stack
 stack:=X.stack
 ex:=ex
 fn:=λ_=>false
 calm:=X.calm
 pn:=[]
 xe:=λ_ _=>False
structure CompOk(X:Cx)(fr:List Str)(js:List Nat)(scope:Scope)(cl:List (Str×Addr)):Prop where
 clos:closureFor scope X.env=pure cl
 cell:∀y∈scope.names,y.2≠.cell
 kind:scope.kind=.function
 names:∀y∈scope.names,y.2=.local->scope.names.lookup y.1=some .local
 clin:∀p∈cl,X.env.cells.lookup p.1=some p.2
 has:scope.names.all (λp=>p.2 != .free || (cl.lookup p.1).isSome)=true
 fre:Paired (λ(x:Str) (j:Nat)=>X.N[j]?=some x/\(X.env.scope.names.lookup x=some .cell\/X.env.scope.names.lookup x=some .free)/\scope.names.lookup x=some .free) fr js
theorem ni{env:Env}{x:Str}{k':NameKind}:∀{names:List (Str×NameKind)},
 (names.map λ(n,k)=>if(k == NameKind.free&&env.scope.kind == .function&&env.kindOf n == some .cell)then(n,NameKind.cell)else(n,k)).lookup x=some k' ->
 ∃k,names.lookup x=some k/\(k'=k\/(k=.free/\k'=.cell))
 | [],h=>by simp at h
 | (n,k)::r,h=>by
  have ih:=@ni env x k' r;change List.lookup x ((if(k == NameKind.free&&env.scope.kind == .function&&env.kindOf n == some .cell)=true then(n,NameKind.cell)else(n,k))::_)=_ at h
  by_cases hc:(k == NameKind.free&&env.scope.kind == .function&&env.kindOf n == some .cell)=true
  ·rw[if_pos hc]at h;cases hx:x == n with
   |true =>simp only[Fm,hx]at h ⊢;cases h;refine⟨k,rfl,.inr ⟨?_,rfl⟩⟩;simp only[EZ,beq_iff_eq]at hc;exact hc.1.1
   |false =>simp only[Fm,hx]at h ⊢;exact ih h
  ·rw[if_neg hc]at h;cases hx:x == n with
   |true =>simp only[Fm,hx]at h ⊢;cases h;exact⟨_,rfl,.inl rfl⟩
   |false =>simp only[Fm,hx]at h ⊢;exact ih h
theorem rg{env:Env}{x:Str}:∀{names:List (Str×NameKind)},names.lookup x=some .free ->
 (names.map λ(n,k)=>if(k == NameKind.free&&env.scope.kind == .function&&env.kindOf n == some .cell)then(n,NameKind.cell)else(n,k)).lookup x=some .cell \/
 (names.map λ(n,k)=>if(k == NameKind.free&&env.scope.kind == .function&&env.kindOf n == some .cell)then(n,NameKind.cell)else(n,k)).lookup x=some .free
 | [],h=>by simp at h
 | (n,k)::r,h=>by
  have ih:=@rg env x r;show List.lookup x ((if(k == NameKind.free&&env.scope.kind == .function&&env.kindOf n == some .cell)=true then(n,NameKind.cell)else(n,k))::_)=_\/List.lookup x ((if(k == NameKind.free&&env.scope.kind == .function&&env.kindOf n == some .cell)=true then(n,NameKind.cell)else(n,k))::_)=_;by_cases hc:(k == NameKind.free&&env.scope.kind == .function&&env.kindOf n == some .cell)=true
  ·rw[if_pos hc];cases hx:x == n with
   |true=>simp only[Fm,hx];exact .inl trivial
   |false=>simp only[Fm,hx]at h ⊢;exact ih h
  ·rw[if_neg hc];cases hx:x == n with
   |true =>simp only[Fm,hx]at h ⊢;cases h;exact .inr rfl
   |false=>simp only[Fm,hx]at h ⊢;exact ih h
noncomputable def fe(n:Nat)(js:List Nat)(σ:St):St:=List.replicate n none++js.map λj=>(σ[j]?).join
def mr(n:Nat)(js:List Nat)(g:TG)(te:TE)(σ:St)(Q:VK)(J:It)(H1:Hp):Prop:=∃W:Nat->Nat->List V->St->Hp->Prop,(∃m,W 0 m [] (fe n js σ) H1) /\
 ∀i m ys σ' H',W i m ys σ' H' ->
  (J.stop i H'/\∀p,H' p=none->Q (.ref p) (upd H' p (.lst ys))) \/
  (J.go i H'/\ys.length<sizeLine/\∃N:V->St->Hp->Prop,(∀y σ'' H'',N y σ'' H''->∃m',m'<m/\W (i+1) m' (ys++[y]) σ'' H'')/\∀x H2,J.yld i H' x H2->g x σ' H2 λσ3 H3=>te σ3 H3 λy H4=>N y σ3 H4)
def vA(n:Nat)(js:List Nat)(wi:TI)(g:TG)(te:TE):TE:=λσ H Q=>wi σ H λJ H1=>mr n js g te σ Q J H1
noncomputable def DW(X:Cx)(pins:List (Addr×Obj))(σ:St)(Q:VK)(D C:Addr)(s':Shared):Prop :=
 ∃H2,Inv X pins σ H2 s'/\Q (.ref D) H2/\H2 C=none/\C≠X.env.locals/\X.s₀.heap.objs.size<=C/\(∀x c,X.env.cells.lookup x=some c->c≠C)/\(∀p∈X.pn++pins,p.1≠C)/\∃m,s'.heap.Ns C m
section
variable {X:Cx}{own fr:List Str}{js:List Nat}{scope:Scope}{cl:List (Str×Addr)}{elt target iter:Expr}{pos:Pos}{wi:TI}{g:TG}{te:TE}
theorem fk(O:CompOk X fr js scope cl){x:Str}{c:Addr}(e:cl.lookup x=some c):X.env.cells.lookup x=some c:=O.clin (x,c) (PySem.mem_of_lookup e)
theorem uf{pins:List (Addr×Obj)}{σ:St}{H:Hp}{s:Shared}{fp:List Addr}{C:Addr}(O:CompOk X fr js scope cl)(I:Inv X pins σ H s)(hC:s.heap.objs.size<=C)(hf:∀b∈fp,dH X pins H b)(ho:∀b∈fp,b<s.heap.objs.size) :
 (fj X (own++fr) scope cl C s H fp).Ok:=by
 refine⟨I.ok.mod,O.kind,I.ok.glob,I.ok.blt,hC,λx y c h1 h2=>I.ok.inj x y c (fk O h1) (fk O h2),λx hx=>?_,λx c h=>(by cases h),I.ok.hd,I.ok.frames,.inl rfl,λb hb=>?_,I.bs,?_,λb o e hb=>?_,λb hb hb'=>?_,I.stack,I.stkFree⟩
 ·have key:scope.names.lookup x=some .free:=by
   have hx':(scope.names.map λ(n,k)=>if(k == NameKind.free&&X.env.scope.kind == .function&&X.env.kindOf n == some .cell)then(n,NameKind.cell)else(n,k)).lookup x=some .cell \/
    (scope.names.map λ(n,k)=>if(k == NameKind.free&&X.env.scope.kind == .function&&X.env.kindOf n == some .cell)then(n,NameKind.cell)else(n,k)).lookup x=some .free:=hx
   rcases hx' with h |h
   ·obtain⟨k,e,z⟩:=ni h;rcases z with z |⟨z,_⟩
    ·subst z;exact absurd rfl (O.cell _ (PySem.mem_of_lookup e))
    ·subst z;exact e
   ·obtain⟨k,e,z⟩:=ni h;rcases z with z |⟨_,z⟩
    ·subst z;exact e
    ·cases z
  have hm:=Fg.mp O.has _ (PySem.mem_of_lookup key);have hs:(cl.lookup x).isSome=true:=by simpa using hm
  exact Option.isSome_iff_exists.mp hs
 ·obtain⟨f0,f1,f2,f3,f4,f5⟩:=hf b hb;exact⟨E3 (ET (ho b hb) hC),λx c e=>f4 x c (fk O e)⟩
 ·exact ES I.ok.bsz I.sz
 ·obtain⟨f0,f1,f2,f3,f4,f5⟩:=hf b hb;rcases f3 with z |z
  ·exact I.ok.noex b o e z
  ·exact absurd (ET (Heap.lt_size e) (ES I.ok.bsz z)) (E9 _)
 ·obtain⟨f0,f1,f2,f3,f4,f5⟩:=hf b hb;rcases EQ.mp (I.stkSub b hb')with z |z
  ·exact f1 z
  ·exact f2 z
theorem Paired.idx{α β:Type}{F:α->β->Prop}:∀{l₁:List α} {l₂:List β},Paired F l₁ l₂->∀(i:Nat) (a:α) (b:β),l₁[i]?=some a->l₂[i]?=some b->F a b
 |_,_,.nil,_,_,_,h,_=>by simp at h
 |_,_,.cons r _,0,a,b,h1,h2=>by simp at h1 h2;subst h1;subst h2;exact r
 |_,_,.cons _ t,i+1,a,b,h1,h2=>Paired.idx t i a b (by simpa using h1) (by simpa using h2)
theorem Cb{pins:List (Addr×Obj)}{σ:St}{H:Hp}{s s':Shared}{fp:List Addr}{C:Addr}{m:Str->Option Value}(O:CompOk X fr js scope cl)(hl:fr.length=js.length)(I:Inv X pins σ H s)(hC:s.heap.objs.size<=C)(hf:∀b∈fp,dH X pins H b)
 (ho:∀b∈fp,b<s.heap.objs.size) (os:s'.os=s.os) (hg:s'.gens=s.gens) (old:∀b o,s.heap.get? b=some o->s'.heap.get? b=some o) (hn:s'.heap.Ns C m) :
 Inv (fj X (own++fr) scope cl C s H fp) [] (fe own.length js σ) H s':=by
 refine⟨uf O I hC hf ho,os,by rw[hg];exact I.bare,Un.kept old,⟨m,hn,λi x v e1 e2 e3=>?_⟩,λx c e=>?_,I.hok.fresh hC,λx c e=>I.freeC x c (fk O e),λp hp=>absurd (show p∈([]:List (Addr×Obj))from hp) (by simp),I.hok.kept old,?_⟩
 ·unfold fe at e2
  have e1':(own++fr)[i]?=some x:=e1;by_cases hi:i<own.length
  ·rw[List.getElem?_append_left (by simpa using hi),List.getElem?_replicate]at e2;split at e2<;>cases e2
  ·have hi':own.length<=i:=FE hi;rw[List.getElem?_append_right (by simpa using hi'),E8,List.getElem?_map]at e2;rw[List.getElem?_append_right hi']at e1';cases ej:js[i-own.length]? with
   |none=>rw[ej]at e2;cases e2
   |some j =>
    rw[ej]at e2;have e2':(σ[j]?).join=some v:=Option.some.inj e2
    have eσ:σ[j]?=some (some v):=by
     cases q:σ[j]? with
     |none=>rw[q]at e2';cases e2'
     |some o=>rw[q]at e2';simp at e2';rw[e2']
    obtain⟨hN,hk,hs⟩:=Paired.idx O.fre _ x j e1' ej;obtain⟨mo,hmo,hlo⟩:=I.loc;have vis:Vis X.env.scope x:=hk.elim (λz=>.inr (.inl z)) λz=>.inr (.inr z)
    obtain⟨u,r,l⟩:=hlo j x v hN eσ vis;refine⟨u,r,.inr ⟨rg hs,?_⟩⟩;have hm:=Fg.mp O.has _ (PySem.mem_of_lookup hs);have hs':(cl.lookup x).isSome=true:=by simpa using hm
    obtain⟨c,ec⟩:=Option.isSome_iff_exists.mp hs';refine⟨c,ec,?_⟩;rcases l with⟨k,_⟩ |⟨_,c',e',z⟩
    ·have k':X.env.scope.names.lookup x=some .local:=k;rcases hk with q |q<;>(rw[q]at k';cases k')
    ·have:=fk O ec;rw[e']at this;cases this;obtain⟨oc,hoc,hd⟩:=z;exact⟨oc,old _ _ hoc,hd⟩
 ·obtain⟨v,oc,hoc,hd⟩:=I.cell x c (fk O e);exact⟨v,oc,old _ _ hoc,hd⟩
 ·unfold fe;show _=(own++fr).length;rw[ER,ER,E8,EN,hl]
theorem Un.adopt{fs ex:List Addr}{H H1:Hp}{h h1:Heap}{a:Addr}{o:HO}(u:Un fs ex H H1 h h1)(ha:h.objs.size<=a)(hn:H a=none):Un fs ex H (upd H1 a o) h h1 where
 keep:=u.keep
 slot:=u.slot
 free:=λb ob q n hx=>by rw[upd_ne (E3 (ET (Heap.lt_size q) ha))];exact u.free b ob q n hx
 there:=u.there
 tups:=λb xs q=>by rw[upd_ne (aX q hn)];exact u.tups b xs q
 frzs:=λb ob xs q=>by rw[upd_ne (aX q hn)];exact u.frzs b ob xs q
 tbls:=λb ps q=>by rw[upd_ne (aX q hn)];exact u.tbls b ps q
theorem HOk.adopt{P:Program}{w:World}{H:Hp}{h:Heap}{a:Addr}{o:HO}(x:HOk P w H h)(hn:H a=none)(new:ObjOk P w (upd H a o) h a o):HOk P w (upd H a o) h:=λb u e=>by
 by_cases hb:b=a
 ·subst hb;rw[af]at e;cases e;exact new
 ·rw[upd_ne hb]at e;exact(x b u e).stay (λc v _ q=>q) (λc q=>by rw[upd_ne (aX q hn)];exact q) λc xs q=>by rw[upd_ne (aX q hn)];exact q
theorem Cg{pins:List (Addr×Obj)}{σ:St}{H:Hp}{s:Shared}{fp:List Addr}{it:Addr}{tn:Nat->Heap->Prop}{J:It}{E:Value->Shared->Prop}{Q:VK}{RR:Value->Addr->Result->Shared->Prop}(O:CompOk X fr js scope cl)(hl:fr.length=js.length)(hcm:X.calm=true)
 (I:Inv X pins σ H s) (T:Turn X.prog X.w X.K target J fp it tn) (st:tn 0 s.heap) (hf:∀b∈fp,dH X pins H b)
 (hg:∀C s₀ H₀ ex,PG (fj X (own++fr) scope cl C s₀ H₀ ex) target g) (he:∀C s₀ H₀ ex,PE (fj X (own++fr) scope cl C s₀ H₀ ex) elt te)
 (W:Nat->Nat->List V->St->Hp->Prop) {m0:Nat} (w0:W 0 m0 [] (fe own.length js σ) H)
 (turn:∀i m ys σ' H',W i m ys σ' H' ->
   (J.stop i H'/\∀p,H' p=none->Q (.ref p) (upd H' p (.lst ys))) \/
   (J.go i H'/\ys.length<sizeLine/\∃N:V->St->Hp->Prop,(∀y σ'' H'',N y σ'' H''->∃m',m'<m/\W (i+1) m' (ys++[y]) σ'' H'')/\∀x H2,J.yld i H' x H2->g x σ' H2 λσ3 H3=>te σ3 H3 λy H4=>N y σ3 H4))
 (hRR:∀D C s',DW X pins σ Q D C s'->RR (.ref D) C (.ok .next) s') :
 wpAny (model X.prog X.w) X.A (newList []) (λacc s₃=>wpAny (model X.prog X.w) X.A (newFunctionEnv scope X.env.globals cl [] X.env.qual none .none (some X.env)) (λcenv s₄ =>
  codeAny (model X.prog X.w) X.A (.compStart (.ListComp elt [⟨target,iter,[],0⟩] scope pos) 0 (.ref it) acc { cenv with scope:=relabel scope X.env }) (RR acc cenv.locals) s₄) E s₃) E s:=by
 refine wpAny_newObj_type (wpAny_newFunctionEnv O.cell (by intro y hy;simp at hy) (λh₁ hns₁ hsb₁=>?_) O.kind);dsimp only at hns₁ hsb₁ ⊢
 generalize hH2:s.heap.push { cls:=.type "list",dict:=none,data:=.seq ([]:List Value).toArray }=H2 at hns₁ hsb₁ ⊢
 have hCs:H2.objs.size=s.heap.objs.size+1:=by rw[<- hH2,Heap.size_push]
 have hDC:s.heap.objs.size≠H2.objs.size:=by rw[hCs];exact E3 (FA _)
 have hCge:s.heap.objs.size<=H2.objs.size:=by rw[hCs];exact Nat.le_succ _
 have below:∀b,b<s.heap.objs.size->b≠H2.objs.size/\b≠s.heap.objs.size:=λb hb=>⟨by rw[hCs];exact E3 (Nat.lt_succ_of_lt hb),E3 hb⟩
 have old:∀b o,s.heap.get? b=some o->h₁.get? b=some o:=λb o e=>hsb₁.extBut b o (below b (Heap.lt_size e)).1 (Heap.get?_push_of_some _ (hH2 ▸ Heap.get?_push_of_some _ e))
 have hacc:h₁.get? s.heap.objs.size=some { cls:=.type "list",data:=.seq ([]:List Value).toArray 0 }:=hsb₁.extBut _ _ hDC (Heap.get?_push_of_some _ (hH2 ▸ Heap.get?_push_size _ rfl));have ho:∀b∈fp,b<s.heap.objs.size:=λb hb=>by obtain⟨o,e,_⟩:=T.obj 0 _ st b hb;exact Heap.lt_size e
 generalize hDe:s.heap.objs.size=D at *
 generalize hCe:H2.objs.size=C at *
 let X':Cx:=fj X (own++fr) scope cl C s H fp
 have ok':X'.Ok:=uf O I (by rw[hDe];exact hCge) hf (by rw[hDe];exact ho)
 have hDfs:D∉X'.fs:=by
  intro z;rcases EQ.mp (I.stkSub D z)with q |q
  ·exact absurd I.lt (by rw[<- q,hDe];exact E9 _)
  ·exact I.nofs (Fp hDe) q
 have hDfp:∀b∈fp,D≠b:=λb hb z=>absurd (ho b hb) (by rw[z];exact E9 _)
 have hDcell:∀x c,cl.lookup x=some c->c≠D:=λx c e z=>by obtain⟨v,q⟩:=I.cell x c (fk O e);exact absurd q.lt (by rw[z,hDe];exact E9 _)
 have fpok:∀{H':Hp} {pins':List (Addr×Obj)},(∀p∈pins',p.1=D)->(∀b∈fp,H' b=none)->∀b∈fp,dH X' pins' H' b:=λ{H' pins'} hp hn b hb=>by
  obtain⟨f0,f1,f2,f3,f4,f5⟩:=hf b hb;refine⟨hn b hb,(below b (ho b hb)).1,λz=>?_,.inl hb,λx c e=>f4 x c (fk O e),λp hp'=>?_⟩
  ·rcases EQ.mp (I.stkSub b z)with q |q
   ·exact f1 q
   ·exact f2 q
  ·have hp'':p∈pins':=by simpa[X',fj]using hp'
   rw[hp p hp''];exact hDfp b hb
 have loop:∀s₃:Shared,s₃={ s with heap:=h₁,toks:=s.toks+([]:List (Str×Value)).length } ->
  codeAny (model X.prog X.w) X.A (.compLoop (.ListComp elt [⟨target,iter,[],0⟩] scope pos) 0 (.ref it) (.ref D) (compEnvC scope cl C X.env)) (RR (.ref D) C) s₃:=by
  rintro s₃ rfl
  refine PySem.W.kcp_loop (λk s'=>∃i σ' H' ys its nn,Inv X' [] σ' H' s'/\tn i s'.heap/\(∀b∈fp,H' b=none)/\H' D=none/\s'.heap.get? D=some { cls:=.type "list",data:=.seq (its:List Value).toArray nn }/\Vals ys its/\ys.length<=sizeLine/\W i k ys σ' H') ?_ m0
   ⟨0,_,H,[],[],0,Cb O hl I (by rw[hDe];exact hCge) hf (by rw[hDe];exact ho) rfl rfl (by intro b o e;exact old b o e) hns₁,T.keep _ _ _ st λb _ o e=>old b o e,λb hb=>(hf b hb).1,I.hok.fresh (Fp hDe),hacc,.nil,Fb _,w0⟩
  rintro k s' ⟨i,σ',H',ys,its,nn,I',st',hfn,hDn,hDo,rv,hz,w⟩;have hlen:=rv.length;have hpD:∀p∈[(D,({ cls:=.type "list",data:=.seq its.toArray nn }:Obj))],p.1=D:=λp hp=>by rw[E4.mp hp]
  have Ip:Inv X' [(D,({ cls:=.type "list",data:=.seq its.toArray nn }:Obj))] σ' H' s':=I'.pins_of λp hp=>by rw[E4.mp hp];exact⟨hDo,hDn,hDC,hDfs,λv z=>by cases z⟩
  rcases turn i k ys σ' H' w with⟨stop,fin⟩ |⟨go,hlt,N,hN,step⟩
  ·refine wpAny_mono (T.done X' rfl rfl rfl hcm i _ s' σ' H' (λ_ _=>False) Ip (fpok hpD hfn) st' stop) (λr s4 ⟨hr,I4⟩=>?_) λ_ _ z=>False.elim z
   subst hr;refine hRR D C s4 ?_;have hD4:s4.heap.get? D=some { cls:=.type "list",data:=.seq its.toArray nn }:=(I4.pin _ (Fe _ (E4.mpr rfl))).1;have un:Un (frs X.stack) fp H (upd H' D (.lst ys)) s.heap s4.heap:=Un.adopt I4.base (Fp hDe) (I.hok.fresh (Fp hDe));have hok:HOk X.prog X.w (upd H' D (.lst ys)) s4.heap:=HOk.adopt I4.hok hDn ⟨hz,its,nn,rv,hD4⟩;refine⟨upd H' D (.lst ys),I.call' I4.os un hok I4.bare λb hb=>?_,fin D hDn,?_,?_,?_,λx c e z=>?_,λp hp z=>?_,?_⟩
   ·obtain⟨f0,f1,f2,f3,f4,f5⟩:=hf b hb;exact⟨f3,f1,f4,f5⟩
   ·rw[upd_ne (Ne.symm hDC)];exact I4.free
   ·exact Nat.ne_of_gt (ET I.lt (by rw[hDe];exact hCge))
   ·exact ES I.sz (by rw[hDe];exact hCge)
   ·obtain⟨v,q⟩:=I.cell x c e;exact absurd (ET q.lt (by rw[hDe,z];exact hCge)) (E9 _)
   ·exact absurd (ET (Heap.lt_size (I.pin p hp).1) (by rw[hDe,z];exact hCge)) (E9 _)
   ·obtain⟨m',hn',_⟩:=I4.loc;exact⟨m',hn'⟩
  ·refine wpAny_mono (T.item X' rfl rfl rfl hcm i _ s' σ' H' (λ_ _=>False) Ip (fpok hpD hfn) st' go) (λr s4 ⟨u,hr,h4⟩=>?_) λ_ _ z=>False.elim z
   subst hr;refine wpAny_mono h4 (λ_ s5 ⟨x,H5,I5,r5,y5,st5,fr5⟩=>?_) λ_ _ z=>False.elim z
   have I5':=I5.pinned (fpok hpD fr5) (T.obj _ _ st5);refine wpAny_mono (hg C s H fp _ s5 σ' H5 x u _ I5' r5 (step x H5 y5)) (λ_ s6 ⟨σ6,H6,I6,q6⟩=>?_) λ_ _ z=>False.elim z
   refine wpAny_mono (he C s H fp _ s6 σ6 H6 _ I6 q6) (λv s7 ⟨y,H7,I7,r7,n7⟩=>?_) λ_ _ z=>False.elim z
   obtain⟨m',hm',w7⟩:=hN y σ6 H7 n7;have hD7:=I7.pin (D,{ cls:=.type "list",data:=.seq its.toArray nn }) (Fe _ (List.mem_append_left _ (E4.mpr rfl)));refine append_at hD7.1 (λh8 sb hD8=>?_) (by rw[EY,<- hlen];exact hz);have I7':Inv X' [] σ6 H7 s7:=I7.pins_of λp hp=>absurd hp (by simp)
   have I8:Inv X' [] σ6 H7 { s7 with heap:=h8 }:=I7'.turned (t':=s7.toks) (it:=D) (λb o hb e=>(sb.2 b hb).trans e) hD7.2.1 hDC (.inr (Fp hDe)) hDcell (λp hp=>absurd (show p∈([]:List (Addr×Obj))from hp) (by simp));refine⟨m',hm',i+1,σ6,H7,ys++[y],its++[v],nn+1,I8,T.keep _ _ _ st5 λb hb o e=>?_,λb hb=>?_,hD7.2.1,?_,rv.append (.cons r7 .nil),?_,w7⟩
   ·exact(sb.2 b (λz=>hDfp b hb z.symm)).trans (I7.pin (b,o) (Fe _ (Fe _ (lG hb e)))).1
   ·obtain⟨o,e,d⟩:=T.obj _ _ st5 b hb;exact(I7.pin (b,o) (Fe _ (Fe _ (lG hb e)))).2.1
   ·rw[hD8,List.push_toArray]
   ·rw[ER,FK];exact hlt
 exact codeAny_compStart_list (loop _ rfl) (T.self _ 0 _ _ _ (T.keep _ _ _ st λb _ o e=>old b o e) (loop _ rfl))
theorem nE(O:CompOk X fr js scope cl)(hcm:X.calm=true)(hi:PI X target iter wi)(hg:∀C s₀ H₀ ex,PG (fj X (own++fr) scope cl C s₀ H₀ ex) target g)(he:∀C s₀ H₀ ex,PE (fj X (own++fr) scope cl C s₀ H₀ ex) elt te)
 (hs:∀x,foldedSetIterable iter X.env x=pure x:=by intro _;rfl):PE X (.ListComp elt [⟨target,iter,[],0⟩] scope pos) (vA own.length js wi g te):=by
 intro pins s σ H Q I h;rw[eval_ListComp];refine wpAny_comprehension_free (use:=none) rfl hs O.clos O.kind O.names (thn (hi pins s σ H _ I h) λx s1 h1=>thn h1 λitv s2 h2=>?_);obtain⟨it,fp,tn,J,H2,rfl,I2,T,st,hf,W,⟨m0,w0⟩,turn⟩:=h2;refine Cg (RR:=λacc C=>compPost (model X.prog X.w) X.A X.xe none (EP X pins σ Q) acc C) O (Paired.length O.fre) hcm I2 T st hf hg he W w0 turn ?_;rintro D C s' ⟨H3,I3,q,c1,c2,c3,c4,c5,m,hn⟩;exact⟨m,hn,λh' sb=>⟨.ref D,H3,I3.turned (t':=s'.toks) (it:=C) (λb o hb e=>(sb.2 b hb).trans e) c1 c2 (.inr c3) c4 c5,rfl,q⟩⟩
end
theorem Cf{n:Nat}{js:List Nat}{K:PySem.W.Frag}{a:Addr}{xs:List V}{g:TG}{te:TE}{σ0:St}{H:Hp}{Q:VK}(Pv:Nat->List V->St->Hp->Prop)(hz:xs.length<=sizeLine)(h0:Pv 0 [] (fe n js σ0) H)(hl:∀i ys σ H,i<=xs.length->Pv i ys σ H->SqL K H a xs/\ys.length<=i)
 (hs:∀i x ys σ H,xs[i]?=some x->Pv i ys σ H->g x σ H λσ2 H2=>te σ2 H2 λy H3=>Pv (i+1) (ys++[y]) σ2 H3) (hd:∀ys σ H p,Pv xs.length ys σ H->H p=none->Q (.ref p) (upd H p (.lst ys))) :
 mr n js g te σ0 Q (Itl K a) H:=by
 refine⟨λi m ys σ H=>m=xs.length-i/\i<=xs.length/\Pv i ys σ H,⟨xs.length,by simp,Fb _,h0⟩,?_⟩;rintro i m ys σ H ⟨rfl,hi,p⟩;obtain⟨q,hy⟩:=hl i ys σ H hi p;by_cases hlt:i<xs.length
 ·refine .inr ⟨⟨xs,xs[i],q,by simp[hlt]⟩,by omega,λy σ'' H''=>Pv (i+1) (ys++[y]) σ'' H'',λy σ' H' p'=>⟨xs.length-(i+1),by omega,rfl,hlt,p'⟩,λx H' y=>?_⟩;obtain⟨e,y⟩:=y;subst e;exact hs i x ys σ _ (y xs q) p
 ·have e:i=xs.length:=by omega
  subst e;exact .inl ⟨⟨xs,q,EO _⟩,λr hr=>hd ys σ H r p hr⟩
theorem Ce{k:Nat}{js:List Nat}{lo:Int}{n:Nat}{g:TG}{te:TE}{σ0:St}{H:Hp}{Q:VK}(Pv:Nat->List V->St->Hp->Prop)(hz:n<=sizeLine)(h0:Pv 0 [] (fe k js σ0) H)(hl:∀i ys σ H,i<=n->Pv i ys σ H->ys.length<=i)
 (hs:∀i ys σ H,i<n->Pv i ys σ H->g (.int (lo+i)) σ H λσ2 H2=>te σ2 H2 λy H3=>Pv (i+1) (ys++[y]) σ2 H3) (hd:∀ys σ H p,Pv n ys σ H->H p=none->Q (.ref p) (upd H p (.lst ys))) :
 mr k js g te σ0 Q (Itr lo n) H:=by
 refine⟨λi m ys σ H=>m=n-i/\i<=n/\Pv i ys σ H,⟨n,by simp,Fb _,h0⟩,?_⟩;rintro i m ys σ H ⟨rfl,hi,p⟩;have hy:=hl i ys σ H hi p;by_cases hlt:i<n
 ·refine .inr ⟨hlt,by omega,λy σ'' H''=>Pv (i+1) (ys++[y]) σ'' H'',λy σ' H' p'=>⟨n-(i+1),by omega,rfl,hlt,p'⟩,λx H' y=>?_⟩;obtain⟨e,y⟩:=y;subst e y;exact hs i ys σ _ hlt p
 ·have e:i=n:=by omega
  subst e;exact .inl ⟨EO _,λr hr=>hd ys σ H r p hr⟩
def Bits(k:Nat)(i:Int):Prop:=i.natAbs<2^k
theorem Bits.mono{j k:Nat}{i:Int}(h:Bits j i)(hk:j<=k:=by decide):Bits k i:=ET h (Fv (by decide) hk)
theorem Bits.mul{j k:Nat}{a b:Int}(ha:Bits j a)(hb:Bits k b):Bits (j+k) (a*b):=by
 unfold Bits at *
 rw[Int.natAbs_mul,Nat.pow_add];exact Nat.mul_lt_mul_of_lt_of_lt ha hb
theorem Bits.add{k:Nat}{a b:Int}(ha:Bits k a)(hb:Bits k b):Bits (k+1) (a+b):=by
 unfold Bits at *
 have:=Int.natAbs_add_le a b;rw[Nat.pow_succ];omega
theorem Bits.neg{k:Nat}{a:Int}(ha:Bits k a):Bits k (-a):=by unfold Bits at *;rwa [Int.natAbs_neg]
theorem Bits.sub{k:Nat}{a b:Int}(ha:Bits k a)(hb:Bits k b):Bits (k+1) (a-b):=by rw[Int.sub_eq_add_neg];exact ha.add hb.neg
theorem Bits.of_le{k:Nat}{a b:Int}(hb:Bits k b)(h:a.natAbs<=b.natAbs):Bits k a:=Nat.lt_of_le_of_lt h hb
theorem Bits.zero{k:Nat}:Bits k 0:=Nat.pow_pos (by decide)
theorem Bits.log{k:Nat}{i:Int}(h:Bits k i)(hk:0<k):i.natAbs.log2<k:=by
 by_cases h0:i.natAbs=0
 ·rw[h0];simpa using hk
 ·exact(Nat.log2_lt h0).mpr h
theorem Bits.int{k:Nat}{i:Int}(h:Bits k i)(hk:k<=1000000):Builtin.Int.intBits i<=2^20:=by
 have e:(2:Nat)^20=1048576:=by decide
 unfold Builtin.Int.intBits;split
 ·exact Fb _
 ·rename_i hn
  have h0:i.natAbs≠0:=by intro z;have:i=0:=Int.natAbs_eq_zero.mp z;exact hn (by simp[this])
  have:=(Nat.log2_lt h0).mpr h;omega
section
variable {X:Cx}{a b:Expr}{ta tb:TE}{pos:Pos}
def En(i j:Int):Prop:=Bits 1000000 i/\Bits 1000000 j
theorem dA:OpR X (binaryOp .Mult) (rI En λi j=>.int (i*j)):=opI λ_ _ _ _ _ _ _ hc q=>mul_int q (.of_bits (hc.1.int (EO _)) (hc.2.int (EO _)))
theorem aH:OpR X (binaryOp .Mod) (rI (λ_ j=>0<j) λi j=>.int (i%j)):=xt
def uV(_ j:Int):Prop:=0<j/\Bits 9000 j
theorem bq:OpR X (binaryOp .FloorDiv) (rI uV λi j=>.int (i/j)):=opI λi j _ _ _ _ _ hc q=>by refine floordiv_int (Int.ne_of_gt hc.1) ?_ (.inl (PyProof.noPylong_of_log2 (hc.2.log (by decide))));rw[Int.fdiv_eq_ediv_of_nonneg _ (Int.le_of_lt hc.1)];exact q
def Eo(_ j:Int):Prop:=j≠0/\Bits 9000 j
theorem rK:OpR X (binaryOp .FloorDiv) (rI Eo λi j=>.int (i.fdiv j)):=opI λ_ _ _ _ _ _ _ hc q=>floordiv_int hc.1 q (.inl (PyProof.noPylong_of_log2 (hc.2.log (by decide))))
theorem bS:OpR X (compareOp .Eq) (rI0 λi j=>.bl (decide (i=j))):=jh λ_ _ _ _ _ _ _ q=>eq_int (by rw[Bool.beq_eq_decide_eq];exact q)
theorem xr:OpR X (compareOp .NotEq) (rI0 λi j=>.bl (!decide (i=j))):=jh λ_ _ _ _ _ _ _ q=>ne_int (by rw[bne,Bool.beq_eq_decide_eq];exact q)
def rp(K:PySem.W.Frag):R2:=λx y H Q=>∃(a b:Addr) (ns ms:List Int),x=.ref a/\y=.ref b/\SqL K H a (ns.map V.int)/\SqL K H b (ms.map V.int)/\Q (.bl (!decide (ns=ms))) H
theorem xq(hu:X.A.units+64<cLine):OpR X (compareOp .NotEq) (rp X.K):=by intro pins s σ H x y v u Q I rx ry h;obtain⟨a,b,ns,ms,rfl,rfl,ha,hb,q⟩:=h;cases rx;cases ry;obtain⟨i1,r1,p1,_⟩:=I.list ha;obtain⟨i2,r2,p2,_⟩:=I.list hb;exact PySem.W.ne_intsK p1.isList (tE r1) p2.isList (tE r2) hu ⟨.bl _,H,I,rfl,q⟩
noncomputable def io(K:PySem.W.Frag):List V->Hp->VK->Prop:=λxs H Q=>∃(x:V) (t c:Value) (n:V) (k:Bool),xs=[x,n]/\RelV n c/\(∀u,RelV n u->u=c)/\TyOf K H x t/\PySem.W.kitOne K t c=some k/\Q (.bl k) H
theorem Cr:cy X (.builtin "isinstance") (io X.K):=by intro pins s σ H xs us Q I r h;obtain⟨x,t,c,n,k,rfl,rn,hn,ty,e,q⟩:=h;obtain⟨u1,u2,rfl,r1,r2⟩:=r.two;obtain rfl:=hn u2 r2;exact Av I r1 ty e λtk=>⟨.bl k,H,I.tok tk,rfl,q⟩
theorem lT{K:PySem.W.Frag}{H:Hp}{Q:VK}{x:V}{n:String}{t:Value}{k:Bool}(ty:TyOf K H x t)(e:PySem.W.kitOne K t (.type n)=some k)(q:Q (.bl k) H):io K [x,.ty n] H Q :=
 ⟨x,t,.type n,.ty n,k,rfl,rfl,λ_ h=>h,ty,e,q⟩
theorem dg{K:PySem.W.Frag}{H:Hp}{Q:VK}{x:V}{C:Addr}{t:Value}{k:Bool}(ty:TyOf K H x t)(e:PySem.W.kitOne K t (.ref C)=some k)(q:Q (.bl k) H):io K [x,.ref C] H Q :=
 ⟨x,t,.ref C,.ref C,k,rfl,rfl,λ_ h=>h,ty,e,q⟩
end
section
variable {D:Ends}{σ:St}{H:Hp}{Q:VK}{t u:TS}{te ta tb:TE}{c:TT}{i:Nat}{v:V}{r:R2}
theorem nj(h:t { D with nx:=u D } σ H):cr t u D σ H:=h
theorem eM(P:St->Hp->Prop)(h1:∀σ' H',P σ' H'->u D σ' H')(h2:(∀σ' H',P σ' H'->u D σ' H')->t { D with nx:=u D } σ H):cr t u D σ H:=h2 h1
theorem db(P:St->Hp->Prop)(h:P σ H)(h1:∀σ' H',P σ' H'->u D σ' H'):u D σ H:=h1 σ H h
theorem ay(h:te σ H λx H1=>u D (σ.set i (some x)) H1):cr (iP te (lY i)) u D σ H:=h
theorem c0(h:te σ H λ_ H1=>u D σ H1):cr (mE te) u D σ H:=h
theorem ax{t1:TS}(h:c σ H λb H1=>if b=true then t1 { D with nx:=u D } σ H1 else u D σ H1):cr (du c t1 mz) u D σ H:=h
theorem cs{K:PySem.W.Frag}{n:V}(h:ta σ H λx H1=>io K [x,n] H1 Q):tCB (io K) (fz ta (fz (tC n) fZ)) σ H Q:=h
theorem rj{t1 t2:TS}(P:St->Hp->Prop)(h1:∀σ' H',P σ' H'->u D σ' H')(h2:(∀σ' H',P σ' H'->u D σ' H')->c σ H λb H1=>if b=true then t1 { D with nx:=u D } σ H1 else t2 { D with nx:=u D } σ H1):cr (du c t1 t2) u D σ H:=h2 h1
theorem cg(h:te σ H λx H1=>D.nx (σ.set i (some x)) H1):iP te (lY i) D σ H:=h
theorem aM(h:te σ H D.rt):qD te D σ H:=h
theorem nr(h:te σ H λ_ H1=>D.nx σ H1):mE te D σ H:=h
theorem nl(h:D.nx σ H):mz D σ H:=h
theorem cu(h:c σ H λb H1=>if b=true then t D σ H1 else u D σ H1):du c t u D σ H:=h
theorem nu{K:Bool->Hp->Prop}(h:te σ H λx H'=>∃k,x=.bl k/\K k H'):tB te σ H K:=h
theorem dR{K:Bool->Hp->Prop}{tt:TT}(h:tt σ H λk H1=>K (!k) H1):qG tt σ H K:=h
theorem eN{K:Bool->Hp->Prop}{t1 t2:TT}(h:t1 σ H λk H1=>if k=true then t2 σ H1 K else K false H1):qK t1 t2 σ H K:=h
theorem iX{K:Bool->Hp->Prop}{t1 t2:TT}(h:t1 σ H λk H1=>if k=true then K true H1 else t2 σ H1 K):tOr t1 t2 σ H K:=h
theorem aP(h:ta σ H λx H1=>∃k,x=.bl k/\if k=true then tb σ H1 Q else Q (.bl false) H1):qJ ta tb σ H Q:=h
theorem da(h:ta σ H λx H1=>∃k,x=.bl k/\if k=true then Q (.bl true) H1 else tb σ H1 Q):qE ta tb σ H Q:=h
theorem wy(h:ta σ H λx H1=>∃k,x=.bl k/\Q (.bl (!k)) H1):qF ta σ H Q:=h
theorem rl{K:PySem.W.Frag}{T:String}{f:V->List V->Hp->VK->Prop}{t:TA}(h:te σ H λx H1=>tyV K T x H1/\t σ H1 λxs H2=>f x xs H2 Q):tBM K T f te t σ H Q:=h
theorem rh{a b:Int}(e:a=b)(h:Q (.bl true) H):Q (.bl (decide (a=b))) H:=by rw[decide_eq_true e];exact h
theorem aB{A B:Prop}(h:A):if true=true then A else B:=by rw[if_pos rfl];exact h
theorem aE{A B:Prop}(h:B):if false=true then A else B:=by rw[if_neg EU];exact h
theorem ap{p A B:Prop}[Decidable p](h1:p->A)(h2:¬p->B):if decide p=true then A else B:=by
 by_cases hp:p
 ·rw[if_pos (decide_eq_true hp)];exact h1 hp
 ·rw[if_neg (by rw[decide_eq_false hp];exact EU)];exact h2 hp
theorem iY{p A B:Prop}[Decidable p](h1:¬p->A)(h2:p->B):if(!decide p)=true then A else B:=by
 by_cases hp:p
 ·rw[if_neg (by rw[decide_eq_true hp];exact EU)];exact h2 hp
 ·rw[if_pos (by rw[decide_eq_false hp];rfl)];exact h1 hp
end
structure Cal(P:Program)(w:World)(K:PySem.W.Frag)(mg:Str->Option Value)(base:Heap)(k:Nat)(x:Str)(ps:List Str)(sp:Sp)(f:Addr)(fd:FuncData):Prop where
 ok:FnOk P w K mg base CX0 k f fd ps sp
 mg:mg x=some (.ref f)
 kp:PySem.W.keepIn K (.ref f)=true
 bd:Binds K fd ps []
theorem Same.upd_new{H:Hp}{p:Addr}{o:HO}(h:H p=none):Same H (upd H p o):=λb u e=>by rw[upd_ne (aX e h)];exact e
theorem Same.then_new{H H1:Hp}{p:Addr}{o:HO}(s:Same H H1)(h:H1 p=none):Same H (upd H1 p o):=s.trans (Same.upd_new h)
theorem Same.ne{H H1:Hp}{a p:Addr}{o:HO}(s:Same H H1)(e:H a=some o)(h:H1 p=none):a≠p:=aX (s a o e) h
section
variable {X:Cx}{K:PySem.W.Frag}
theorem bT(h:X.K=K):IxR X (rq K):=by subst h;exact Au
theorem aC(h:X.K=K):IxR X (lf K):=by subst h;exact At
theorem m6(h:X.K=K):SlR X (nw K):=by subst h;exact vJ
noncomputable def wO(K:PySem.W.Frag):List V->Hp->VK->Prop:=λxs H Q=>∃p ys,xs=[.ref p]/\(SqL K H p ys\/SqT K H p ys)/\Q (.int ys.length) H
theorem cW(h:X.K=K):cy X (.builtin "len") (wO K):=by subst h;exact Cq
noncomputable def wN(K:PySem.W.Frag):List V->Hp->VK->Prop:=λxs H Q=>∃p ys,xs=[.ref p]/\(SqL K H p ys\/SqT K H p ys)/\∀l,H l=none->Q (.ref l) (upd H l (.lst ys))
theorem Cp(h:X.K=K):cy X (.type "list") (wN K):=by subst h;exact Co
theorem xp(h:X.K=K)(hu:X.A.units+64<cLine):OpR X (compareOp .NotEq) (rp K):=by subst h;exact xq hu
theorem cx(h:X.K=K):cy X (.builtin "isinstance") (io K):=by subst h;exact Cr
theorem lp{tg l:Expr}{tl:TE}(h:X.K=K)(hl:PE X l tl):PI X tg l (tM K tl):=by subst h;exact w9 hl
theorem wZ{tg l:Expr}{tl:TE}(h:X.K=K)(hl:PE X l tl):PI X tg l (tK K tl):=by subst h;exact w5 hl
theorem aN{e:Expr}{ta:TE}{f:Str}{pos:Pos}(h:X.K=K)(he:PE X e ta)(hb:attributeBase e f X.env (eval e X.env)=eval e X.env):PE X (.Attribute e f pos) (qI K ta f):=by subst h;exact xj he hb
end
section
variable {X:Cx}
end
section
variable {X:Cx}{tg:Expr}
end
structure FunD(K:PySem.W.Frag)(x qual:Str)(st:Stmt)(dV:Value)(f:Addr)(fd:FuncData):Prop where
 ex:∃(oc:Value) (od:Option Addr) (kV doc pm:Value) (an:Option Addr) (cdv ct:Value) (osl:Array (Option Value)),
  fd=PySem.W.fnOf x qual (aw st) (au st) (ah st) dV kV doc pm an cdv ct/\K.lookup f=some ⟨oc,od,.func fd,osl⟩/\PySem.W.codeIn K cdv qual=true
 kp:PySem.W.keepIn K (.ref f)=true
section
variable {P:Program}{w:World}{K:PySem.W.Frag}{mg:Str->Option Value}{base:Heap}
theorem FunD.ok{x qual:Str}{st:Stmt}{dV:Value}{f:Addr}{fd:FuncData}{N ps:List Str}{k:Nat}{sp:Sp}(F:FunD K x qual st dV f fd)(S:FnScope N ps (ah st))(len:∀vs H Q E,sp vs H Q E->vs.length=ps.length)
 (hbody:∀(cdv:Value) (A:Around) (outer:List Env) (s:Shared) (H:Hp) (vs:List V) (Q:VK) (E:XK),Room k (A.deeper (envOfC qual (ah st) s.heap.objs.size f cdv))->sp vs H Q E ->
   ∃t,PSs (bn CX0 P w K mg base N qual (ah st) f cdv A outer s H E).nox (au st) t/\t { nx:=λ_ H'=>Q .non H',rt:=Q } (cY N vs) H):FnOk P w K mg base CX0 (k+1) f fd ps sp:=by
 obtain⟨oc,od,kV,doc,pm,an,cdv,ct,osl,rfl,lk,hcd⟩:=F.ex;refine lZ lk hcd S len λA outer s H vs Q E hr hsp=>?_
 obtain⟨t,h,q⟩:=hbody cdv A outer s H vs Q E hr hsp;exact⟨t,h.nox,q⟩
theorem FunD.binds{x qual:Str}{st:Stmt}{dV:Value}{f:Addr}{fd:FuncData}{ps:List Str}(F:FunD K x qual st dV f fd)
 (h:∀(kV doc pm:Value) (an:Option Addr) (cdv ct:Value) (us:List Value),us.length=ps.length->bindArgs (PySem.W.fnOf x qual (aw st) (au st) (ah st) dV kV doc pm an cdv ct) ⟨us,[]⟩=pure (ps.zip us)):Binds K fd ps []:=by
 obtain⟨oc,od,kV,doc,pm,an,cdv,ct,osl,rfl,lk,hcd⟩:=F.ex;exact .all (h kV doc pm an cdv ct)
theorem FunD.bindsD{x qual:Str}{st:Stmt}{T:Addr}{f:Addr}{fd:FuncData}{ps:List Str}{ds tup:List Value}{o:Obj}{n:Nat}(m:Nat)(F:FunD K x qual st (.ref T) f fd)(lo:K.lookup T=some o)(hs:o.data=.seq tup.toArray n)(hm:m+ds.length=ps.length)
 (h:∀(kV doc pm:Value) (an:Option Addr) (cdv ct:Value) (us:List Value),us.length=m->∃k:Option (Array Value)->Sem (List (Str×Value)),
   bindArgs (PySem.W.fnOf x qual (aw st) (au st) (ah st) (.ref T) kV doc pm an cdv ct) ⟨us,[]⟩=seqItems? (.ref T) >>= k/\k (some tup.toArray)=pure (ps.zip (us++ds))):Binds K fd ps ds:=by
 obtain⟨oc,od,kV,doc,pm,an,cdv,ct,osl,rfl,lk,hcd⟩:=F.ex;intro s us KX hl;rw[ER]at hl;obtain⟨k,h1,h2⟩:=h kV doc pm an cdv ct us (by omega);exact PySem.W.binds_K (k:=k) KX rfl lo hs h1 h2
theorem A3{x qual:Str}{st:Stmt}{f:Addr}{oc:Value}{od an:Option Addr}{osl:Array (Option Value)}{dV kV doc pm cdv ct:Value}(l:K.lookup f=some ⟨oc,od,.func (PySem.W.fnOf x qual (aw st) (au st) (ah st) dV kV doc pm an cdv ct),osl⟩)
 (c:PySem.W.codeIn K cdv qual=true) (k:PySem.W.keepIn K (.ref f)=true):FunD K x qual st dV f (PySem.W.fnOf x qual (aw st) (au st) (ah st) dV kV doc pm an cdv ct):=⟨⟨oc,od,kV,doc,pm,an,cdv,ct,osl,rfl,l,c⟩,k⟩
end
structure MCal(P:Program)(w:World)(K:PySem.W.Frag)(mg:Str->Option Value)(base:Heap)(k:Nat)(C:Addr)(m:Str)(ps:List Str)(sp:Sp)(f:Addr)(fd:FuncData):Prop where
 ok:FnOk P w K mg base CX0 k f fd ps sp
 mt:Meth K C m f
 bd:Binds K fd ps []
structure KCal(P:Program)(w:World)(K:PySem.W.Frag)(mg:Str->Option Value)(base:Heap)(k:Nat)(C:Addr)(x:Str)(ps:List Str)(sp:Sp)(f:Addr)(fd:FuncData)(ds:List Value)(dvs:List V):Prop where
 ok:FnOk P w K mg base CX0 k f fd ps sp
 mkr:Mk K C f
 mg:mg x=some (.ref C)
 bd:Binds K fd ps []
 bdD:Binds K fd ps ds
 vd:Vals dvs ds
section
variable {prog:Program}{w:World}{A:Around}{E:Value->Shared->Prop}{s:Shared}
end
section
variable {X:Cx}{K:PySem.W.Frag}
end
noncomputable def CXW(P:Program)(w:World):CXT:=λouter H s E e s'=>∃(ea:Addr) (cls a0:Value) (B:Heap) (H':Hp),e=.ref ea/\s'.os=s.os/\AllBare s'.gens/\Un (frs outer) [] H H' s.heap s'.heap/\HOk P w H' s'.heap /\
 Heap.FlyingW B outer ea cls a0 s'.heap/\(∀b o,s.heap.get? b=some o->b∉frs outer->∃o',s'.heap.get? b=some o'/\B.get? b=some o')/\(∀b x,H' b=some x->∃o',s'.heap.get? b=some o'/\B.get? b=some o')/\H' ea=none/\s.heap.get? ea=none/\E cls none H'
theorem Un.back{fs:List Addr}{H H1:Hp}{h h1 h2:Heap}(u:Un fs [] H H1 h h1)(k:∀b o,h.get? b=some o->b∉fs->∃o',h1.get? b=some o'/\h2.get? b=some o')
 (hf:∀b∈fs,H b=none) (hd:∀b∈fs,∀o,h1.get? b=some o->∀vs,o.data≠.fields vs) (sl:h1.UpToSlots h2):Un fs [] H H1 h h2 where
 keep:=λb o e n hb hx=>by obtain⟨o',e1,e2⟩:=k b o e hb;rw[u.keep b o e n hb hx]at e1;cases e1;exact e2
 slot:=λb o e n hb hx=>by obtain⟨s1,e1⟩:=u.slot b o e n hb hx;obtain⟨s2,e2⟩:=sl b _ e1 (hd b hb _ e1);exact⟨s2,e2⟩
 free:=u.free
 there:=λb o e hx=>by
  by_cases hb:b∈fs
  ·obtain⟨s1,e1⟩:=u.slot b o e (hf b hb) hb hx;obtain⟨s2,e2⟩:=sl b _ e1 (hd b hb _ e1);exact⟨_,e2⟩
  ·obtain⟨o',_,e2⟩:=k b o e hb;exact⟨o',e2⟩
 tups:=u.tups
 frzs:=u.frzs
 tbls:=u.tbls
theorem HOk.back{P:Program}{w:World}{H:Hp}{h h' B:Heap}(x:HOk P w H h)(k:∀b y,H b=some y->∃o',h.get? b=some o'/\B.get? b=some o')(st:B.StaysIn h'):HOk P w H h':=λa o e=>by
 refine(x a o e).stay (λb u hb q=>?_) (λ_ z=>z) λ_ _ z=>z
 have hn:∃y,H b=some y:=by
  rcases hb with rfl |hb
  ·exact⟨_,e⟩
  ·exact⟨_,hb⟩
 obtain⟨y,hy⟩:=hn;obtain⟨o',e1,e2⟩:=k b y hy;rw[q]at e1;cases e1;exact st _ _ e2
theorem yD{P:Program}{w:World}{H:Hp}{h:Heap}{a:Addr}{o:HO}(x:ObjOk P w H h a o):∃u,h.get? a=some u:=by
 induction o with
 |lst xs=>obtain⟨_,_,_,_,e⟩:=x;exact⟨_,e⟩
 |tup xs=>obtain⟨z,its,r,ob,e,c⟩:=x;exact⟨_,e⟩
 |dK kvs=>obtain⟨z,y,vs,r,ob,es,ep,e,c⟩:=x;exact⟨_,e⟩
 |dT kvs=>obtain⟨z,y,xs,r,ob,es,ep,e,c⟩:=x;exact⟨_,e⟩
 |set S n=>obtain⟨ob,es,ep,t,e,c⟩:=x;exact⟨_,e⟩
 |ins C dx fs=>obtain⟨d,z,ne,e,_⟩:=x;exact⟨_,e⟩
 |own y=>obtain⟨ob,e⟩:=x;exact⟨_,e⟩
 |xd fs=>obtain⟨mA,⟨od,es,ep,e,c⟩,r⟩:=x;exact⟨_,e⟩
 |rng lo hi=>obtain⟨t,u,v,e⟩:=x;exact⟨_,e⟩
 |frz ob u ih=>exact⟨_,x.1⟩
 |tbl ps=>exact⟨_,x⟩
 |met f y=>exact⟨_,x⟩
 |ext φ=>obtain⟨p,⟨o,e⟩,st⟩:=x;exact⟨_,e⟩
theorem tT{env:Env}{outer:List Env}{L:Addr}(h:env.frame=some L):frs (env::outer)=L::frs outer:=by unfold frs;rw[FI,h]
section
variable {P:Program}{w:World}{K:PySem.W.Frag}{mg:Str->Option Value}{base:Heap}{N:List Str}{qual:Str}{scope:Scope}{f:Addr}{cd:Value}{A:Around}{outer:List Env}{s:Shared}{H:Hp}{E:XK}{pins:List (Addr×Obj)}{σ:St}{H1:Hp}{s1:Shared}
theorem A4(I:Inv (bn (CXW P w) P w K mg base N qual scope f cd A outer s H E) pins σ H1 s1):∀b∈frs outer,∀o,s1.heap.get? b=some o->∀vs,o.data≠.fields vs:=λb hb o e=>by obtain⟨_,o',e',hd⟩:=I.funs.mem hb;have e'':s1.heap.get? b=some o':=e';rw[e]at e'';cases e'';exact hd
theorem u0{E':XK}{e:Value}{s2:Shared}(I:Inv (bn (CXW P w) P w K mg base N qual scope f cd A outer s H E) pins σ H1 s1)(h:CXW P w (bn (CXW P w) P w K mg base N qual scope f cd A outer s H E).stack H1 s1 E' e s2)(hE:∀c d H',E' c d H'->E c d H') :
 (bn (CXW P w) P w K mg base N qual scope f cd A outer s H E).xe e s2:=by
 obtain⟨ea,cls,a0,B,H2,rfl,os,bare,un,hok,fl,b1,b2,he,hn,hE'⟩:=h;have J:Inv (bn (CXW P w) P w K mg base N qual scope f cd A outer s H E) pins σ H2 s2:=I.call' os un hok bare (λb hb=>nomatch hb);have hfrm:(envOfC qual scope s.heap.objs.size f cd).frame=some s.heap.objs.size:=rfl;have efr:frs (envOfC qual scope s.heap.objs.size f cd::outer)=s.heap.objs.size::frs outer:=tT hfrm
 have b1':∀b o,s.heap.get? b=some o->b∉frs outer->∃o',s2.heap.get? b=some o'/\B.get? b=some o':=λb o q hb=>by
  obtain⟨o',q'⟩:=I.base.there b o q (λz=>nomatch z);refine b1 b o' q' ?_;show b∉frs (envOfC qual scope s.heap.objs.size f cd::outer);rw[efr];intro z;rcases EQ.mp z with z |z
  ·exact absurd (Heap.lt_size q) (by rw[z];exact E9 _)
  ·exact hb z
 refine wpAny_leaves_onW (L:=s.heap.objs.size) I.ok.frames hfrm fl λh'' fl' up=>?_
 refine⟨ea,cls,a0,B,H2,rfl,J.os,J.bare,?_,J.hok.back b2 fl'.1,fl',λb o q hb=>?_,λb x q=>?_,he,?_,hE _ _ _ hE'⟩
 ·exact J.base.back (λb o q hb=>let⟨o',q1,q2⟩:=b1' b o q hb;⟨o',q1,fl'.1 _ _ q2⟩) I.ok.frf (A4 J) up
 ·obtain⟨o',q1,q2⟩:=b1' b o q hb;exact⟨o',fl'.1 _ _ q2,q2⟩
 ·obtain⟨o',q1,q2⟩:=b2 b x q;exact⟨o',fl'.1 _ _ q2,q2⟩
 ·cases q:s.heap.get? ea with
  |none=>rfl
  |some o=>obtain⟨o',q'⟩:=I.base.there ea o q (λz=>nomatch z);rw[hn]at q';cases q'
end
section
variable {P:Program}{w:World}{K:PySem.W.Frag}{mg:Str->Option Value}{base:Heap}
end
section
variable {X:Cx}{pins:List (Addr×Obj)}{σ:St}{H1 H2:Hp}{s1 s2:Shared}
end
section
variable {X:Cx}{CX:CXT}{k:Nat}{f C:Addr}{fd:FuncData}{ps:List Str}{sp:Sp}{dvs:List V}{ds:List Value}{E:XK}{x m:Str}{p pos apos:Pos}{e o:Expr}{es:List Expr}{ta:TE}{t:TA}{pins:List (Addr×Obj)}{σ:St}
end
section
variable {X:Cx}{pins:List (Addr×Obj)}{σ:St}{H:Hp}{s:Shared}{ea:Addr}{oe:Obj}
end
section
variable {X:Cx}{k:Nat}{f C R:Addr}{fd:FuncData}{ps:List Str}{sp:Sp}{dvs:List V}{ds:List Value}{m r n:Str}{pos apos cpos epos np hpos:Pos}{e o:Expr}{es:List Expr}{ta:TE}{t:TA}{i:Nat}{b₀:Stmt}{suite:List Stmt}{th:Addr->Obj->TS}
end
open PySem PySem.Spec PyProof.Rows PySem.W PySem.Calls PySem.Builtin PySem.Builtin.ObjectAttr PySem.Builtin.Getset_descriptor
section
variable {prog:Program}{w:World}{A:Around}{E:Value->Shared->Prop}{s:Shared}{K:Frag}{x D:Addr}{M:Model}{h:Heap}
end
theorem Ch{K:PySem.W.Frag}{C:Addr}{b:Value}{k:Bool}(h:mroIn K C b=some k):(clsIn K C).isSome=true:=by
 unfold mroIn at h
 cases e:clsIn K C with
 |none=>rw[e]at h;cases h
 |some _=>rfl
structure ECls(K:PySem.W.Frag)(D:Addr):Prop where
 cl:(clsIn K D).isSome=true
 ga:findIn K (.ref D) "__getattribute__"=some (some (.builtin "BaseException.__getattribute__"))
 gn:findIn K (.ref D) "__getattr__"=some none
 mB:mroIn K D (.type "BaseException")=some true
 ha:findIn K (.ref D) "__class__"=some (some (.builtin "object.__class__"))
 hn:specialIn K (.builtin "object.__class__") "__get__"=some (some (.builtin "getset_descriptor.__get__"))
 ht:takesIn K (.builtin "object.__class__")=some true
 hm:mroIn K D (.type "object")=some true
section
variable {X:Cx}{tg:Expr}
end
section
variable {X:Cx}{CX:CXT}{k:Nat}{f C R:Addr}{fd:FuncData}{ps:List Str}{sp:Sp}{dvs:List V}{ds:List Value}{m r n x:Str}{p pos apos cpos epos np hpos:Pos}{e o ex:Expr}{es:List Expr}{ta:TE}{t:TA}{i:Nat}{b₀:Stmt}{suite:List Stmt}{th:Addr->Obj->TS}{tx:XK->TE}
end
section
variable {X:Cx}{R R2:Addr}{r r2 n n2:Str}{pos epos np hpos np2 hpos2:Pos}{ex:Expr}{i i2:Nat}{b₀ b₂:Stmt}{suite suite2:List Stmt}{th th2:Addr->Obj->TS}{tx:XK->TE}
end
section
variable {X:Cx}{K:PySem.W.Frag}
end
section
variable {X:Cx}
end
end L2
namespace RM
open PySem
theorem ofS(s:String):Str.ofString s=⟨(s.toList.map Char.toNat).toArray⟩:=by unfold Str.ofString;rw[cpsOfBytes_string]
noncomputable def aj(n:Nat):List Nat:=(Nat.toDigits 10 n).map Char.toNat
theorem AE(n:Nat):Str.ofString (toString (n:Int))=⟨(aj n).toArray⟩:=by rw[ofS];show(⟨(((Nat.repr n)).toList.map Char.toNat).toArray⟩:Str)=_;unfold Nat.repr aj;rw[String.toList_ofList]
theorem ua:∀d,d<10->(Nat.digitChar d).toNat=48+d:=by decide
theorem iy{n:Nat}(h:n<10):aj n=[48+n]:=by unfold aj;rw[Nat.toDigits_of_lt_base h];show[_]=_;rw[ua n h]
theorem lx{n:Nat}(h:10<=n):aj n=aj (n/10)++[48+n%10]:=by unfold aj;rw[Nat.toDigits_of_base_le (by decide) h,EV];show _++[_]=_;rw[ua _ (Nat.mod_lt _ (by decide))]
theorem Cm(a b:List Nat):(⟨a.toArray⟩:Str)++(⟨b.toArray⟩:Str)=⟨(a++b).toArray⟩:=by show(⟨a.toArray++b.toArray⟩:Str)=_;refine congrArg Str.mk ?_;simp
end RM
namespace L2
open PySem PySem.Spec PyProof.Rows
def Top(val:Nat->Int)(n:Nat)(M:Int):Prop:=(∃i,i<n/\val i=M)/\∀i,i<n->val i<=M
theorem Top.more{val:Nat->Int}{n:Nat}{M:Int}(h:Top val n M)(hn:val n>M):Top val (n+1) (val n) :=
 ⟨⟨n,by omega,rfl⟩,λi hi=>by
   by_cases e:i=n
   ·subst e;exact Int.le_refl _
   ·have:=h.2 i (by omega);omega⟩
theorem Top.less{val:Nat->Int}{n:Nat}{M:Int}(h:Top val n M)(hn:¬val n>M):Top val (n+1) M :=
 ⟨let⟨i,hi,e⟩:=h.1;⟨i,by omega,e⟩,λi hi=>by
  by_cases e:i=n
  ·subst e;omega
  ·exact h.2 i (by omega)⟩
section
variable {prog:Program}{w:World}{A:Around}{R:Result->Shared->Prop}{I S:Addr}{fp wr:List Addr}{n:Nat}{P:Nat->Value->Prop}{St:Nat->Heap->Prop}{val:Nat->Int}{d:Value}
end
section
variable {prog:Program}{w:World}{A:Around}{E:Value->Shared->Prop}{s:Shared}{l:Addr}{xs:Array (Int×Tok)}{d:Value}
end
section
variable {X:Cx}{K:PySem.W.Frag}{e ed:Expr}{ta td:TE}{p pos kp:Pos}
end
theorem ur:∀{bs:List Bool} {us:List Value},Vals (bs.map V.bl) us->us=bs.map Value.bool
 | [],_,h=>by cases h;rfl
 |b::bs,_,h=>by
  cases h with
  |cons r rr =>cases r;rw[ur rr];rfl
section
variable {X:Cx}
noncomputable def wI:V->Option Int->Option Int->Hp->VK->Prop:=λx lo hi H Q=>∃z,x=.str z/\z.length<=sizeLine/\Q (.str (Txt.slice z lo hi)) H
theorem qW:SlR X wI:=by
 intro pins s σ H x v vl vu lo hi sl Q I rx hs pl pu h;obtain⟨z,rfl,hz,q⟩:=h;obtain⟨t,rfl⟩:=rx;obtain⟨o,ho,hc,hd⟩:=hs;refine⟨"str",_,F.slot_str_getitem.lookup,typeIs_str _ _ _,?_⟩;cases pl with
 |none =>
  cases pu with
  |none=>exact wpAny_getItem_str_slice (l:=none) (u:=none) (st:=none) ⟨o,ho,hc,hd⟩ rfl (post_val_or_str ⟨ES (Txt.slice_le z _ _) hz,λt' k=>⟨.str _,H,I.tok _,⟨_,rfl⟩,q⟩⟩)
  |int j uj=>exact wpAny_getItem_str_slice (l:=none) (u:=some (j,uj)) (st:=none) ⟨o,ho,hc,hd⟩ rfl (post_val_or_str ⟨ES (Txt.slice_le z _ _) hz,λt' k=>⟨.str _,H,I.tok _,⟨_,rfl⟩,q⟩⟩)
 |int i ui =>
  cases pu with
  |none=>exact wpAny_getItem_str_slice (l:=some (i,ui)) (u:=none) (st:=none) ⟨o,ho,hc,hd⟩ rfl (post_val_or_str ⟨ES (Txt.slice_le z _ _) hz,λt' k=>⟨.str _,H,I.tok _,⟨_,rfl⟩,q⟩⟩)
  |int j uj=>exact wpAny_getItem_str_slice (l:=some (i,ui)) (u:=some (j,uj)) (st:=none) ⟨o,ho,hc,hd⟩ rfl (post_val_or_str ⟨ES (Txt.slice_le z _ _) hz,λt' k=>⟨.str _,H,I.tok _,⟨_,rfl⟩,q⟩⟩)
end
theorem tz:∀{ns:List Int} {us:List Value},Vals (ns.map V.int) us->∃l:List (Int×Tok),us=l.map (λp=>Value.int p.1 p.2)/\l.map (·.1)=ns
 | [],_,h=>by cases h;exact⟨[],rfl,rfl⟩
 |n::ns,_,h=>by
  cases h with
  |cons r rr =>obtain⟨t,rfl⟩:=r;obtain⟨l,rfl,e⟩:=tz rr;exact⟨(n,t)::l,rfl,by rw[Fh,e]⟩
theorem rs:∀(l:List (Int×Tok)) (n:Nat),n<=l.length->preSum (numAt l.toArray) n=((l.take n).map (·.1)).sum
 |l,0,_=>rfl
 |l,n+1,h=>by rw[preSum,rs l n (by omega),Fw,List.getElem?_eq_getElem (by omega)];unfold numAt;rw[List.getElem?_toArray,List.getElem?_eq_getElem (by omega),Option.toList_some,EV,List.sum_append];show _=_+(l[n].1+0);rw[Int.add_zero];rfl
theorem Cn{X:Cx}{K:PySem.W.Frag}(hK:X.K=K)(hc:X.calm=true):cy X (.builtin "sum") (λxs H Q=>∃(p:Addr) (ns:List Int),xs=[.ref p]/\SqL K H p (ns.map V.int)/\Q (.int ns.sum) H):=by
 subst hK;intro pins s σ H xs us Q I r h;obtain⟨p,ns,rfl,hq,q⟩:=h;obtain⟨u,rfl,rx⟩:=eE r;cases rx;obtain⟨its,r',pl,hz⟩:=I.list hq;obtain⟨l,rfl,e⟩:=tz r'
 have hl:s.heap.IsList p (intItems l.toArray):=by
  have h1:=pl.isList;have e2:(l.map (λp=>Value.int p.1 p.2)).toArray=intItems l.toArray:=by unfold intItems;simp
  rw[<- e2];exact h1
 refine sum_intListG (I.ok.hd hc) hl λh' tk t' hk=>⟨.int ns.sum,H,I.kept hk,⟨t',?_⟩,q⟩
 have e3:preSum (numAt l.toArray) l.toArray.size=ns.sum:=by rw[EY,rs l l.length (EO _),Ft,e]
 rw[e3]
noncomputable def Its(z:Str):It:=⟨λi _=>i<z.cps.size,λi H x H'=>H'=H/\∃c,z.cps[i]?=some c/\x=.str ⟨#[c]⟩,λi _=>z.cps.size<=i⟩
theorem vg{P:Program}{w:World}{K:PySem.W.Frag}{tg:Expr}(z:Str)(t:Tok)(it:Addr):Turn P w K tg (Its z) [it] it (λi h=>h.IsStrIter it "str_ascii_iterator" z t i) where
 mem:=by simp
 obj:=λi h st b hb=>by
  have e:b=it:=by simpa using hb
  subst e;obtain⟨o,e,c,d⟩:=st;exact⟨o,e,λv z=>by rw[d]at z;cases z⟩
 keep:=λi h h' st k=>let⟨o,ho,r⟩:=st;⟨o,k it (by simp) o ho,r⟩
 item:=by
  intro X hP hw hK hc i pins s σ H E I hf st hg;subst hP hw hK;obtain⟨f0,f1,f2,f3,f4,f5⟩:=hf it (by simp);have hi:i<z.cps.size:=hg;have hx:z.cps[i]?=some z.cps[i]:=by simp[hi]
  refine wpAny_pyNext_ascii_item st hx λh' st' sb=>?_
  have I1:Inv X pins σ H { s with heap:=h',toks:=s.toks+1 }:=I.turned (t':=s.toks+1) (λb o hb e=>(sb.2 b hb).trans e) f0 f1 f3 f4 f5;obtain⟨o,e,c,d⟩:=id st';exact⟨_,rfl,lV (s:={ s with heap:=h',toks:=s.toks+1 }) e c d (by decide) ⟨.str ⟨#[z.cps[i]]⟩,H,I1,⟨_,rfl⟩,⟨rfl,_,hx,rfl⟩,st',λb hb=>(hf b hb).1⟩⟩
 done:=by intro X hP hw hK hc i pins s σ H E I hf st hg;subst hP hw hK;obtain⟨f0,f1,f2,f3,f4,f5⟩:=hf it (by simp);have hi:z.cps.size<=i:=hg;exact wpAny_pyNext_ascii_end (I.ok.hd hc) st (by simp[hi]) λh' eb=>⟨rfl,I.turned (t':=s.toks) (λb o hb e=>eb b o hb e) f0 f1 f3 f4 f5⟩
 self:=λ_ _ _ _ _ st h=>wpAny_pyIter_striter_ascii st h
def AK(tl:TE):TI:=λσ H R=>tl σ H λx H1=>∃z,x=.str z/\z.cps.all (·<128)=true/\R (Its z) H1
section
variable {X:Cx}{tg:Expr}{K:PySem.W.Frag}
theorem w6{l:Expr}{tl:TE}(hl:PE X l tl):PI X tg l (AK tl):=by
 intro pins s σ H R I h;refine thn (hl pins s σ H _ I h) λv s1 ⟨x,H1,I1,r1,q1⟩=>?_
 obtain⟨z,e,ha,q⟩:=q1;subst e;obtain⟨t,rfl⟩:=r1;refine wpAny_pyIter_ascii ha ?_;refine⟨s1.heap.objs.size,[s1.heap.objs.size],_,_,H1,rfl,I1.kept (t':=s1.toks) λb o e=>Heap.get?_push_of_some _ e,vg z t _,⟨_,Heap.get?_push_size _ rfl,rfl,rfl⟩,λb hb=>?_,q⟩;have e:b=s1.heap.objs.size:=by simpa using hb
 subst e;exact I1.fpOk (EO _) (I1.hok.fresh (EO _))
theorem Cd{k:Nat}{js:List Nat}{z:Str}{g:TG}{te:TE}{σ0:St}{H:Hp}{Q:VK}(Pv:Nat->List V->St->Hp->Prop)(hz:z.cps.size<=sizeLine)(h0:Pv 0 [] (fe k js σ0) H)(hl:∀i ys σ H,i<=z.cps.size->Pv i ys σ H->ys.length<=i)
 (hs:∀i c ys σ H,z.cps[i]?=some c->Pv i ys σ H->g (.str ⟨#[c]⟩) σ H λσ2 H2=>te σ2 H2 λy H3=>Pv (i+1) (ys++[y]) σ2 H3) (hd:∀ys σ H p,Pv z.cps.size ys σ H->H p=none->Q (.ref p) (upd H p (.lst ys))) :
 mr k js g te σ0 Q (Its z) H:=by
 refine⟨λi m ys σ H=>m=z.cps.size-i/\i<=z.cps.size/\Pv i ys σ H,⟨z.cps.size,by simp,Fb _,h0⟩,?_⟩;rintro i m ys σ H ⟨rfl,hi,p⟩;have hy:=hl i ys σ H hi p;by_cases hlt:i<z.cps.size
 ·refine .inr ⟨hlt,by omega,λy σ'' H''=>Pv (i+1) (ys++[y]) σ'' H'',λy σ' H' p'=>⟨z.cps.size-(i+1),by omega,rfl,hlt,p'⟩,λx H' y=>?_⟩;obtain⟨e,c,hc,y⟩:=y;subst e y;exact hs i c ys σ _ hc p
 ·have e:i=z.cps.size:=by omega
  subst e;exact .inl ⟨EO _,λr hr=>hd ys σ H r p hr⟩
theorem jg(h:X.K=K):OpR X (compareOp .In) (rIn K false):=by subst h;exact xu
theorem rJ(h:X.K=K):OpR X (compareOp .NotIn) (rIn K true):=by subst h;exact xo
theorem mn:cy X (.type "int") (λxs H Q=>∃(z:Str) (n:Int),xs=[.str z]/\z.length<=640/\PySem.intText? z=some n/\Q (.int n) H):=by intro pins s σ H xs us Q I r h;obtain⟨z,n,rfl,hl,hn,q⟩:=h;obtain⟨u,rfl,rx⟩:=eE r;obtain⟨t,rfl⟩:=rx;exact PySem.W.KIN.call_text hn hl ⟨.int n,H,I.tok _,⟨_,rfl⟩,q⟩
theorem De(bs:List Bool):(List.range bs.length).all (λi=>bs.getD i false)=bs.all id:=by
 rw[Fj,Fg,Fg];constructor
 ·intro h b hb;obtain⟨i,hi,rfl⟩:=List.getElem_of_mem hb;have:=h i (List.mem_range.mpr hi);simpa[List.getD,List.getElem?_eq_getElem hi]using this
 ·intro h i hi;have hi':=List.mem_range.mp hi;have:=h bs[i] (List.getElem_mem hi');simpa[List.getD,List.getElem?_eq_getElem hi']using this
end
theorem Cs{X:Cx}{K:PySem.W.Frag}(hK:X.K=K)(hc:X.calm=true):cy X (.builtin "all") (λxs H Q=>∃(p:Addr) (bs:List Bool),xs=[.ref p]/\SqL K H p (bs.map V.bl)/\Q (.bl (bs.all id)) H):=by
 subst hK;intro pins s σ H xs us Q I r h;obtain⟨p,bs,rfl,hq,q⟩:=h;obtain⟨u,rfl,rx⟩:=eE r;cases rx;obtain⟨its,r',pl,hz⟩:=I.list hq;have e:=ur r';subst e;have hl:=pl.isList;have hlt:p<s.heap.objs.size:=by obtain⟨_,e,_⟩:=hl;exact Heap.lt_size e
 refine call_all_walk (wpAny_pyIter_list hl ?_);refine⟨_,_,_,_,_,_,λi=>bs.getD i false,rfl,Walks.list (A:=X.A.in1) (I.ok.hd hc) _ p (E3 hlt) _,⟨⟨_,Heap.get?_push_size _ rfl,rfl,rfl⟩,hl.push _⟩,λi v s' Q' E' hP hQ=>?_,λh' tk hk=>?_⟩
 ·have e:v=.bool (bs.getD i false):=by have hP':((bs.map Value.bool).toArray)[i]?=some v:=hP;simp only[List.getElem?_toArray,List.getElem?_map,Option.map_eq_some_iff]at hP';obtain⟨b,hb,rfl⟩:=hP';simp[List.getD,hb]
  subst e;exact wpAny_truthy_bool hQ
 ·refine⟨.bl (bs.all id),H,I.kept (old_kept hk),?_,q⟩;show Value.bool _=Value.bool _;rw[<- De bs];simp
def KD(h h':Heap):Prop:=∀b o,h.get? b=some o->∃o',h'.get? b=some o'/\o'.dict=o.dict
theorem KD.refl(h:Heap):KD h h:=λ_ o e=>⟨o,e,rfl⟩
theorem KD.trans{a b c:Heap}(x:KD a b)(y:KD b c):KD a c:=λp o e=>by obtain⟨o1,e1,d1⟩:=x p o e;obtain⟨o2,e2,d2⟩:=y p o1 e1;exact⟨o2,e2,d2.trans d1⟩
theorem KD.push(h:Heap)(o:Obj):KD h (h.push o):=λb u e=>⟨u,Heap.get?_push_of_some _ e,rfl⟩
def pQ(f:Obj->Obj):Prop:=∀o:Obj,o.isFreed=false->(f o).isFreed=false/\(f o).dict=o.dict
theorem KD.upd(h:Heap)(a:Addr){f:Obj->Obj}(hf:pQ f):KD h (h.update a f):=λb u e=>by
 by_cases z:a=b
 ·subst z;obtain⟨h1,h2⟩:=hf u (Heap.get?_some_iff.mp e).2;exact⟨f u,Heap.get?_update_self f e h1,h2⟩
 ·exact⟨u,(Heap.get?_update_other h f z).trans e,rfl⟩
inductive Mild{α:Type}:Sem α->Prop
 |pure (a:α):Mild (.pure a)
 |unsupported (x:String):Mild (.unsupported x)
 |rule {t:String} {k:Unit->Sem α}:(∀u,Mild (k u))->Mild (.rule t k)
 |at{p:Pos} {k:Unit->Sem α}:(∀u,Mild (k u))->Mild (.at p k)
 |load {a:Addr} {p:Option Value} {k:Obj->Sem α}:(∀o,Mild (k o))->Mild (.load a p k)
 |update {a:Addr} {p:Option Value} {f:Obj->Obj} {k:Unit->Sem α}:pQ f->(∀u,Mild (k u))->Mild (.update a p f k)
 |alloc {o:Obj} {k:Addr->Sem α}:(∀a,Mild (k a))->Mild (.alloc o k)
 |stack {k:List (Code×Pos)->Sem α}:(∀l,Mild (k l))->Mild (.stack k)
theorem bx{α β:Type}{t:Sem α}{f:α->Sem β}(ht:Mild t)(hf:∀a,Mild (f a)):Mild (t >>= f):=by
 show Mild (t.bind f)
 induction ht with
 |pure a=>exact hf a
 |unsupported x=>exact .unsupported x
 |rule _ ih=>exact .rule ih
 | «at» _ ih=>exact .at ih
 |load _ ih=>exact .load ih
 |update s _ ih=>exact .update s ih
 |alloc _ ih=>exact .alloc ih
 |stack _ ih=>exact .stack ih
theorem dC{α:Type}(a:α):Mild (pure a:Sem α):=.pure a
theorem u9{α:Type}(M:Model)(Γ:PySem.Ctx){h0:Heap}{t:Sem α}(m:Mild t){Q:α->Pos->Shared->Prop}{E E':Value->Pos->Shared->Prop}:∀{p:Pos} {s:Shared},KD h0 s.heap->Sem.wp M Γ t Q E p s->Sem.wp M Γ t (λa p' s'=>Q a p' s'/\KD h0 s'.heap) E' p s:=by
 induction m with
 |pure a=>intro p s hk h;rw[Sem.wp]at h ⊢;exact⟨h,hk⟩
 |unsupported x=>intro p s hk h;rw[Sem.wp]at h;exact h.elim
 |rule _ ih=>intro p s hk h;rw[Sem.wp]at h ⊢;exact ih () hk h
 | «at» _ ih=>intro p s hk h;rw[Sem.wp]at h ⊢;exact ih () hk h
 |load _ ih =>intro p s hk h;rw[Sem.wp]at h ⊢;obtain⟨o,e,h⟩:=h;exact⟨o,e,ih o hk h⟩
 |update sf _ ih =>intro p s hk h;rw[Sem.wp]at h ⊢;exact⟨h.1,ih () (hk.trans (KD.upd s.heap _ sf)) h.2⟩
 |alloc _ ih =>intro p s hk h;rw[Sem.wp]at h ⊢;exact ih _ (hk.trans (KD.push s.heap _)) h
 |stack _ ih=>intro p s hk h;rw[Sem.wp]at h ⊢;exact ih _ hk h
theorem qi{α:Type}{M:Model}{A:Around}{t:Sem α}{Q:α->Shared->Prop}{E E':Value->Shared->Prop}{s:Shared}(m:Mild t)(h:wpAny M A t Q E s):wpAny M A t (λa s'=>Q a s'/\KD s.heap s'.heap) E' s:=λΓ p hΓ =>u9 M Γ m (KD.refl _) (h Γ p hΓ)
theorem vF(f:Array Value->Array Value):pQ (Obj.mapFields f):=λo h=>by
 unfold Obj.mapFields;split
 ·exact⟨rfl,rfl⟩
 ·exact⟨h,rfl⟩
theorem n5(a:Addr):Mild (load a):=.load λ_=>.pure _
theorem yZ(v:Value):Mild (fieldsOf v):=by
 unfold fieldsOf;split
 ·refine bx (n5 _) λo=>?_
  split<;>constructor
 ·constructor
theorem lE(v:Value)(i:Nat):Mild (field v i):=by
 unfold field;refine bx (yZ v) λvs=>?_
 split<;>constructor
theorem n0(v:Value)(i:Nat)(x:Value):Mild (setField v i x):=by
 unfold setField;split
 ·unfold updateField;refine bx (n5 _) λo=>?_
  split
  ·split
   ·exact .update (vF _) λ_=>dC _
   ·constructor
  ·constructor
 ·constructor
theorem yU(e:Value)(fr:Option Addr):Mild (setFlight e fr):=by
 unfold setFlight;refine bx (lE e 1) λtb=>?_
 split
 ·exact n0 _ _ _
 ·constructor
theorem nZ:Mild (stack:Sem (List (Code×Pos))):=.stack λ_=>.pure _
theorem si:∀l:List Env,Mild (readyFrames l)
 | []=>dC _
 |env::outer=>by
  unfold readyFrames;split
  ·refine bx (n5 _) λo=>?_
   split
   ·constructor
   ·refine bx ?_ λim=>bx ?_ λbk=>bx ?_ λ_=>si outer
    ·unfold behindIsImport;split
     ·constructor
     ·split
      ·constructor
      ·exact bx (lE _ _) λ_=>dC _
    ·unfold keptBack;split
     ·split
      ·constructor
      ·refine bx ?_ λb=>dC _
       unfold underTheClaimsCaller;exact bx nZ λ_=>dC _
     ·constructor
    ·exact .update (λo h=>⟨by obtain⟨a,b,c,d⟩:=o;cases c<;>first |rfl |exact h,rfl⟩) λ_=>dC _
  ·constructor
theorem yY(env:Env):Mild (PySem.frameOf env):=by
 unfold PySem.frameOf frameEnvs;refine bx ?_ λl=>bx ?_ λo=>?_
 ·exact bx nZ λ_=>dC _
 ·generalize l.dropWhile _=l';unfold frameObject;split
  ·constructor
  ·exact bx (si _) λ_=>dC _
 ·split<;>constructor
theorem y1(f:Addr)(b:Bool):Mild (entryPlaceOf f b):=by
 unfold entryPlaceOf;refine bx nZ λl=>?_
 split<;>constructor
theorem yW(ty:String)(vs:List Value):Mild (newFields ty vs):=by
 have as':∀dt:Data,Mild (newObjAsIs (.type ty) dt none):=λdt=>by
  unfold newObjAsIs;refine bx (.alloc λ_=>.pure _) λa=>?_
  exact dC _
 unfold newFields newObj;dsimp only
 split
 ·exact bx (.unsupported _) λ_=>as' _
 ·exact as' _
theorem yX(a b c d e:Value)(pl:List Value):Mild (EntryCells.newEntry a b c d e pl):=yW _ _
theorem sh(e hd:Value)(env:Env)(f:Addr):Mild (do setField e 1 (<- EntryCells.newEntry hd (<- PySem.frameOf env) .none (rawInt f) .none (<- entryPlaceOf f (hd != .none))):Sem Unit) :=
 bx (yY env) λfr=>bx (y1 _ _) λpl=>bx (yX _ _ _ _ _ _) λne=>n0 _ _ _
theorem yV(e:Value)(env:Env):Mild (noteFrame e env):=by
 unfold noteFrame;split
 ·refine bx (lE _ _) λhd=>?_
  dsimp only
  split
  ·refine bx (lE _ _) λx=>?_
   split
   ·exact dC _
   ·exact bx (n0 _ _ _) λ_=>sh _ _ _ _
  ·exact sh _ _ _ _
 ·constructor
theorem sj(env:Env)(e:Value):Mild (leaving env e):=bx (yV e env) λ_=>yU e none
open PySem PySem.Spec PyProof.Rows PySem.W PySem.Calls PySem.Builtin PySem.Builtin.ObjectAttr
noncomputable def iO:List Value:=[.type "ValueError",.type "Exception",.type "BaseException",.type "object"]
noncomputable def fF:List Value->Bool
 |.ref _::r=>r == iO ||fF r
 |_=>false
theorem qj(self:Value):∀{l:List Value},fF l=true->refuseLoop self "__setattr__" l=pure ()
 |.ref c::r,e=>by
  rw[refuseLoop_ref];rcases Bool.or_eq_true_iff.mp (show(r == iO ||fF r)=true from e)with q |q
  ·rw[beq_iff_eq.mp q];exact PySem.F.store_ValueError.passes self
  ·exact qj self q
theorem qm:∀{l:List Value},fF l=true->l.contains (.type "object")=true
 |.ref c::r,e=>by
  rcases Bool.or_eq_true_iff.mp (show(r == iO ||fF r)=true from e)with q |q
  ·rw[beq_iff_eq.mp q];rfl
  ·rw[List.contains_cons,qm q,Bool.or_true]
structure XCls(K:Frag)(C:Addr):Prop where
 ve:∃cd,clsIn K C=some cd/\fF cd.mro=true/\cd.hasDict=true
 sa:findIn K (.ref C) "__setattr__"=some (some (.builtin "object.__setattr__"))
noncomputable def mw(K:Frag)(C:Addr):Bool:=(match clsIn K C with |some cd=>fF cd.mro&&cd.hasDict |none=>false)&&findIn K (.ref C) "__setattr__" == some (some (.builtin "object.__setattr__"))
theorem XCls.of{K:Frag}{C:Addr}(h:mw K C=true):XCls K C:=by
 unfold mw at h
 obtain⟨h1,h2⟩:=Bool.and_eq_true_iff.mp h;refine⟨?_,beq_iff_eq.mp h2⟩;cases e:clsIn K C with
 |none=>rw[e]at h1;cases h1
 |some cd=>rw[e]at h1;obtain⟨a,b⟩:=Bool.and_eq_true_iff.mp h1;exact⟨cd,rfl,a,b⟩
section
variable {prog:Program}{w:World}{A:Around}{E:Value->Shared->Prop}{s:Shared}{K:Frag}{x C:Addr}
theorem uX{ox:Obj}{vs:Array Value}{name:Str}{v:Value}{Q:Unit->Shared->Prop}(X:K.In s.heap)(T:XCls K C)(hx:s.heap.get? x=some ox)(hc:ox.cls=.ref C)(hd:ox.dict=none)(hf:ox.data=.fields vs)(hn:findIn K (.ref C) name=some none)
 (h:∀h' tk,h'.get? x=some { ox with dict:=some s.heap.objs.size }->h'.Ns1 s.heap.objs.size (λy=>if y=name then some v else none)->(∀b o,b≠x->s.heap.get? b=some o->h'.get? b=some o)->Q () { s with heap:=h',toks:=tk }) :
 wpAny (model prog w) A (setAttr (.ref x) name v) Q E s:=by
 obtain⟨hh,g,d,t,os⟩:=s;obtain⟨cd,hcd,hve,hdict⟩:=T.ve;have I:PySem.W.InstAt hh x ox C none:=⟨hx,hc,by unfold notCls;rw[hf],by rw[hd];trivial⟩;refine set_plain X I T.sa ?_;show codeAny _ _ (.call (.builtin "object.__setattr__") ⟨[.ref x,.str name t,v],[]⟩) _ ⟨hh,g,d,t+1,os⟩;have SF:=PySem.F.store_object
 have ne:cd.mro.isEmpty=false:=by
  cases q:cd.mro with
  |nil=>rw[q]at hve;cases hve
  |cons _ _=>rfl
 have sub:Looks (model prog w) hh (isInstance (.ref x) (.type "object")) true:=I.type.andThen (looks_mroIn X (by unfold mroIn;rw[hcd,Option.bind_some,if_neg (by rw[ne];decide),qm hve]));refine codeAny_call_builtin SF.slot.plain SF.entry (@check_slot (model prog w) _ _ _ "object.__setattr__" "object" "__setattr__" (.ref x) [.str name t,v] [] _ SF.kind SF.split sub (SF.args (.ref x) (.str name t) v) ?_);have hm:Looks (model prog w) hh (mroOf (.ref C)) cd.mro:=(looks_clsIn X hcd).andThen .now;rw[osa_eq,refuse_eq];refine wpAny_bind (wpAny_bind (I.type.here (wpAny_bind (hm.here ?_))));rw[qj _ hve];refine wpAny_pure (wpAny_bind (I.type.here (wpAny_bind (Looks.here (s:=⟨hh,g,d,t+1,os⟩) (looks_findIn X hn) (wpAny_bind (wpAny_pure ?_))))));show wpAny _ _ (storeInOwnDict (.ref x) (.ref C) (.str name t) name v false) _ _ _;unfold storeInOwnDict;refine wpAny_bind (wpAny_pure ?_);show wpAny _ _ (ownDictForStores (.ref x) >>= _) _ _ _;have hxs:x≠hh.objs.size:=E3 (Heap.lt_size hx);have hx1:(hh.push { cls:=.type "dict",data:=.dict #[] }).get? x=some ox:=Heap.get?_push_of_some _ hx;show wpAny _ _ (instanceDict x true >>= _) _ _ _;unfold instanceDict;refine wpAny_bind (wpAny_bind (wpAny_loadPart hx ?_));rw[hc,hd,hf];refine wpAny_bind (Looks.here (s:=⟨hh,g,d,t+1,os⟩) (looks_clsIn X hcd) ?_);rw[hdict];have td:typeHasDict (.ref C)=true:=by rfl
 rw[if_neg (by decide),td];dsimp only
 rw[if_neg (by decide)];refine wpAny_bind (wpAny_alloc' (wpAny_bind (wpAny_update' hx1 (wpAny_pure ?_))));have hgd:((hh.push { cls:=.type "dict",data:=.dict #[] }).update x λo=>{ o with dict:=some hh.objs.size }).get? hh.objs.size=some { cls:=.type "dict",data:=.dict #[] }:=(Heap.get?_update_other _ _ hxs).trans (Heap.get?_push_size _ rfl);have hnd:((hh.push { cls:=.type "dict",data:=.dict #[] }).update x λo=>{ o with dict:=some hh.objs.size }).Ns hh.objs.size (λ_=>none):=⟨_,#[],_,hgd,rfl,λe he=>absurd he (by simp),λ_=>rfl⟩;show wpAny _ _ (storeInDict hh.objs.size (.str name t) name v) _ _ _;unfold storeInDict newKeyGuard;refine wpAny_bind (wpAny_pure (wpAny_bind (wpAny_nsSet1 (Heap.Ns1.of_empty hnd) λh' hn' hs=>?_)));obtain⟨oD,esD,epD,hoD,hdD,hcD⟩:=hn'.count (Within.cons name v Within.nil);have hlen:esD.size<=sizeLine:=ES hcD (by rw[E1,List.length_nil,sizeLine_eq];omega);refine wpAny_bind (wpAny_lookBehind hoD (by rw[hdD];exact pastItsLine_dict (Nat.le_succ_of_le hlen)) (wpAny_pure ?_));refine h h' _ ?_ hn' λb o hb e=>?_
 ·refine(hs.2 x hxs).trans (Heap.get?_update_self _ hx1 ?_);have fr:=(Heap.get?_some_iff.mp hx).2;obtain⟨oc,od,odt,osl⟩:=ox;cases odt<;>first |rfl |exact fr
 ·exact(hs.2 b (E3 (Heap.lt_size e))).trans ((Heap.get?_update_other _ _ (Ne.symm hb)).trans (Heap.get?_push_of_some _ e))
end
section
variable {prog:Program}{w:World}{A:Around}{E:Value->Shared->Prop}{h:Heap}{g:Array GenState}{d:Drawn}{t:Nat}{os:OsState}
variable {nm q:Str}{C N fI:Addr}{bs bm bmB:List Value}{hdct:Bool}{sn:List Str}{sub:List Value}{ab:Bool}{col:Option Bool}{dd:Option Addr}{k0 k1 k2 k3 k5:Option Value}{B newId initId:String}{mN:Str->Option Value}{oI:Obj}{rest:List Value}
noncomputable def bQ(C t:Addr):Obj:={ cls:=.ref C,data:=.fields #[.ref t,.none,.none,.none,.bool false,.none] }
theorem uW(F:ExcBaseFacts B newId initId bmB)(T:OwnTail h bmB bm){Q:Fin->Shared->Prop}(hC:h.get? C=some (excClassObj nm q C N bs bm hdct sn sub ab col dd k0 k1 k2 k3 k5 newId))(hn:h.Ns N mN)(hi:mN "__init__"=some (.ref fI))(hfI:h.get? fI=some oI)(hfc:oI.cls=.type "function")(hrest:rest.length<=sizeLine)
 (hq:wpAny (model prog w) A (call (.ref fI) (.ref (h.objs.size+1)::rest)) (λr s'=>r=.none/\Q (.done (.ret (.ref (h.objs.size+1)))) s') E ⟨(h.push { cls:=.type "tuple",data:=.seq rest.toArray }).push (bQ C h.objs.size),g,d,t,os⟩) :
 wpAny (model prog w) A (Builtin.«type.__call__» ⟨.ref C::rest,[]⟩) Q E ⟨h,g,d,t,os⟩:=by
 have kk:∀b o,h.get? b=some o->((h.push { cls:=.type "tuple",data:=.seq rest.toArray }).push (bQ C h.objs.size)).get? b=some o:=λb o e=>Heap.get?_push_of_some _ (Heap.get?_push_of_some _ e)
 have g0:((h.push { cls:=.type "tuple",data:=.seq rest.toArray }).push (bQ C h.objs.size)).get? (h.objs.size+1)=some (bQ C h.objs.size):=by
  have:=Heap.get?_push_size (h.push { cls:=.type "tuple",data:=.seq rest.toArray }) (o:=bQ C h.objs.size) rfl
  rwa [Heap.size_push]at this
 have cC:(Value.ref C::bm).contains (.ref C)=true:=by simp
 repeat (first |with_reducible refine wpAny_loadPart_at hC ?_ |with_reducible refine wpAny_madeBy_exc hC ?_ |wp_step)
 refine codeAny_call_builtin_code (Code.quiet_builtin _ F.quiet) (wpAny_check_new_subT F T hC (codeAny_exc_new_subT F T hC ?_ hrest));have hC':=kk _ _ hC;have hn':=hn.keeps kk;have T':=T.keeps kk;have hf':=kk _ _ hfI;show wpAny _ _ _ _ _ ⟨(h.push { cls:=.type "tuple",data:=.seq rest.toArray }).push (bQ C h.objs.size),g,d,t,os⟩;generalize (h.push { cls:=.type "tuple",data:=.seq rest.toArray }).push (bQ C h.objs.size)=h2 at *
 unfold bQ at g0
 unfold isInstance
 repeat (first |with_reducible refine wpAny_loadPart_at g0 ?_ | (with_reducible refine wpAny_isSubtype_exc hC' ?_;rw[cC]) |wp_step)
 show wpAny _ _ (typeLookup (.ref C) _) _ _ _;refine wpAny_typeLookup_tail hC' hn' T' F.mroIs F.init.lookup ?_;rw[hi];refine wpAny_holding (wpAny_bind ?_);unfold bindSpecial;refine wpAny_bind (wpAny_typeOf (T:="function") ⟨_,hf',hfc⟩ ?_);rw[if_pos (by decide)];refine wpAny_pure (wpAny_bind (wpAny_mono hq (λr s' hr=>?_) λ_ _ z=>z));obtain⟨rfl,z⟩:=hr
 wp_walk
 exact z
theorem u8(F:ExcBaseFacts B newId initId bmB)(T:OwnTail h bmB bm){Q:Value->Shared->Prop}(hC:h.get? C=some (excClassObj nm q C N bs bm hdct sn sub ab col dd k0 k1 k2 k3 k5 newId))(hn:h.Ns N mN)(hi:mN "__init__"=some (.ref fI))(hfI:h.get? fI=some oI)(hfc:oI.cls=.type "function")(hrest:rest.length<=sizeLine)
 (hq:wpAny (model prog w) (A.under (.builtin "type.__call__" ⟨.ref C::rest,[]⟩)) (call (.ref fI) (.ref (h.objs.size+1)::rest)) (λr s'=>r=.none/\Q (.ref (h.objs.size+1)) s') E ⟨(h.push { cls:=.type "tuple",data:=.seq rest.toArray }).push (bQ C h.objs.size),g,d,t,os⟩) :
 wpAny (model prog w) A (call (.ref C) rest) Q E ⟨h,g,d,t,os⟩:=by
 have a1:=tc_lookup;have a2:=tc_bind (.ref C);have hT:(⟨h,g,d,t,os⟩:Shared).TypeIs (.ref C) "type":=⟨_,hC,rfl⟩;refine wpAny_call (codeAny_of_tree ?_);show wpAny _ _ (callAny (.ref C) _) _ _ _
 repeat (any_goals (first |assumption |with_reducible refine wpAny_loadPart_at hC ?_ |wp_step))
 refine⟨rfl,codeAny_call_builtin_at (Code.quiet_builtin _ (by decide +kernel)) entry_typeCall (wpAny_check_type_call_sub hC (uW F T hC hn hi hfI hfc hrest ?_))⟩;exact hq
end
section
variable {M:Model}{A:Around}{E:Value->Shared->Prop}{s:Shared}{env:Env}
variable {nm q:Str}{C N:Addr}{bs bm:List Value}{hdct:Bool}{sn:List Str}{sub:List Value}{ab:Bool}{col:Option Bool}{dd:Option Addr}{k0 k1 k2 k3 k5:Option Value}{newId:String}
theorem wH{x:Sem Value}{Q:Flow->Shared->Prop}(hbase:bm.contains (.type "BaseException")=true)(hh:A.handled=none)
 (hx:wpAny M A x (λv s1=>∃e t d,v=.ref e/\s1.heap.get? C=some (excClassObj nm q C N bs bm hdct sn sub ab col dd k0 k1 k2 k3 k5 newId)/\s1.heap.get? e=some { bQ C t with dict:=d }/\E (.ref e) s1) E s) :
 wpAny M A (raiseStmt env (some x) none) Q E s:=by
 have cB:(Value.ref C::bm).contains (.type "BaseException")=true:=by rw[List.contains_cons,hbase,Bool.or_true]
 unfold raiseStmt;refine wpAny_bind (wpAny_mono hx (λv s1 h1=>?_) λ_ _ z=>z);obtain⟨e,t,d,rfl,hC,he,hE⟩:=h1;obtain⟨hp,g,d',tk,os⟩:=s1;unfold bQ at he
 repeat (first |with_reducible refine wpAny_loadPart_at he ?_ |with_reducible refine wpAny_loadPart_at hC ?_ | (with_reducible refine wpAny_isSubtype_exc hC ?_;rw[cB]) |wp_step)
 exact wpAny_raiseNew_none hh hE
end
noncomputable def CXV(P:Program)(w:World):CXT:=λouter H s E e s'=>∃d:Option Addr,CXW P w outer H s (λc _ H'=>E c d H') e s'/\∃ea ob,e=.ref ea/\s'.heap.get? ea=some ob/\ob.dict=d
noncomputable def EX(C a:Addr)(d:Option Addr):HO:=.ext λh=>∃t,h.get? a=some { bQ C t with dict:=d }
theorem t6{P:Program}{w:World}{H:Hp}{h:Heap}{C a t:Addr}{d:Option Addr}(e:h.get? a=some { bQ C t with dict:=d }):ObjOk P w H h a (EX C a d):=⟨⟨t,e⟩,⟨_,e⟩,λh1 h2 ⟨t',e'⟩ k=>⟨t',k _ e'⟩⟩
section
variable {P:Program}{w:World}{K:PySem.W.Frag}{mg:Str->Option Value}{base:Heap}{N:List Str}{qual:Str}{scope:Scope}{f:Addr}{cd:Value}{A:Around}{outer:List Env}{s:Shared}{H:Hp}{E:XK}{pins:List (Addr×Obj)}{σ:St}{H1:Hp}{s1:Shared}
theorem uY{e C:Addr}{oe:Obj}{vs:Array Value}{a0:Value}(I:Inv (bn (CXV P w) P w K mg base N qual scope f cd A outer s H E) pins σ H1 s1)(he:s1.heap.get? e=some oe)(hc:oe.cls=.ref C)(hd:oe.data=.fields vs)(h0:vs[0]?=some a0)(h1:vs[1]?=some .none)(hn:H1 e=none)(hs:s.heap.get? e=none)(hE:E (.ref C) oe.dict H1) :
 (bn (CXV P w) P w K mg base N qual scope f cd A outer s H E).xe (.ref e) s1:=by
 have hst:=I.stack;have hfree:=I.stkFree;have hfrm:(envOfC qual scope s.heap.objs.size f cd).frame=some s.heap.objs.size:=rfl;have efr:frs (envOfC qual scope s.heap.objs.size f cd::outer)=s.heap.objs.size::frs outer:=tT hfrm;have hin:∀env∈(envOfC qual scope s.heap.objs.size f cd::outer),∀b,env.frame=some b->b∈e::frs (envOfC qual scope s.heap.objs.size f cd::outer):=λenv hv b hb=>Fo _ (List.mem_filterMap.mpr ⟨env,hv,hb⟩)
 have b1:∀b o,s.heap.get? b=some o->b∉frs outer->∃o',s1.heap.get? b=some o'/\(PySem.W.hideAll s1.heap (e::frs (envOfC qual scope s.heap.objs.size f cd::outer))).get? b=some o':=λb o q hb=>by
  obtain⟨o',q'⟩:=I.base.there b o q (λz=>nomatch z);refine⟨o',q',PySem.W.hideAll_get _ q' λz=>?_⟩;rw[efr]at z;rcases EQ.mp z with z |z
  ·rw[z,hs]at q;cases q
  ·rcases EQ.mp z with z |z
   ·exact absurd (Heap.lt_size q) (by rw[z];exact E9 _)
   ·exact hb z
 have b2:∀b x,H1 b=some x->∃o',s1.heap.get? b=some o'/\(PySem.W.hideAll s1.heap (e::frs (envOfC qual scope s.heap.objs.size f cd::outer))).get? b=some o':=λb x q=>by
  obtain⟨o',q'⟩:∃o',s1.heap.get? b=some o':=yD (I.hok b x q);refine⟨o',q',PySem.W.hideAll_get _ q' λz=>?_⟩;rcases EQ.mp z with z |z
  ·rw[z,hn]at q;cases q
  ·rw[hfree b z]at q;cases q
 have hB:(PySem.W.hideAll s1.heap (e::frs (envOfC qual scope s.heap.objs.size f cd::outer))).get? e=none:=PySem.W.hideAll_none _ (FJ ..)
 have fd:∀b∈frs outer,∀o,s1.heap.get? b=some o->∀ws,o.data≠.fields ws:=λb hb o q=>by obtain⟨_,o',q',hdd⟩:=I.funs.mem hb;have q'':s1.heap.get? b=some o':=q';rw[q]at q'';cases q'';exact hdd
 refine wpAny_mono (qi (E':=λ_ _=>False) (sj _ _) (wpAny_leaving_firstW (L:=s.heap.objs.size) (a0:=a0) I.ok.frames (PySem.W.funFrames_hide hst hin) hfrm he (λb o q=>PySem.W.of_hideAll _ q) hB hd h1 h0 (Q:=λ_ s''=>∃h'',s''={ s1 with heap:=h'' }/\Heap.FlyingW (PySem.W.hideAll s1.heap (e::frs (envOfC qual scope s.heap.objs.size f cd::outer))) outer e oe.cls a0 h''/\s1.heap.UpToSlots h'') (E:=λ_ _=>False) λh' hL=>?_)) (λ_ s'' hq=>?_) (λ_ _ z=>z.elim)
 ·obtain⟨k1,⟨_,_,k2⟩,k3,k4⟩:=hL;exact⟨h',rfl,⟨k1,hB,k2,k3⟩,k4⟩
 ·obtain⟨⟨h'',rfl,fl,up⟩,kd⟩:=hq;obtain⟨o',eo',od'⟩:=kd e oe he;rw[hc]at fl;refine⟨oe.dict,⟨e,.ref C,a0,_,H1,rfl,I.os,I.bare,?_,I.hok.back b2 fl.1,fl,λb o q hb=>?_,λb x q=>?_,hn,hs,hE⟩,e,o',rfl,eo',od'⟩
  ·exact I.base.back (λb o q hb=>let⟨o',q1,q2⟩:=b1 b o q hb;⟨o',q1,fl.1 _ _ q2⟩) I.ok.frf fd up
  ·obtain⟨o',q1,q2⟩:=b1 b o q hb;exact⟨o',fl.1 _ _ q2,q2⟩
  ·obtain⟨o',q1,q2⟩:=b2 b x q;exact⟨o',fl.1 _ _ q2,q2⟩
theorem uZ{E':XK}{e:Value}{s2:Shared}(I:Inv (bn (CXV P w) P w K mg base N qual scope f cd A outer s H E) pins σ H1 s1)(h:CXV P w (bn (CXV P w) P w K mg base N qual scope f cd A outer s H E).stack H1 s1 E' e s2)(hE:∀c d H',E' c d H'->E c d H') :
 (bn (CXV P w) P w K mg base N qual scope f cd A outer s H E).xe e s2:=by
 obtain⟨d,hW,ea,ob,rfl,eo,ed⟩:=h;have I':Inv (bn (CXW P w) P w K mg base N qual scope f cd A outer s H (λc _ H'=>E c d H')) pins σ H1 s1:=(I.wish (bn (CXW P w) P w K mg base N qual scope f cd A outer s H (λc _ H'=>E c d H')).xe);have x:=u0 (E':=λc _ H'=>E' c d H') I' hW (λc _ H' z=>hE c d H' z);have x':wpAny (model P w) (A.deeper (envOfC qual scope s.heap.objs.size f cd)) (leaving (envOfC qual scope s.heap.objs.size f cd) (.ref ea)) (λ_ s''=>CXW P w outer H s (λc _ H'=>E c d H') (.ref ea) s'') (λe' s''=>CXW P w outer H s (λc _ H'=>E c d H') e' s'') s2:=x;refine wpAny_mono (qi (E':=λ_ _=>False) (sj _ _) x') (λ_ s'' hq=>?_) (λ_ _ z=>z.elim);obtain⟨h1,kd⟩:=hq;obtain⟨o',eo',od'⟩:=kd ea ob eo;exact⟨d,h1,ea,o',rfl,eo',od'.trans ed⟩
theorem aV{E':XK}(hE:∀c d H',E' c d H'->E c d H'):ey (CXV P w) (bn (CXV P w) P w K mg base N qual scope f cd A outer s H E) E':=λ_ _ _ _ _ _ I h=>uZ I h hE
theorem rD{X:Cx}:ey (CXV X.prog X.w) X E0:=λ_ _ _ _ _ _ _ h=>by obtain⟨_,h,_⟩:=h;obtain⟨_,_,_,_,_,_,_,_,_,_,_,_,_,_,_,z⟩:=h;exact z.elim
end
section
variable {X:Cx}{pins:List (Addr×Obj)}{σ:St}{H:Hp}{s:Shared}{a C:Addr}{f:Str}
theorem AB{h':Heap}{tk:Nat}{t:Addr}{y:V}{u:Value}(I:Inv X pins σ H s)(e:H a=some (EX C a none))(ry:RelV y u)(ha:h'.get? a=some { bQ C t with dict:=some s.heap.objs.size })(hn:h'.Ns1 s.heap.objs.size (λg=>if g=f then some u else none))(k:∀b o,b≠a->s.heap.get? b=some o->h'.get? b=some o) :
 Inv X pins σ (upd (upd H s.heap.objs.size (.xd [(f,y)])) a (EX C a (some s.heap.objs.size))) { s with heap:=h',toks:=tk }:=by
 have fr:H s.heap.objs.size=none:=I.hok.fresh (EO _);have nd:a≠s.heap.objs.size:=aX e fr;have other:∀b,b≠a->b≠s.heap.objs.size->upd (upd H s.heap.objs.size (.xd [(f,y)])) a (EX C a (some s.heap.objs.size)) b=H b:=λb h1 h2=>by rw[upd_ne h1,upd_ne h2]
 have na:∀b o,H b=some o->(∀φ,o≠.ext φ)->b≠a:=λb o q h1 z=>by rw[z,e]at q;exact h1 _ (Option.some.inj q).symm
 have ns:∀b o,s.heap.get? b=some o->b≠s.heap.objs.size:=λb o q=>E3 (Heap.lt_size q)
 have nf:∀b o,H b=some o->b≠s.heap.objs.size:=λb o q=>aX q fr
 refine I.un ⟨λb o q n _ _=>k b o (λz=>by rw[z,e]at n;cases n) q,λb o q n _ _=>⟨o.slots,k b o (λz=>by rw[z,e]at n;cases n) q⟩,λb o q n _=>?_,λb o q _=>?_,λb xs q=>?_,λb o u q=>?_,λb ps q=>⟨#[],?_⟩⟩ λb o q=>?_
 ·rw[other b (λz=>by rw[z,e]at n;cases n) (ns b o q)];exact n
 ·by_cases z:b=a
  ·exact⟨_,by rw[z];exact ha⟩
  ·exact⟨o,k b o z q⟩
 ·rw[other b (na b _ q λφ z=>by cases z) (nf b _ q)];exact q
 ·rw[other b (na b _ q λφ z=>by cases z) (nf b _ q)];exact q
 ·rw[other b (na b _ q λφ z=>by cases z) (nf b _ q),Array.append_empty];exact q
 ·by_cases z:b=a
  ·subst z;rw[af]at q;cases q;exact t6 ha
  ·rw[upd_ne z]at q;by_cases z2:b=s.heap.objs.size
   ·subst z2;rw[af]at q;cases q;refine⟨_,hn,λg=>?_⟩;by_cases zg:g=f
    ·subst zg;rw[if_pos rfl];show RelO (List.lookup g [(g,y)]) (some u);simp only[List.lookup,beq_self_eq_true];exact ry
    ·rw[if_neg zg];have:(g == f)=false:=beq_false_of_ne zg;show RelO (List.lookup g [(f,y)]) none;simp only[List.lookup,this];trivial
   ·rw[upd_ne z2]at q;refine(I.hok b o q).stay (λc v hc r=>k c v ?_ r) (λc r=>?_) λc xs r=>?_
    ·rcases hc with rfl |hc
     ·exact z
     ·exact na c _ hc λφ z=>by cases z
    ·rw[other c (na c _ r λφ z=>by cases z) (nf c _ r)];exact r
    ·rw[other c (na c _ r λφ z=>by cases z) (nf c _ r)];exact r
end
def sXf(K:PySem.W.Frag)(ta tv:TE)(f:Str):TS:=λD σ H=>tv σ H λy H1=>ta σ H1 λx H2=>∃a C,x=.ref a/\H2 a=some (EX C a none)/\XCls K C/\NoAttr K C f/\∀dx,H2 dx=none->dx≠a->D.nx σ (upd (upd H2 dx (.xd [(f,y)])) a (EX C a (some dx)))
section
variable {X:Cx}{o value:Expr}{f:Str}{pos pos':Pos}{ta tv:TE}
theorem wR(ha:PE X o ta)(hv:PE X value tv)(hs:swapsWith value (some (.Attribute o f pos')) pos.line X.env=pure false):PS X (.Assign [.Attribute o f pos'] value pos) (sXf X.K ta tv f):=by intro pins s σ H D I h;refine plainObj_wpAny_Assign_Attribute (thn (hv pins s σ H _ I h) λu s1 ⟨y,H1,I1,ry,q⟩=>thn (ha pins s1 σ H1 _ I1 q) λov s2 ⟨x,H2,I2,rx,a,C,ex,ea,c,n,q2⟩=>?_) hs;subst ex;obtain rfl:ov=Value.ref a:=rx;obtain⟨⟨t,et⟩,_,_⟩:=(show ObjOk X.prog X.w H2 s2.heap a (EX C a none)from I2.hok a _ ea);have fr:H2 s2.heap.objs.size=none:=I2.hok.fresh (EO _);refine uX I2.kIn c et rfl rfl rfl n λh' tk e1 e2 e3=>⟨σ,_,AB (t:=t) I2 ea ry e1 e2 e3,q2 _ fr (Ne.symm (aX ea fr))⟩
end
def kU(C:Addr)(f:Str):Sp:=λvs H Q _=>∃(e:Addr) (v:V),vs=[.ref e,v]/\H e=some (EX C e none)/\∀dx,H dx=none->dx≠e->Q .non (upd (upd H dx (.xd [(f,v)])) e (EX C e (some dx)))
structure OwnX(x:Str)(C fI:Addr)(bmB:List Value)(newId:String)(mg:Str->Option Value)(h:Heap):Prop where
 bound:mg x=some (.ref C)
 obj:∃bm N nm q bs hdct sn sub ab col dd k0 k1 k2 k3 k5 mN,h.get? C=some (excClassObj nm q C N bs bm hdct sn sub ab col dd k0 k1 k2 k3 k5 newId)/\h.Ns N mN/\mN "__init__"=some (.ref fI)/\OwnTail h bmB bm
 fn:∃oI,h.get? fI=some oI/\oI.cls=.type "function"
def vt(E:XK)(c:Value)(f:Str)(t:TA):TS:=λ_ σ H=>t σ H λvs H1=>∃v,vs=[v]/\∀dx,H1 dx=none->E c (some dx) (upd H1 dx (.xd [(f,v)]))
section
variable {X:Cx}{pins:List (Addr×Obj)}{σ:St}{H:Hp}{s:Shared}{a:Addr}{φ:Heap->Prop}
theorem Inv.untrack{H':Hp}{s':Shared}(I:Inv X pins σ H s)(e:H a=some (.ext φ))(J:Inv X pins σ H' s')(hn:H' a=none):Inv X pins σ (λb=>if b=a then none else H b) s:=by
 have other:∀b,b≠a->(if b=a then none else H b)=H b:=λb h1=>if_neg h1
 have na:∀b o,H b=some o->(∀φ,o≠.ext φ)->b≠a:=λb o q h1 z=>by rw[z,e]at q;exact h1 _ (Option.some.inj q).symm
 refine⟨I.ok,I.os,I.bare,⟨I.base.keep,I.base.slot,λb o q n hx=>?_,I.base.there,λb xs q=>?_,λb o u q=>?_,λb ps q=>?_⟩,I.loc,I.cell,?_,λx c q=>?_,λp hp=>?_,λb o q=>?_,I.len⟩
 ·show(if b=a then none else H b)=none;split
  ·rfl
  ·exact I.base.free b o q n hx
 ·have z:b≠a:=λz=>by have:=J.base.tups b xs q;rw[z,hn]at this;cases this
  rw[other b z];exact I.base.tups b xs q
 ·have z:b≠a:=λz=>by have:=J.base.frzs b o u q;rw[z,hn]at this;cases this
  rw[other b z];exact I.base.frzs b o u q
 ·have z:b≠a:=λz=>by obtain⟨m,this⟩:=J.base.tbls b ps q;rw[z,hn]at this;cases this
  rw[other b z];exact I.base.tbls b ps q
 ·show(if X.env.locals=a then none else H X.env.locals)=none;split
  ·rfl
  ·exact I.free
 ·show(if c=a then none else H c)=none;split
  ·rfl
  ·exact I.freeC x c q
 ·obtain⟨h1,h2,h3⟩:=I.pin p hp;refine⟨h1,?_,h3⟩;show(if p.1=a then none else H p.1)=none;split
  ·rfl
  ·exact h2
 ·have q':(if b=a then none else H b)=some o:=q;by_cases z:b=a
  ·rw[if_pos z]at q';cases q'
  ·rw[if_neg z]at q';refine(I.hok b o q').stay (λ_ _ _ r=>r) (λc r=>?_) λc xs r=>?_
   ·rw[other c (na c _ r λφ z=>by cases z)];exact r
   ·rw[other c (na c _ r λφ z=>by cases z)];exact r
end
section
variable {P:Program}{w:World}{K:PySem.W.Frag}{mg:Str->Option Value}{base:Heap}{N:List Str}{qual:Str}{scope:Scope}{f:Addr}{cd:Value}{A:Around}{outer:List Env}{s:Shared}{H:Hp}{E:XK}
theorem ip{x att:Str}{C fI:Addr}{bmB:List Value}{Bn newId initId:String}{np cpos pos:Pos}{e:Expr}{t:TA}{fd:FuncData}{ps:List Str}{k:Nat}(hg:Gl (bn (CXV P w) P w K mg base N qual scope f cd A outer s H E) x)(O:OwnX x C fI bmB newId mg base)(FB:ExcBaseFacts Bn newId initId bmB)
 (F:FnOk P w K mg base CX0 k fI fd ps (kU C att)) (hr:Room (k+1) (bn (CXV P w) P w K mg base N qual scope f cd A outer s H E).A) (hb:Binds K fd ps []) (hk:PySem.W.keepIn K (.ref C)=true) (ha:PA (bn (CXV P w) P w K mg base N qual scope f cd A outer s H E) [e] t)
 (hdb:(x == ("__debug__":Str))=false:=by decide) (he:starEach [e] (envOfC qual scope s.heap.objs.size f cd)=(false,eval e (envOfC qual scope s.heap.objs.size f cd))::starEach [] (envOfC qual scope s.heap.objs.size f cd):=by rfl) (hpl:(backTo cpos (starEach [] (envOfC qual scope s.heap.objs.size f cd))).any (·.1)=false:=by rfl) :
 PS (bn (CXV P w) P w K mg base N qual scope f cd A outer s H E) (.Raise (some (.Call (.Name x np) [e] [] cpos)) none pos) (vt E (.ref C) att t):=by
 intro pins s1 σ H1 D I h;obtain⟨tl,NN,nm,q,bs,hdct,sn,sub,ab,col,dd,k0,k1,k2,k3,k5,mN,hC,hN,hi,T⟩:=O.obj;obtain⟨oI,hfI,hfc⟩:=O.fn;rw[arm_exec_Raise];refine wpAny_bind (wpAny_standAt ?_);refine wH (C:=C) (nm:=nm) (q:=q) (N:=NN) (bs:=bs) (bm:=tl) (hdct:=hdct) (sn:=sn) (sub:=sub) (ab:=ab) (col:=col) (dd:=dd) (k0:=k0) (k1:=k1) (k2:=k2) (k3:=k3) (k5:=k5) (newId:=newId) (T.hasType FB.hasBase) (I.ok.hd rfl) ?_;refine wpAny_bind (wpAny_mono ?_ (λv s3 h3=>wpAny_bind (wpAny_standAt (wpAny_pure h3))) λ_ _ z=>z);refine wpAny_Call_Name_kw (lO I hg O.bound ?_ hdb);refine PySem.W.callWith_K (h₀:=base) I.ok.mod.kin hk (thn (ha cpos pins s1 σ H1 _ I h) λus s2 ⟨vs,H2,I2,r,v,ev,q2⟩=>⟨I2.kIn,?_⟩) he hpl;subst ev;obtain⟨hh,g,d,tt,os⟩:=s2;have hlen:us.length<=sizeLine:=by rw[<- r.length];show 1<=sizeLine;decide
 show wpAny _ _ (call (.ref C) us) _ _ ⟨hh,g,d,tt,os⟩;refine u8 FB (T.keeps I2.bk) (I2.bk _ _ hC) (hN.keeps I2.bk) hi (I2.bk _ _ hfI) hfc hlen ?_
 have ge:((hh.push { cls:=.type "tuple",data:=.seq us.toArray }).push (bQ C hh.objs.size)).get? (hh.objs.size+1)=some (bQ C hh.objs.size):=by
  have:=Heap.get?_push_size (hh.push { cls:=.type "tuple",data:=.seq us.toArray }) (o:=bQ C hh.objs.size) rfl
  rwa [Heap.size_push]at this
 have I3:Inv (bn (CXV P w) P w K mg base N qual scope f cd A outer s H E) pins σ (upd H2 (hh.objs.size+1) (EX C (hh.objs.size+1) none)) ⟨(hh.push { cls:=.type "tuple",data:=.seq us.toArray }).push (bQ C hh.objs.size),g,d,tt,os⟩ :=
  I2.laid (a:=hh.objs.size+1) (o:=EX C (hh.objs.size+1) none) (t':=tt) (λb u z=>Heap.get?_push_of_some _ (Heap.get?_push_of_some _ z)) (Nat.le_succ _) (t6 (t:=hh.objs.size) ge)
 have fr:H2 (hh.objs.size+1)=none:=I2.hok.fresh (Nat.le_succ _);generalize hea:hh.objs.size+1=ea at ge I3 fr ⊢
 generalize (hh.push { cls:=.type "tuple",data:=.seq us.toArray }).push (bQ C hh.objs.size)=h3 at ge I3 ⊢
 have sp0:kU C att [V.ref ea,v] (upd H2 ea (EX C ea none)) (λv' H'=>v'=.non/\∃dx,H2 dx=none/\dx≠ea/\H'=upd (upd (upd H2 ea (EX C ea none)) dx (.xd [(att,v)])) ea (EX C ea (some dx))) E0 :=
  ⟨ea,v,rfl,af,λdx h1 h2=>⟨rfl,dx,by rwa [upd_ne h2]at h1,h2,rfl⟩⟩
 have r2:Vals [V.ref ea,v] (Value.ref ea::us):=.cons rfl r
 have hl:(Value.ref ea::us++[]).length=ps.length:=by have z:=r2.length;rw[F.len _ _ _ _ sp0]at z;rw[Ff];exact z.symm
 have hbb:=hb _ (Value.ref ea::us) I3.kIn hl;rw[Ff]at hbb;refine wpAny_call (codeAny_mono (F.run _ (bn (CXV P w) P w K mg base N qual scope f cd A outer s H E).stack _ _ ⟨Value.ref ea::us,[]⟩ (Value.ref ea::us) _ _ E0 (hr.make C us []) (I3.env0.make C us []) hbb r2 sp0) λr' s' hq'=>?_);cases r' with
 |error e'=>exact(show False from hq').elim
 |ok fl =>
  cases fl with
  |ret u =>
   obtain⟨v',H',I4,rv,ev,dx,hdx,hde,eH⟩:=I3.after hq';subst ev;subst eH;refine⟨rv,?_⟩;obtain⟨⟨t4,et4⟩,_,_⟩:=(show ObjOk P w _ s'.heap ea (EX C ea (some dx))from I4.hok ea _ af)
   have sn':s.heap.get? ea=none:=by
    cases z:s.heap.get? ea with
    |none=>rfl
    |some o =>obtain⟨o',z'⟩:=I2.base.there ea o z (λz=>nomatch z);exact absurd (Heap.lt_size z') (by rw[<- hea];show ¬hh.objs.size+1<hh.objs.size;omega)
   have I5:=I4.untrack (a:=ea) af I2 fr
   have eH5:(λb=>if b=ea then none else upd (upd (upd H2 ea (EX C ea none)) dx (.xd [(att,v)])) ea (EX C ea (some dx)) b)=upd H2 dx (.xd [(att,v)]):=funext λb=>by
    by_cases z:b=ea
    ·rw[if_pos z,z,upd_ne (Ne.symm hde),fr]
    ·rw[if_neg z,upd_ne z];by_cases z2:b=dx
     ·rw[z2,af,af]
     ·rw[upd_ne z2,upd_ne z,upd_ne z2]
   rw[eH5]at I5;refine⟨ea,t4,some dx,rfl,I5.bk _ _ hC,et4,?_⟩;exact uY I5 et4 rfl rfl rfl rfl (by rw[upd_ne (Ne.symm hde)];exact fr) sn' (q2 dx hdx)
  |next=>exact(show False from hq').elim
  |brk=>exact(show False from hq').elim
  |cont=>exact(show False from hq').elim
end
section
variable {P:Program}{w:World}{K:PySem.W.Frag}{mg:Str->Option Value}{base:Heap}
theorem Fun.okV{x qual:Str}{st:Stmt}{f:Addr}{fd:FuncData}{N ps:List Str}{k:Nat}{sp:Sp}(F:Fun K x qual st f fd)(S:FnScope N ps (ah st))(len:∀vs H Q E,sp vs H Q E->vs.length=ps.length)
 (hbody:∀(cdv:Value) (A:Around) (outer:List Env) (s:Shared) (H:Hp) (vs:List V) (Q:VK) (E:XK),Room k (A.deeper (envOfC qual (ah st) s.heap.objs.size f cdv))->sp vs H Q E ->
   ∃t,PSs (bn (CXV P w) P w K mg base N qual (ah st) f cdv A outer s H E) (au st) t/\t { nx:=λ_ H'=>Q .non H',rt:=Q } (cY N vs) H):FnOk P w K mg base (CXV P w) (k+1) f fd ps sp:=by
 obtain⟨oc,od,kV,doc,pm,an,cdv,ct,osl,rfl,lk,hcd⟩:=F.ex;exact lZ lk hcd S len λA outer s H vs Q E hr hsp=>hbody cdv A outer s H vs Q E hr hsp
theorem FunD.okV{x qual:Str}{st:Stmt}{dV:Value}{f:Addr}{fd:FuncData}{N ps:List Str}{k:Nat}{sp:Sp}(F:FunD K x qual st dV f fd)(S:FnScope N ps (ah st))(len:∀vs H Q E,sp vs H Q E->vs.length=ps.length)
 (hbody:∀(cdv:Value) (A:Around) (outer:List Env) (s:Shared) (H:Hp) (vs:List V) (Q:VK) (E:XK),Room k (A.deeper (envOfC qual (ah st) s.heap.objs.size f cdv))->sp vs H Q E ->
   ∃t,PSs (bn (CXV P w) P w K mg base N qual (ah st) f cdv A outer s H E) (au st) t/\t { nx:=λ_ H'=>Q .non H',rt:=Q } (cY N vs) H):FnOk P w K mg base (CXV P w) (k+1) f fd ps sp:=by
 obtain⟨oc,od,kV,doc,pm,an,cdv,ct,osl,rfl,lk,hcd⟩:=F.ex;exact lZ lk hcd S len λA outer s H vs Q E hr hsp=>hbody cdv A outer s H vs Q E hr hsp
end
section
variable {P:Program}{w:World}{K:PySem.W.Frag}{mg:Str->Option Value}{base:Heap}{N:List Str}{qual:Str}{scope:Scope}{f:Addr}{cd:Value}{A:Around}{outer:List Env}{s:Shared}{H:Hp}{E:XK}
end
section
variable {X:Cx}{k:Nat}{f R R2:Addr}{fd:FuncData}{ps:List Str}{sp:Sp}{dvs:List V}{ds:List Value}{r r2 n n2 x:Str}{p pos epos np hpos np2 hpos2:Pos}{e ex:Expr}{es:List Expr}{t:TA}{i i2:Nat}{b₀ b₂:Stmt}{suite suite2:List Stmt}{th th2:Addr->Obj->TS}{tx:XK->TE}
end
noncomputable def pc(K:PySem.W.Frag)(C fI:Addr)(bmB:List Value)(newId:String):Bool:=match K.lookup C with
 |some ⟨.type "type",_,.cls cd,sl⟩=>(match cd.mro,sl.toList with
  |.ref C'::bm,[_,_,_,_,some (.builtin n),_]=>C' == C&&n == newId&&!cd.hasDel&&PySem.W.tailIn K bmB bm&&PySem.W.nsOkIn K cd.ns&&PySem.W.nsIn K cd.ns "__init__" == some (some (.ref fI))&&PySem.W.typeIn K (.ref fI) == some (.type "function")
  |_,_=>false)
 |_=>false
theorem yG{K:PySem.W.Frag}{h:Heap}{N:Addr}{mN:Str->Option Value}{x:Str}{v:Value}(X:K.In h)(G:h.Ns N mN)(e:PySem.W.nsIn K N x=some (some v)):mN x=some v:=by
 obtain⟨ob,es,ep,hob,hdat,_,hfind⟩:=G;unfold PySem.W.nsIn at e
 cases hl:K.lookup N with
 |none=>rw[hl]at e;cases e
 |some oo =>
  obtain rfl:ob=oo:=Option.some.inj (hob.symm.trans (X _ _ hl));obtain⟨c1,c2,c3,c4⟩:=ob;have hdat':c3=.dict es ep:=hdat;subst hdat';rw[hl]at e;dsimp only at e
  have hf:=hfind x;unfold nsFind findBy at hf
  rw[<- Array.find?_toList]at hf;cases hq:es.toList.find? (·.key.isStr x)with
  |none =>
   rw[hq]at e;dsimp only at e
   split at e<;>cases e
  |some en =>rw[hq]at e hf;rw[<- hf];exact Option.some.inj e
theorem xm{K:PySem.W.Frag}{h₀:Heap}{mg:Str->Option Value}{x:Str}{C fI:Addr}{bmB:List Value}{newId:String}(X:K.In h₀)(G:h₀.Ns mainGlobals mg)(e:PySem.W.nsIn K mainGlobals x=some (some (.ref C)))(q:pc K C fI bmB newId=true):OwnX x C fI bmB newId mg h₀:=by
 unfold pc at q
 split at q
 ·rename_i dd cd sl ho
  split at q
  ·rename_i C' bm k0 k1 k2 k3 n k5 hm hs
   simp only[EZ,beq_iff_eq,Bool.not_eq_true']at q;obtain⟨⟨⟨⟨⟨⟨rfl,rfl⟩,hdel⟩,ht⟩,hok⟩,hni⟩,hfn⟩:=q;obtain⟨nm,bs,mro,ns,qn,hd,sn,sub,ab,col,del⟩:=cd;dsimp only at hm hdel hok hni
   subst hm hdel
   have hsl:sl=#[k0,k1,k2,k3,some (.builtin n),k5]:=by
    obtain⟨l⟩:=sl;simp only at hs
    rw[hs]
   subst hsl;refine⟨PySem.W.mg_of X G e,⟨bm,ns,nm,qn,bs,hd,sn,sub,ab,col,dd,k0,k1,k2,k3,k5,_,X _ _ ho,.of_isNs (PySem.W.isNs_of_in X hok),yG X (.of_isNs (PySem.W.isNs_of_in X hok)) hni,PySem.W.tail_of_in X ht⟩,?_⟩;obtain⟨oI,h1,h2⟩:=Option.map_eq_some_iff.mp (show(K.lookup fI).map (·.cls)=some (.type "function")from hfn);exact⟨oI,X _ _ h1,h2⟩
  ·cases q
 ·cases q
structure CalV(P:Program)(w:World)(K:PySem.W.Frag)(mg:Str->Option Value)(base:Heap)(k:Nat)(x:Str)(ps:List Str)(sp:Sp)(f:Addr)(fd:FuncData):Prop where
 ok:FnOk P w K mg base (CXV P w) k f fd ps sp
 mg:mg x=some (.ref f)
 kp:PySem.W.keepIn K (.ref f)=true
 bd:Binds K fd ps []
structure MCalV(P:Program)(w:World)(K:PySem.W.Frag)(mg:Str->Option Value)(base:Heap)(k:Nat)(C:Addr)(m:Str)(ps:List Str)(sp:Sp)(f:Addr)(fd:FuncData):Prop where
 ok:FnOk P w K mg base (CXV P w) k f fd ps sp
 mt:Meth K C m f
 bd:Binds K fd ps []
structure XCal(P:Program)(w:World)(K:PySem.W.Frag)(mg:Str->Option Value)(base:Heap)(k:Nat)(C:Addr)(x att:Str)(ps:List Str)(f:Addr)(fd:FuncData):Prop where
 ok:FnOk P w K mg base CX0 k f fd ps (kU C att)
 ow:OwnX x C f iO "ValueError.__new__" mg base
 kp:PySem.W.keepIn K (.ref C)=true
 bd:Binds K fd ps []
 xc:XCls K C
 ec:ECls K C
 na:NoAttr K C att
variable {X:Cx}
theorem rH:OpR X (binaryOp .Mult) (λx y H Q=>∃(i:Str) (n:Int),x=.str i/\y=.int n/\i.length=1/\0<=n/\n<=1000/\Q (.str (Txt.mul i n)) H):=by intro pins s σ H x y v u Q I rx ry h;obtain⟨i,n,rfl,rfl,hl,h0,h1,q⟩:=h;obtain⟨t,rfl⟩:=rx;obtain⟨t',rfl⟩:=ry;exact PySem.W.KXi.mul hl (by decide) (by omega) (by omega) λt' k _ _=>⟨.str (Txt.mul i n),H,I.tok _,⟨_,rfl⟩,q⟩
section
variable {X:Cx}{i:Nat}{x:Str}{a:Expr}{ta:TE}{es:List Expr}{xs:List Str}{rest:List Stmt}{u:TS}{pos pos' pos2 pos3:Pos}
end
section
variable {P:Program}{w:World}{K:PySem.W.Frag}{mg:Str->Option Value}{base:Heap}
end
structure RoomH(k:Nat)(A:Around):Prop where
 dp:A.depth+3*k+5<recursionLimit
 un:A.units+16*k+200<cLine
theorem RoomH.mono{j k:Nat}{A:Around}(r:RoomH k A)(h:j<=k:=by decide):RoomH j A:=⟨by have:=r.dp;omega,by have:=r.un;omega⟩
theorem RoomH.deeper{k:Nat}{A:Around}(r:RoomH (k+1) A)(env:Env):RoomH k (A.deeper env) :=
 ⟨by have:=r.dp;show A.depth+1+3*k+5<_;omega,by have:=r.un;show A.units+3+16*k+200<_;omega⟩
section
variable {P:Program}{w:World}{K:PySem.W.Frag}{mg:Str->Option Value}{base:Heap}
end
section
variable {X:Cx}{k:Nat}{f C:Addr}{fd:FuncData}{ps:List Str}{sp:Sp}{dvs:List V}{ds:List Value}{E:XK}{x m:Str}{p pos apos:Pos}{e o:Expr}{es:List Expr}{ta:TE}{t:TA}
end
end L2
namespace RM
noncomputable def cf(l:List Int)(k:Nat):Int:=l.getD k 0
theorem Ck(k:Nat):cf [] k=0:=by simp[cf]
theorem Ci(x:Int)(l:List Int)(k:Nat):cf (x::l) (k+1)=cf l k:=rfl
theorem ef{l:List Int}{k:Nat}(h:l.length<=k):cf l k=0:=by unfold cf;rw[List.getD,List.getElem?_eq_none_iff.mpr h];rfl
theorem mm{l:List Int}{k:Nat}(h:k<l.length):cf l k=l[k]:=by unfold cf;rw[List.getD,List.getElem?_eq_getElem h];rfl
theorem lW{l:List Int}{k:Nat}(h:k<l.length):l[k]?=some (cf l k):=by rw[mm h,List.getElem?_eq_getElem h]
theorem ul{l r:List Int}{k:Nat}(h:k<l.length):cf (l++r) k=cf l k:=by unfold cf;rw[List.getD,List.getD,List.getElem?_append_left h]
theorem pB{l r:List Int}{k:Nat}(h:l.length<=k):cf (l++r) k=cf r (k-l.length):=by unfold cf;rw[List.getD,List.getD,List.getElem?_append_right h]
theorem pw{l:List Int}{j k:Nat}{x:Int}(h:j<l.length):cf (l.set j x) k=if k=j then x else cf l k:=by
 unfold cf;rw[List.getD,List.getD,List.getElem?_set];by_cases e:j=k
 ·subst e;simp[h]
 ·rw[if_neg e,if_neg (λz=>e z.symm)]
theorem Cj(n k:Nat):cf (List.replicate n 0) k=0:=by unfold cf;rw[List.getD,List.getElem?_replicate];split<;>rfl
theorem pz(f:Nat->Int)(n k:Nat):cf ((List.range n).map f) k=if k<n then f k else 0:=by
 unfold cf;rw[List.getD,List.getElem?_map];by_cases h:k<n
 ·rw[if_pos h,List.getElem?_range h];rfl
 ·rw[if_neg h,List.getElem?_eq_none_iff.mpr (by simpa using h)];rfl
theorem B1{a b:List Int}(hl:a.length=b.length)(h:∀k,k<a.length->cf a k=cf b k):a=b:=by apply List.ext_getElem hl;intro k h1 h2;rw[<- mm h1,<- mm h2];exact h k h1
noncomputable def trim(l:List Int):List Int:=(l.reverse.dropWhile (· == 0)).reverse
theorem qy(l:List Int):trim (l++[0])=trim l:=by unfold trim;rw[List.reverse_append];rfl
theorem qz(l:List Int){x:Int}(h:x≠0):trim (l++[x])=l++[x]:=by unfold trim;rw[List.reverse_append];show((x::l.reverse).dropWhile (· == 0)).reverse=_;rw[List.dropWhile_cons_of_neg (by simpa using h)];simp
def Tr(l:List Int):Prop:=∀n,l.length=n+1->cf l n≠0
theorem qU(l:List Int):l=[]\/∃r x,l=r++[x]:=by
 cases h:l.reverse with
 |nil=>left;simpa using h
 |cons x r=>right;exact⟨r.reverse,x,by rw[<- List.reverse_reverse l,h];simp⟩
theorem uk(r:List Int)(x:Int):cf (r++[x]) r.length=x:=by rw[pB (EO _),Nat.sub_self];rfl
theorem vm:Tr []:=λn h=>by simp at h
theorem tr_snoc{r:List Int}{x:Int}:Tr (r++[x])↔x≠0:=by
 constructor
 ·intro h;have:=h r.length (by simp)
  rwa [uk]at this
 ·intro h n hn;have e:n=r.length:=by simp at hn;omega
  subst e
  rwa [uk]
theorem kS:∀(n:Nat) (l:List Int),l.length=n->Tr (trim l)/\(trim l).length<=l.length/\∀k,cf (trim l) k=cf l k
 |0,l,h=>by have:l=[]:=FF.mp h;subst this;exact⟨vm,EO _,λ_=>rfl⟩
 |n+1,l,h=>by
  rcases qU l with rfl |⟨r,x,rfl⟩
  ·simp at h
  ·by_cases hx:x=0
   ·subst hx;obtain⟨h1,h2,h3⟩:=kS n r (by simpa using h);rw[qy];refine⟨h1,by rw[ER];exact ES h2 (FG _ _),λk=>?_⟩;rw[h3];by_cases hk:k<r.length
    ·rw[ul hk]
    ·rw[pB (FE hk),ef (FE hk)];cases e:k-r.length with
     |zero=>rfl
     |succ j=>rw[Ci,Ck]
   ·rw[qz r hx];exact⟨tr_snoc.mpr hx,EO _,λ_=>rfl⟩
theorem fY(l:List Int):Tr (trim l):=(kS _ l rfl).1
theorem zQ(l:List Int):(trim l).length<=l.length:=(kS _ l rfl).2.1
theorem mj(l:List Int)(k:Nat):cf (trim l) k=cf l k:=(kS _ l rfl).2.2 k
theorem t7{a b:List Int}(ha:Tr a)(hb:Tr b)(h:∀k,cf a k=cf b k):a=b:=by
 have le:∀{a b:List Int},Tr a->(∀k,cf a k=cf b k)->a.length<=b.length:=λ{a b} ha h=>by
  cases e:a.length with
  |zero=>exact Fb _
  |succ n =>apply Classical.byContradiction;intro hn;exact ha n e (by rw[h n,ef (by omega)])
 have hl:a.length=b.length:=Nat.le_antisymm (le ha h) (le hb λk=>(h k).symm);exact B1 hl λk _=>h k
theorem vj{l:List Int}{n:Nat}(hn:n<l.length)(h:cf l n=0):trim (l.take (n+1))=trim (l.take n):=by rw[Fw,lW hn,h];exact qy _
theorem vk{l:List Int}{n:Nat}(hn:n<l.length)(h:cf l n≠0):trim (l.take (n+1))=l.take (n+1):=by rw[Fw,lW hn];exact qz _ h
noncomputable def lM(f:Int)(a b:List Int):List Int:=(List.range (max a.length b.length)).map λk=>cf a k+f*cf b k
theorem Cl(f:Int)(a b:List Int)(k:Nat):cf (lM f a b) k=cf a k+f*cf b k:=by
 unfold lM;rw[pz];by_cases h:k<max a.length b.length
 ·rw[if_pos h]
 ·have h1:a.length<=k:=by omega
  have h2:b.length<=k:=by omega
  rw[if_neg h,ef h1,ef h2];simp
noncomputable def dG(a b:List Int):List Int:=trim (lM 1 a b)
noncomputable def tm(a b:List Int)(n i:Nat):Int:=if i<=n then cf a i*cf b (n-i)else 0
noncomputable def sm(a b:List Int)(n:Nat):Nat->Int
 |0=>0
 |j+1=>sm a b n j+tm a b n j
theorem Dg(a b:List Int):trim ((List.range (max a.length b.length)).map λk=>cf a k+cf b k)=dG a b:=by
 unfold dG lM
 congr 2;funext k;rw[Int.one_mul]
noncomputable def dv(t b:Int):Int:=if b<0 then -((Nat.gcd t.natAbs b.natAbs:Nat):Int)else((Nat.gcd t.natAbs b.natAbs:Nat):Int)
noncomputable def rt(t b:Int):Int:=t.fdiv (dv t b)
noncomputable def rb(t b:Int):Int:=b.fdiv (dv t b)
theorem lX{t b:Int}(hb:b≠0):0<Nat.gcd t.natAbs b.natAbs:=Nat.gcd_pos_of_pos_right _ (Int.natAbs_pos.mpr hb)
theorem mf{t b:Int}(hb:b≠0):dv t b≠0:=by have:=@lX t b hb;unfold dv;split<;>omega
theorem kf(t b:Int):(dv t b).natAbs=Nat.gcd t.natAbs b.natAbs:=by unfold dv;split<;>omega
theorem B6(t b:Int):dv t b∣t:=Int.natAbs_dvd_natAbs.mp (by rw[kf];exact Nat.gcd_dvd_left _ _)
theorem B5(t b:Int):dv t b∣b:=Int.natAbs_dvd_natAbs.mp (by rw[kf];exact Nat.gcd_dvd_right _ _)
theorem t5{a d:Int}(hd:d≠0)(h:d∣a):d*a.fdiv d=a:=by obtain⟨c,rfl⟩:=h;rw[Int.mul_fdiv_cancel_left c hd]
theorem re{t b:Int}(hb:b≠0):dv t b*rt t b=t:=t5 (mf hb) (B6 t b)
theorem nv{t b:Int}(hb:b≠0):dv t b*rb t b=b:=t5 (mf hb) (B5 t b)
theorem wF{t b:Int}(hb:b≠0):0<rb t b:=by
 have h1:=@nv t b hb;have h2:=@lX t b hb;by_cases hn:b<0
 ·have hd:dv t b<0:=by unfold dv;rw[if_pos hn];omega
  apply Classical.byContradiction;intro h;have:0<=dv t b*rb t b:=Int.mul_nonneg_of_nonpos_of_nonpos (Int.le_of_lt hd) (by omega);omega
 ·have hd:0<dv t b:=by unfold dv;rw[if_neg hn];omega
  apply Classical.byContradiction;intro h;have:dv t b*rb t b<=0:=Int.mul_nonpos_of_nonneg_of_nonpos (Int.le_of_lt hd) (by omega);omega
theorem ww{t b:Int}(hb:b≠0):(rt t b).natAbs<=t.natAbs:=by
 have h1:t.natAbs=Nat.gcd t.natAbs b.natAbs*(rt t b).natAbs:=by rw[<- kf,<- Int.natAbs_mul,re hb]
 rw[h1];exact Nat.le_mul_of_pos_left _ (lX hb)
theorem wG{t b:Int}(hb:b≠0):(rb t b).natAbs<=b.natAbs:=by
 have h1:b.natAbs=Nat.gcd t.natAbs b.natAbs*(rb t b).natAbs:=by rw[<- kf,<- Int.natAbs_mul,nv hb]
 rw[h1];exact Nat.le_mul_of_pos_left _ (lX hb)
noncomputable def sg(x:Int):Int:=if x<0 then -1 else if 0<x then 1 else 0
theorem um(a b:List Int)(n:Nat):cf (dG a b) n=cf a n+cf b n:=by unfold dG;rw[mj,Cl,Int.one_mul]
open PySem PySem.NumText PySem.Builtin PySem.Builtin.Str
noncomputable def stL(l:List Nat):Str:=⟨l.toArray⟩
theorem gb(l:List Nat):(stL l).cps.toList=l:=rfl
theorem aU(l:List Nat):(stL l).length=l.length:=by unfold stL Str.length;simp
theorem qR(l:List Nat):(stL l).cps.size=l.length:=by unfold stL;simp
theorem iQ(a b:List Nat):stL a++stL b=stL (a++b):=Cm a b
theorem stL_inj{a b:List Nat}:stL a=stL b↔a=b:=⟨λh=>congrArg (λz:Str=>z.cps.toList) h,λh=>by rw[h]⟩
theorem qr(n:Nat):Str.ofString (toString (n:Int))=stL (aj n):=AE n
theorem m5(l:List Nat){a b:Nat}(hab:a<=b)(hb:b<=l.length):Txt.slice (stL l) (some (a:Int)) (some (b:Int))=stL ((l.drop a).take (b-a)):=by
 unfold Txt.slice;have hl:b<=(stL l).length:=by rw[aU];exact hb
 split
 ·rename_i h
  have e:(strSliceIndices (some (a:Int)) (some (b:Int)) 1 (stL l).length).length=(stL l).length:=by simpa using h
  rw[StrLaws.strSliceIndices_plain hab hl,EN,List.length_range,aU]at e;have ha:a=0:=by omega
  have hb':b=l.length:=by omega
  subst ha;subst hb';rw[List.drop_zero,Nat.sub_zero,Ft]
 ·rw[StrLaws.sliced_plain (stL l) hab hl];rfl
noncomputable def isD(c:Nat):Bool:=decide (48<=c)&&decide (c<=57)
noncomputable def isA(c:Nat):Bool:=decide (97<=c)&&decide (c<=122)
theorem tJ(c:Nat):decide (c∈(Str.ofString "0123456789").cps.toList)=isD c:=by
 have e:(Str.ofString "0123456789").cps.toList=[48,49,50,51,52,53,54,55,56,57]:=by decide +kernel
 rw[e,Fj,decide_eq_true_eq];unfold isD;simp only[EQ,E2,or_false,EZ,decide_eq_true_eq];omega
theorem tI(c:Nat):decide (c∈(Str.ofString "abcdefghijklmnopqrstuvwxyz").cps.toList)=isA c:=by
 have e:(Str.ofString "abcdefghijklmnopqrstuvwxyz").cps.toList=[97,98,99,100,101,102,103,104,105,106,107,108,109,110,111,112,113,114,115,116,117,118,119,120,121,122]:=by decide +kernel
 rw[e,Fj,decide_eq_true_eq];unfold isA;simp only[EQ,E2,or_false,EZ,decide_eq_true_eq];omega
theorem fG(n:Nat):aj n≠[]:=by
 by_cases h:n<10
 ·rw[iy h];simp
 ·rw[lx (by omega)];simp
theorem rN:∀(n m:Nat),m<=n->∀c∈aj m,isD c=true
 |0,m,h=>by
  have e:m=0:=by omega
  subst e;rw[iy (by decide)];intro c hc;rw[E4.mp hc];decide
 |n+1,m,h=>by
  intro c hc;by_cases h':m<10
  ·rw[iy h']at hc;rw[E4.mp hc];unfold isD;simp only[EZ,decide_eq_true_eq];omega
  ·rw[lx (by omega)]at hc;rcases EW.mp hc with hc |hc
   ·exact rN n (m/10) (by omega) c hc
   ·rw[E4.mp hc];have:=Nat.mod_lt m (show 0<10 by decide);unfold isD;simp only[EZ,decide_eq_true_eq];omega
theorem eV(n:Nat):∀c∈aj n,isD c=true:=rN n n (EO _)
theorem rM:∀(n m:Nat),m<=n->1<=m->∃c r,aj m=c::r/\c≠48
 |0,m,h,h1=>by omega
 |n+1,m,h,h1=>by
  by_cases h':m<10
  ·exact⟨48+m,[],iy h',by omega⟩
  ·obtain⟨c,r,e,hc⟩:=rM n (m/10) (by omega) (by omega);rw[lx (by omega),e];exact⟨c,r++[48+m%10],rfl,hc⟩
theorem yE(n:Nat)(hl:(aj n).length<=4300):PySem.intText? (stL (aj n))=some (n:Int):=by
 have hd:AllDigits (stL (aj n)).cps.toList:=λc hc=>by
  rw[gb]at hc;have:=eV n c hc;unfold isD at this
  simpa using this
 have e:=intText_digits hd (by rw[gb];exact fG n) (by rw[aU];exact hl);rw[gb]at e;rw[e];have:digitsVal (aj n)=n:=PySem.W.KIN.val_back n;rw[this]
noncomputable def rT:List Nat->Nat
 | []=>0
 |c::r=>if isD c then((c::r).takeWhile isD).length else if isA c then((c::r).takeWhile isA).length else 1
theorem my(p:Nat->Bool):∀l:List Nat,(l.takeWhile p).length<=l.length
 | []=>EO _
 |c::r=>by
  rw[Fn];split
  ·have:=my p r;simp;omega
  ·simp
noncomputable def mkF:Nat->List Nat->List (List Nat)
 |0,_=>[]
 |n+1,l=>if l=[]then[]else(if l.head?=some 32 then[]else[l.take (rT l)])++mkF n (l.drop (rT l))
noncomputable def Ep(l:List Nat):List (List Nat):=mkF l.length l
def Bl(b:List Nat):Prop:=b=[]\/∃r,b=32::r
theorem Bl.no{b:List Nat}(h:Bl b)(p:Nat->Bool)(hp:p 32=false):∀c∈b.head?,p c=false:=by
 rcases h with rfl |⟨r,rfl⟩
 ·intro c hc;simp at hc
 ·intro c hc;have:c=32:=by simpa using hc.symm
  rw[this];exact hp
noncomputable def mln:List Nat->Nat
 | []=>0
 |c::r=>if isD c then((c::r).takeWhile isD).length else if isA c then((c::r).takeWhile isA).length else if c=46/\r.head?=some 46 then 2 else 1
theorem dB(c:Nat)(r:List Nat):mln (c::r)=if isD c then((c::r).takeWhile isD).length else if isA c then((c::r).takeWhile isA).length else if c=46/\r.head?=some 46 then 2 else 1:=rfl
theorem iA(c:Nat)(r:List Nat):1<=mln (c::r):=by
 rw[dB];by_cases h1:isD c=true
 ·rw[if_pos h1,Fn,if_pos h1];simp
 ·rw[if_neg h1];by_cases h2:isA c=true
  ·rw[if_pos h2,Fn,if_pos h2];simp
  ·rw[if_neg h2];split<;>decide
theorem nX(l:List Nat):mln l<=l.length:=by
 cases l with
 |nil=>exact EO _
 |cons c r =>
  rw[dB];split
  ·exact my _ _
  ·split
   ·exact my _ _
   ·split
    ·rename_i h
     cases r with
     |nil=>simp at h
     |cons d r=>simp
    ·simp
noncomputable def mkP:Nat->Nat->List Nat->List (List Nat×Nat)
 |0,_,_=>[]
 |n+1,i,l=>if l=[]then[]else(if l.head?=some 32 then[]else[(l.take (mln l),i)])++mkP n (i+mln l) (l.drop (mln l))
theorem lD:∀n i,mkP n i []=[]
 |0,_=>rfl
 |n+1,i=>by show(if([]:List Nat)=[]then[]else _)=_;rw[if_pos rfl]
theorem rZ:∀(n i:Nat) (l:List Nat),l.length<=n->mkP (n+1) i l=mkP n i l
 |0,i,l,h=>by have e:l=[]:=FF.mp (by omega);rw[e,lD,lD]
 |n+1,i,l,h=>by
  by_cases hl:l=[]
  ·rw[hl,lD,lD]
  ·obtain⟨c,r,rfl⟩:=Fd hl;have:=iA c r;show(if c::r=[]then[]else _++mkP (n+1) _ _)=(if c::r=[]then[]else _++mkP n _ _);rw[rZ n _ _ (by rw[Fc];omega)]
theorem sd{l:List Nat}{i:Nat}:∀{n:Nat},l.length<=n->mkP n i l=mkP l.length i l
 |0,h=>by have:l.length=0:=by omega
          rw[this]
 |n+1,h=>by
  by_cases e:l.length=n+1
  ·rw[e]
  ·rw[rZ n i l (by omega)];exact sd (by omega)
noncomputable def mks(i:Nat)(l:List Nat):List (List Nat×Nat):=mkP l.length i l
theorem iB(i:Nat):mks i []=[]:=rfl
theorem fH(i c:Nat)(r:List Nat):mks i (c::r)=(if c=32 then[]else[((c::r).take (mln (c::r)),i)])++mks (i+mln (c::r)) ((c::r).drop (mln (c::r))):=by
 have h1:=iA c r;show(if c::r=[]then[]else(if(c::r).head?=some 32 then[]else _)++mkP r.length _ _)=_;rw[if_neg (by simp)]
 congr 1
 ·by_cases h:c=32
  ·rw[if_pos h,if_pos (by rw[h];rfl)]
  ·rw[if_neg h,if_neg (by simpa using h)]
 ·refine sd ?_;rw[Fc,E1];omega
noncomputable def glu(a b:Nat):Bool:=(isD a&&isD b) || (isA a&&isA b) || (decide (a=46)&&decide (b=46))
def ez(T X:List Nat):Prop:=∀a b,T.getLast?=some a->X.head?=some b->glu a b=false
theorem qu{p:Nat->Bool}{T X:List Nat}(h:∀a b,T.getLast?=some a->X.head?=some b->p a=true->p b=false)(hT:T≠[]):((T++X).takeWhile p).length=(T.takeWhile p).length:=by
 rw[List.takeWhile_append];by_cases e:(T.takeWhile p).length=T.length
 ·rw[if_pos e];have hall:T.takeWhile p=T:=(List.takeWhile_prefix p).eq_of_length e
  have hp:∀x∈T,p x=true:=λx hx=>by have:=Fg.mp (List.all_takeWhile (l:=T) (p:=p)) x (by rw[hall];exact hx);exact this
  have hl:p (T.getLast hT)=true:=hp _ (List.getLast_mem hT)
  have:X.takeWhile p=[]:=by
   cases X with
   |nil=>rfl
   |cons b r =>rw[Fn,if_neg];rw[h (T.getLast hT) b (List.getLast?_eq_some_getLast hT) rfl hl];decide
  rw[this,Ff,hall]
 ·rw[if_neg e]
theorem yO{T X:List Nat}(hT:T≠[])(h:ez T X):mln (T++X)=mln T:=by
 have g1:=qu (p:=isD) (λa b ha hb hp=>by have:=h a b ha hb;unfold glu at this;rw[hp]at this;simp at this;exact this.1.1) hT;have g2:=qu (p:=isA) (λa b ha hb hp=>by have:=h a b ha hb;unfold glu at this;rw[hp]at this;simp at this;exact this.1.2) hT;obtain⟨c,r,rfl⟩:=Fd hT;rw[E5]at g1 g2 ⊢;rw[dB,dB,g1,g2]
 have g3:(c=46/\(r++X).head?=some 46)↔(c=46/\r.head?=some 46):=by
  cases r with
  |cons d r=>exact Iff.rfl
  |nil =>
   constructor
   ·rintro⟨rfl,hx⟩;have:=h 46 46 rfl hx;exact absurd this (by decide)
   ·rintro⟨_,z⟩;cases z
 simp only[g3]
theorem rX:∀(n i:Nat) (T X:List Nat),T.length<=n->ez T X->mks i (T++X)=mks i T++mks (i+T.length) X
 |n,i,[],X,_,_=>by rw[iB];rfl
 |0,i,c::r,X,h,_=>absurd h (by simp)
 |n+1,i,c::r,X,h,g=>by
  have hT:c::r≠[]:=by simp
  have m1:=yO hT g;have m2:=iA c r;have m3:=nX (c::r);rw[E5]at m1 ⊢;rw[fH,fH,m1,<- E5,List.take_append_of_le_length m3,List.drop_append_of_le_length m3,E7]
  congr 1
  rw[rX n _ _ X (by rw[Fc];simp at h ⊢;omega) (λa b ha hb=>g a b (by
   have hne:(c::r).drop (mln (c::r))≠[]:=λz=>by rw[z]at ha;cases ha
   rw[List.getLast?_drop]at ha;split at ha
   ·cases ha
   ·exact ha) hb)]
  congr 2
  rw[Fc];omega
theorem rY{T X:List Nat}(i:Nat)(g:ez T X):mks i (T++X)=mks i T++mks (i+T.length) X:=rX _ i T X (EO _) g
theorem nY(X:List Nat):∀(g i:Nat),mks i (List.replicate g 32++X)=mks (i+g) X
 |0,i=>rfl
 |g+1,i=>by
  rw[Fk,E5,fH];have e:mln (32::(List.replicate g 32++X))=1:=by rw[dB];rfl
  rw[e,if_pos rfl,Fs];show mks (i+1) (List.replicate g 32++X)=_;rw[nY X g (i+1)]
  congr 1;omega
structure WfM(m:List Nat):Prop where
 ne:m≠[]
 asc:∀c∈m,c<128
 nb:m.head?≠some 32
 one:mln m=m.length
theorem yQ{m:List Nat}(h:WfM m)(i:Nat):mks i m=[(m,i)]:=by obtain⟨c,r,rfl⟩:=Fd h.ne;rw[fH,h.one,Ft,List.drop_length,iB,Ff,if_neg];intro z;exact h.nb (by rw[z];rfl)
theorem yI{T X:List Nat}{g:Nat}(h:0<g\/ez T X):ez T (List.replicate g 32++X):=by
 intro a b ha hb;cases g with
 |zero=>exact(h.resolve_left (by omega)) a b ha hb
 |succ g =>rw[Fk,E5]at hb;cases hb;unfold glu;simp[isD,isA]
theorem yP{T m:List Nat}{g:Nat}(h:WfM m)(hg:0<g\/ez T m):mks 0 (T++List.replicate g 32++m)=mks 0 T++[(m,T.length+g)]:=by rw[E7,rY 0 (yI hg),nY,yQ h,Nat.zero_add]
theorem yT(T:List Nat)(g:Nat):mks 0 (T++List.replicate g 32)=mks 0 T:=by
 have h:ez T (List.replicate g 32++[]):=by
  intro a b ha hb;cases g with
  |zero=>cases hb
  |succ g =>rw[Fk,E5]at hb;cases hb;unfold glu;simp[isD,isA]
 have:=rY 0 h;rw[nY,Ff,iB,Ff]at this;exact this
theorem vb(n:Nat):WfM (aj n):=by
 have hd:=eV n;obtain⟨c,r,e⟩:=Fd (fG n);have hc:isD c=true:=hd c (by rw[e];simp);refine⟨fG n,λc hc=>?_,?_,?_⟩
 ·have:=hd c hc;unfold isD at this
  simp at this;omega
 ·rw[e];intro z;cases z;exact absurd hc (by decide)
 ·rw[e,dB,if_pos hc,<- e]
  have:∀l:List Nat,(∀c∈l,isD c=true)->l.takeWhile isD=l:=λl=>by
   induction l with
   |nil=>intro _;rfl
   |cons a l ih=>intro h;rw[Fn,if_pos (h a (by simp)),ih λc hc=>h c (by simp[hc])]
  rw[this _ hd]
instance:DecidablePred WfM:=λm=>decidable_of_iff (m≠[]/\(∀c∈m,c<128)/\m.head?≠some 32/\mln m=m.length) ⟨λh=>⟨h.1,h.2.1,h.2.2.1,h.2.2.2⟩,λh=>⟨h.ne,h.asc,h.nb,h.one⟩⟩
theorem rV:∀(n i:Nat) (l:List Nat),l.length<=n->∀u∈mks i l,u.1≠[]/\u.1.length<=l.length/\∀c∈u.1,c∈l
 |n,i,[],_=>λu hu=>by rw[iB]at hu;cases hu
 |0,i,c::r,h=>absurd h (by simp)
 |n+1,i,c::r,h=>λu hu=>by
  have m2:=iA c r;rw[fH]at hu;rcases EW.mp hu with hu |hu
  ·by_cases hc:c=32
   ·rw[if_pos hc]at hu;cases hu
   ·rw[if_neg hc]at hu;rw[E4.mp hu];refine⟨λz=>?_,by simp only[Fq];omega,λc hc=>List.mem_of_mem_take hc⟩;have:=congrArg List.length z;simp at this;omega
  ·obtain⟨h1,h2,h3⟩:=rV n _ _ (by rw[Fc];simp at h ⊢;omega) u hu;refine⟨h1,?_,λc hc=>List.mem_of_mem_drop (h3 c hc)⟩;rw[Fc]at h2;omega
theorem yR{i:Nat}{l:List Nat}:∀u∈mks i l,u.1≠[]/\u.1.length<=l.length/\∀c∈u.1,c∈l:=rV _ i l (EO _)
theorem rW:∀(n i:Nat) (l:List Nat),l.length<=n->(mks i l).length<=l.length
 |n,i,[],_=>by rw[iB];exact EO _
 |0,i,c::r,h=>absurd h (by simp)
 |n+1,i,c::r,h=>by
  have m2:=iA c r;have:=rW n (i+mln (c::r)) ((c::r).drop (mln (c::r))) (by rw[Fc];simp at h ⊢;omega);rw[fH,ER];rw[Fc]at this;have h5:=nX (c::r);split
  ·simp only[List.length_nil];omega
  ·simp only[FK];omega
theorem yS(i:Nat)(l:List Nat):(mks i l).length<=l.length:=rW _ i l (EO _)
theorem AJ{a b len:Nat}(h:len<=b):strSliceIndices (some (a:Int)) (some (b:Int)) 1 len=strSliceIndices (some (a:Int)) (some (len:Int)) 1 len:=by
 have h1:¬((a:Int)<0):=by omega
 have h2:¬((b:Int)<0):=by omega
 have h3:¬((len:Int)<0):=by omega
 have e1:max (0:Int) (min (b:Int) (len:Int))=len:=by omega
 have e2:max (0:Int) (min (len:Int) (len:Int))=len:=by omega
 simp only[strSliceIndices,h1,h2,h3,if_false,e1,e2,show((1:Int)>0)=True from by simp,if_true]
theorem lL:Str.ofString ".."=stL [46,46]:=by decide +kernel
theorem vG{l:List Nat}{i:Nat}(hi:i<l.length):Txt.slice (stL l) (some (i:Int)) (some ((i:Int)+2))=Str.ofString ".."↔(l[i]=46/\(l.drop (i+1)).head?=some 46):=by
 have hd:l.drop i=l[i]::l.drop (i+1):=FH hi;rw[show(i:Int)+2=((i+2:Nat):Int) by omega,lL];by_cases h:i+2<=l.length
 ·rw[m5 l (by omega) h,stL_inj,hd,show i+2-i=2 by omega];cases hr:l.drop (i+1)with
  |nil =>have:=congrArg List.length hr;rw[Fc]at this;simp at this;omega
  |cons c r =>show[l[i],c]=[46,46]↔l[i]=46/\some c=some 46;simp
 ·have e:Txt.slice (stL l) (some (i:Int)) (some ((i+2:Nat):Int))=Txt.slice (stL l) (some (i:Int)) (some (l.length:Int)):=by unfold Txt.slice;rw[aU,AJ (by omega)]
  rw[e,m5 l (by omega) (EO _),stL_inj,hd];have hr:l.drop (i+1)=[]:=Fx (by omega);rw[hr,show l.length-i=1 by omega];show[l[i]]=[46,46]↔_;simp
abbrev Mk:=List Nat×Nat
noncomputable def mhd:List Mk->List Nat
 | []=>[]
 |u::_=>u.1
noncomputable def mbg(e:Nat):List Mk->Nat
 | []=>e
 |u::_=>u.2
noncomputable def isN(m:List Nat):Bool:=decide (m≠[])&&m.all isD&&(decide (m=[48]) ||decide (m.head?≠some 48))
noncomputable def isE(m:List Nat):Bool:=decide (m.length=1)&&m.all λc=>decide (48<=c)&&decide (c<=56)
inductive PSt |p0 |p1 |pm |pe |pn |px |pd
 deriving DecidableEq
noncomputable def PSt.opn:PSt->Bool
 |.p0 |.p1 |.pm |.pe=>true
 |_=>false
noncomputable def nxt(s:PSt)(m:List Nat):Option PSt:=match s with
 |.p0=>if isN m then some .pn else if m=[120]then some .px else if m=[45]then some .p1 else none
 |.p1=>if isN m then some .pn else if m=[120]then some .px else none
 |.pm=>if m=[120]then some .px else none
 |.pe=>if isE m then some .pd else none
 |.pn=>if m=[42]then some .pm else if m=[43]\/m=[45]then some .p1 else none
 |.px=>if m=[94]then some .pe else if m=[43]\/m=[45]then some .p1 else none
 |.pd=>if m=[43]\/m=[45]then some .p1 else none
structure Cfg where
 st:PSt
 row:Nat->Int
 sg:Int
 many:Int
 k:Nat
noncomputable def Cfg.fin(c:Cfg):Nat->Int:=λn=>c.row n+if n=c.k then c.sg*c.many else 0
noncomputable def Cfg.put(c:Cfg)(m:List Nat)(s:PSt):Cfg :=
 if m=[43]\/m=[45]then⟨s,c.fin,if m=[45]then -1 else 1,0,0⟩
 else if m=[120]then⟨s,c.row,c.sg,if c.st=.pm then c.many else 1,1⟩
 else if m=[42]\/m=[94]then{ c with st:=s }
 else if c.st=.pe then⟨s,c.row,c.sg,c.many,digitsVal m⟩
 else⟨s,c.row,c.sg,digitsVal m,c.k⟩
noncomputable def mgo(c:Cfg):List Mk->Cfg×List Mk
 | []=>(c,[])
 |u::us=>match nxt c.st u.1 with
  |none=>(c,u::us)
  |some s=>mgo (c.put u.1 s) us
noncomputable def aK:List Mk->List Mk ⊕ (Nat×List Mk)
 | []=>.inl []
 |u::us=>if u.1=[120]then(match us with
    | []=>.inr (1,[])
    |v::us2=>if v.1=[94]then(match us2 with
       | []=>.inl []
       |w::us3=>if isE w.1 then .inr (digitsVal w.1,us3)else .inl (w::us3))
     else .inr (1,v::us2))
  else .inl (u::us)
noncomputable def aQ:List Mk->List Mk ⊕ (Nat×Nat×List Mk)
 | []=>.inl []
 |u::us=>if isN u.1 then(match us with
    | []=>.inr (digitsVal u.1,0,[])
    |v::us2=>if v.1=[42]then(match aK us2 with
       |.inl r=>.inl r
       |.inr (k,r)=>.inr (digitsVal u.1,k,r))
     else .inr (digitsVal u.1,0,v::us2))
  else(match aK (u::us)with
   |.inl r=>.inl r
   |.inr (k,r)=>.inr (1,k,r))
theorem Aw{m:List Nat}(h:isN m=true):m≠[120]/\m≠[43]/\m≠[45]/\m≠[42]/\m≠[94]:=by refine⟨?_,?_,?_,?_,?_⟩<;>(rintro rfl;exact absurd h (by decide))
theorem Az{m:List Nat}(h:isE m=true):m≠[120]/\m≠[43]/\m≠[45]/\m≠[42]/\m≠[94]:=by refine⟨?_,?_,?_,?_,?_⟩<;>(rintro rfl;exact absurd h (by decide))
theorem eX{c:Cfg}{u:Mk}{us:List Mk}{s:PSt}(h:nxt c.st u.1=some s):mgo c (u::us)=mgo (c.put u.1 s) us:=by show(match nxt c.st u.1 with |none=>_ |some s=>_)=_;rw[h]
theorem lF{c:Cfg}{u:Mk}{us:List Mk}(h:nxt c.st u.1=none):mgo c (u::us)=(c,u::us):=by show(match nxt c.st u.1 with |none=>_ |some s=>_)=_;rw[h]
def Bad(r:Cfg×List Mk):Prop:=r.1.st.opn=true
def Lft(s:PSt)(us:List Mk):Prop:=(s=.px/\mhd us≠[94])\/s=.pd
theorem nC{c:Cfg}{us:List Mk}(hs:c.st=.pm\/((c.st=.p1\/(c.st=.p0/\mhd us≠[45]))/\isN (mhd us)=false)) :
 (∀r,aK us=.inl r->Bad (mgo c us)/\(mgo c us).2=r)/\∀k r,aK us=.inr (k,r)->∃s,Lft s r/\k<=8/\mgo c us=mgo ⟨s,c.row,c.sg,if c.st=.pm then c.many else 1,k⟩ r:=by
 have hop:c.st.opn=true:=by rcases hs with h |⟨h |⟨h,_⟩,_⟩<;>rw[h]<;>rfl
 cases us with
 |nil =>refine⟨λr h=>?_,λk r h=>nomatch h⟩;cases h;exact⟨hop,rfl⟩
 |cons u us =>
  by_cases hu:u.1=[120]
  ·have hn:nxt c.st u.1=some .px:=by rw[hu];rcases hs with h |⟨h |⟨h,_⟩,_⟩<;>rw[h]<;>decide
   rw[eX hn]
   have hp:c.put u.1 .px=⟨.px,c.row,c.sg,if c.st=.pm then c.many else 1,1⟩:=by unfold Cfg.put;rw[hu,if_neg (by decide),if_pos rfl]
   rw[hp];show(∀r,(if u.1=[120]then _ else _)=Sum.inl r->_)/\_;cases us with
   |nil =>
    have e:aK [u]=.inr (1,[]):=by simp[aK,hu]
    refine⟨λr h=>?_,λk r h=>?_⟩
    ·rw[if_pos hu]at h;cases h
    ·rw[e]at h;cases h;exact⟨.px,.inl ⟨rfl,by decide⟩,by decide,rfl⟩
   |cons v us =>
    by_cases hv:v.1=[94]
    ·have hn2:nxt PSt.px v.1=some .pe:=by rw[hv];decide
     rw[eX (c:=⟨.px,c.row,c.sg,if c.st=.pm then c.many else 1,1⟩) hn2]
     have hp2:(⟨.px,c.row,c.sg,if c.st=.pm then c.many else 1,1⟩:Cfg).put v.1 .pe=⟨.pe,c.row,c.sg,if c.st=.pm then c.many else 1,1⟩:=by unfold Cfg.put;rw[hv,if_neg (by decide),if_neg (by decide),if_pos (by decide)]
     rw[hp2];cases us with
     |nil =>
      have e:aK [u,v]=.inl []:=by simp[aK,hu,hv]
      refine⟨λr h=>?_,λk r h=>?_⟩
      ·have h':aK [u,v]=.inl r:=h;rw[e]at h';cases h';exact⟨rfl,rfl⟩
      ·rw[e]at h;cases h
     |cons w us =>
      by_cases hw:isE w.1=true
      ·have e:aK (u::v::w::us)=.inr (digitsVal w.1,us):=by simp[aK,hu,hv,hw]
       have hn3:nxt PSt.pe w.1=some .pd:=by show(if isE w.1=true then _ else _)=_;rw[if_pos hw]
       obtain⟨x1,x2,x3,x4,x5⟩:=Az hw;rw[eX (c:=⟨.pe,c.row,c.sg,if c.st=.pm then c.many else 1,1⟩) hn3]
       have hp3:(⟨.pe,c.row,c.sg,if c.st=.pm then c.many else 1,1⟩:Cfg).put w.1 .pd=⟨.pd,c.row,c.sg,if c.st=.pm then c.many else 1,digitsVal w.1⟩:=by unfold Cfg.put;rw[if_neg (by simp[x2,x3]),if_neg x1,if_neg (by simp[x4,x5]),if_pos rfl]
       rw[hp3];refine⟨λr h=>?_,λk r h=>?_⟩
       ·have h':aK (u::v::w::us)=.inl r:=h;rw[e]at h';cases h'
       ·rw[e]at h;cases h;refine⟨.pd,.inr rfl,?_,rfl⟩;obtain⟨m,n⟩:=w;dsimp only at hw ⊢
        match m,hw with
        | [a],hw =>
         unfold isE at hw
         simp at hw
         show 0*10+(a-48)<=8;omega
        | [],hw=>exact absurd hw (by decide)
        |a::b::m,hw =>
         unfold isE at hw
         simp at hw
      ·have e:aK (u::v::w::us)=.inl (w::us):=by simp[aK,hu,hv,hw]
       have hn3:nxt PSt.pe w.1=none:=by show(if isE w.1=true then _ else _)=_;rw[if_neg hw]
       rw[lF (c:=⟨.pe,c.row,c.sg,if c.st=.pm then c.many else 1,1⟩) hn3];refine⟨λr h=>?_,λk r h=>?_⟩
       ·have h':aK (u::v::w::us)=.inl r:=h;rw[e]at h';cases h';exact⟨rfl,rfl⟩
       ·rw[e]at h;cases h
    ·have e:aK (u::v::us)=.inr (1,v::us):=by simp[aK,hu,hv]
     refine⟨λr h=>?_,λk r h=>?_⟩
     ·have h':aK (u::v::us)=.inl r:=h;rw[e]at h';cases h'
     ·rw[e]at h;cases h;exact⟨.px,.inl ⟨rfl,hv⟩,by decide,rfl⟩
  ·have e:aK (u::us)=.inl (u::us):=by simp[aK,hu]
   have hn:nxt c.st u.1=none:=by
    rcases hs with h |⟨h |⟨h,h3⟩,h2⟩
    ·rw[h];show(if u.1=[120]then _ else _)=_;rw[if_neg hu]
    ·have h2':¬isN u.1=true:=by have:isN u.1=false:=h2;rw[this];decide
     rw[h];show(if isN u.1=true then _ else _)=_;rw[if_neg h2',if_neg hu]
    ·have h2':¬isN u.1=true:=by have:isN u.1=false:=h2;rw[this];decide
     rw[h];show(if isN u.1=true then _ else _)=_;rw[if_neg h2',if_neg hu,if_neg (show ¬u.1=[45]from h3)]
   rw[lF hn];refine⟨λr h=>?_,λk r h=>?_⟩
   ·rw[e]at h;cases h;exact⟨hop,rfl⟩
   ·rw[e]at h;cases h
def Lf2(s:PSt)(us:List Mk):Prop:=(s=.pn/\mhd us≠[42])\/Lft s us
theorem fw{c:Cfg}{us:List Mk}(hs:c.st=.p1\/(c.st=.p0/\mhd us≠[45]))(hk:c.k=0) :
 (∀r,aQ us=.inl r->Bad (mgo c us)/\(mgo c us).2=r)/\∀n k r,aQ us=.inr (n,k,r)->∃s,Lf2 s r/\k<=8/\mgo c us=mgo ⟨s,c.row,c.sg,n,k⟩ r:=by
 have hop:c.st.opn=true:=by rcases hs with h |⟨h,_⟩<;>rw[h]<;>rfl
 have hnm:c.st≠.pm:=by rcases hs with h |⟨h,_⟩<;>rw[h]<;>decide
 have hne:c.st≠.pe:=by rcases hs with h |⟨h,_⟩<;>rw[h]<;>decide
 cases us with
 |nil =>refine⟨λr h=>?_,λn k r h=>nomatch h⟩;cases h;exact⟨hop,rfl⟩
 |cons u us =>
  by_cases hu:isN u.1=true
  ·have hn:nxt c.st u.1=some .pn:=by rcases hs with h |⟨h,_⟩<;>rw[h]<;>(show(if isN u.1=true then _ else _)=_;rw[if_pos hu])
   obtain⟨x1,x2,x3,x4,x5⟩:=Aw hu;rw[eX hn]
   have hp:c.put u.1 .pn=⟨.pn,c.row,c.sg,digitsVal u.1,0⟩:=by unfold Cfg.put;rw[if_neg (by simp[x2,x3]),if_neg x1,if_neg (by simp[x4,x5]),if_neg hne,hk]
   rw[hp];cases us with
   |nil =>
    have e:aQ [u]=.inr (digitsVal u.1,0,[]):=by simp[aQ,hu]
    refine⟨λr h=>?_,λn k r h=>?_⟩
    ·rw[e]at h;cases h
    ·rw[e]at h;cases h;exact⟨.pn,.inl ⟨rfl,by decide⟩,by decide,rfl⟩
   |cons v us =>
    by_cases hv:v.1=[42]
    ·have hn2:nxt PSt.pn v.1=some .pm:=by rw[hv];decide
     rw[eX (c:=⟨.pn,c.row,c.sg,digitsVal u.1,0⟩) hn2]
     have hp2:(⟨.pn,c.row,c.sg,digitsVal u.1,0⟩:Cfg).put v.1 .pm=⟨.pm,c.row,c.sg,digitsVal u.1,0⟩:=by unfold Cfg.put;rw[hv,if_neg (by decide),if_neg (by decide),if_pos (by decide)]
     rw[hp2];have G:=nC (c:=⟨.pm,c.row,c.sg,digitsVal u.1,0⟩) (us:=us) (.inl rfl)
     have e:aQ (u::v::us)=match aK us with
      |.inl r=>.inl r
      |.inr (k,r)=>.inr (digitsVal u.1,k,r):=by
      simp only[aQ,hu,hv,if_true]
     rw[e];cases hP:aK us with
     |inl r0 =>refine⟨λr h=>?_,λn k r h=>nomatch h⟩;cases h;exact G.1 _ hP
     |inr kr =>obtain⟨k0,r0⟩:=kr;refine⟨λr h=>(nomatch h),λn k r h=>?_⟩;cases h;obtain⟨s,hl,h8,e2⟩:=G.2 _ _ hP;exact⟨s,.inr hl,h8,e2⟩
    ·have e:aQ (u::v::us)=.inr (digitsVal u.1,0,v::us):=by simp[aQ,hu,hv]
     refine⟨λr h=>?_,λn k r h=>?_⟩
     ·rw[e]at h;cases h
     ·rw[e]at h;cases h;exact⟨.pn,.inl ⟨rfl,hv⟩,by decide,rfl⟩
  ·have hu':isN u.1=false:=by simpa using hu
   have G:=nC (c:=c) (us:=u::us) (.inr ⟨hs,hu'⟩)
   have e:aQ (u::us)=match aK (u::us)with
    |.inl r=>.inl r
    |.inr (k,r)=>.inr (1,k,r):=by
    show(if isN u.1=true then _ else _)=_;rw[if_neg hu]
   rw[e];cases hP:aK (u::us)with
   |inl r0 =>refine⟨λr h=>?_,λn k r h=>nomatch h⟩;cases h;exact G.1 _ hP
   |inr kr =>obtain⟨k0,r0⟩:=kr;refine⟨λr h=>(nomatch h),λn k r h=>?_⟩;cases h;obtain⟨s,hl,h8,e2⟩:=G.2 _ _ hP;rw[if_neg hnm]at e2;exact⟨s,.inr hl,h8,e2⟩
theorem iG{c:Cfg}{us:List Mk}(hl:Lf2 c.st us):(∀u r,us=u::r->(u.1=[43]\/u.1=[45])->mgo c us=mgo ⟨.p1,c.fin,if u.1=[45]then -1 else 1,0,0⟩ r)/\(mhd us≠[43]->mhd us≠[45]->mgo c us=(c,us)):=by
 have hst:c.st=.pn\/c.st=.px\/c.st=.pd:=by rcases hl with⟨h,_⟩ |⟨h,_⟩ |h<;>simp[h]
 refine⟨λu r e hu=>?_,λh1 h2=>?_⟩
 ·subst e
  have hn:nxt c.st u.1=some .p1:=by rcases hst with h |h |h<;>rw[h]<;>rcases hu with z |z<;>rw[z]<;>decide
  rw[eX hn];unfold Cfg.put;rw[if_pos hu]
 ·cases us with
  |nil=>rfl
  |cons u r =>
   refine lF ?_;have h3:¬(u.1=[43]\/u.1=[45]):=by rintro(z |z);exact h1 z;exact h2 z
   rcases hl with⟨h,z⟩ |⟨h,z⟩ |h
   ·rw[h];show(if u.1=[42]then _ else _)=_;rw[if_neg (show ¬u.1=[42]from z),if_neg h3]
   ·rw[h];show(if u.1=[94]then _ else _)=_;rw[if_neg (show ¬u.1=[94]from z),if_neg h3]
   ·rw[h];show(if _ then _ else _)=_;rw[if_neg h3]
theorem oK{s:PSt}{us:List Mk}(h:Lf2 s us):s.opn=false:=by rcases h with⟨h,_⟩ |⟨h,_⟩ |h<;>rw[h]<;>rfl
noncomputable def cfg0:Cfg:=⟨.p0,λ_=>0,1,0,0⟩
theorem tX{us:List Mk}{u:Mk}(h:u.1=[45]):mgo cfg0 (u::us)=mgo ⟨.p1,λ_=>0,-1,0,0⟩ us:=by
 have hn:nxt cfg0.st u.1=some .p1:=by rw[h];decide
 rw[eX hn];unfold Cfg.put;rw[if_pos (.inr h),if_pos h]
 congr 2
 funext n
 unfold Cfg.fin;show(0:Int)+(if n=0 then 1*0 else 0)=0;split<;>rfl
theorem t9:∀(m:List Nat) (a:Nat),(∀c∈m,isD c=true)->m.foldl (λacc c=>acc*10+(c-48)) a<(a+1)*10^m.length
 | [],a,_=>by show a<(a+1)*1;omega
 |c::m,a,h=>by
  have h2:isD c=true:=h c (by simp);unfold isD at h2
  simp at h2
  have:=t9 m (a*10+(c-48)) λx hx=>h x (by simp[hx])
  rw[List.foldl_cons,E1,Nat.pow_succ];refine ET this ?_;rw[show(a+1)*(10^m.length*10)=((a+1)*10)*10^m.length by rw[Nat.mul_assoc,Nat.mul_comm (10^m.length) 10]];exact Nat.mul_le_mul_right _ (by omega)
theorem B4(m:List Nat)(h:∀c∈m,isD c=true):digitsVal m<10^m.length:=by have:=t9 m 0 h;rw[Nat.zero_add,Nat.one_mul]at this;exact this
theorem rF{us r:List Mk}{k:Nat}(h:aK us=.inr (k,r)):k<=8:=by obtain⟨s,_,h8,_⟩:=(nC (c:=⟨.pm,λ_=>0,1,0,0⟩) (us:=us) (.inl rfl)).2 k r h;exact h8
theorem lS{m:List Nat}(h:isN m=true):∀c∈m,isD c=true:=by
 unfold isN at h
 simp only[EZ]at h;exact Fg.mp h.1.2
theorem AA{m:List Nat}(h:isE m=true):m≠[]/\∀c∈m,isD c=true:=by
 refine⟨?_,?_⟩
 ·rintro rfl;exact absurd h (by decide)
 ·unfold isE at h
  simp only[EZ]at h;intro c hc;have:=Fg.mp h.2 c hc;simp only[EZ,decide_eq_true_eq]at this;unfold isD;simp only[EZ,decide_eq_true_eq];omega
theorem kt{m:List Nat}(h:∀c∈m,isD c=true)(hn:m≠[])(hl:m.length<=4300):PySem.intText? (stL m)=some ((digitsVal m:Nat):Int):=by
 have hd:AllDigits (stL m).cps.toList:=λc hc=>by
  rw[gb]at hc;have:=h c hc;unfold isD at this
  simpa using this
 have e:=intText_digits hd (by rw[gb];exact hn) (by rw[aU];exact hl);rw[gb]at e;exact e
theorem dv_bits{m:List Nat}(h:∀c∈m,isD c=true)(hl:m.length<=300):digitsVal m<2^1000:=by
 have h1:=B4 m h;have h2:10^m.length<=10^300:=Fv (by decide) hl;have h3:10^300<2^1000:=by decide +kernel
 omega
theorem rE{us r:List Mk}{k:Nat}(h:aK us=.inr (k,r)):r.length<us.length:=by
 unfold aK at h
 split at h
 ·cases h
 ·split at h
  ·split at h
   ·cases h;simp
   ·split at h
    ·split at h
     ·cases h
     ·split at h
      ·cases h;simp;omega
      ·cases h
    ·cases h;simp
  ·cases h
theorem xl{us r:List Mk}{n k:Nat}(h:aQ us=.inr (n,k,r)):r.length<us.length:=by
 cases us with
 |nil=>cases h
 |cons u us =>
  by_cases hu:isN u.1=true
  ·cases us with
   |nil =>rw[show aQ [u]=.inr (digitsVal u.1,0,[]) by simp[aQ,hu]]at h;cases h;simp
   |cons v us =>
    by_cases hv:v.1=[42]
    ·cases hP:aK us with
     |inl r0 =>rw[show aQ (u::v::us)=.inl r0 by simp only[aQ,hu,hv,if_true,hP]]at h;cases h
     |inr kr =>obtain⟨k0,r0⟩:=kr;rw[show aQ (u::v::us)=.inr (digitsVal u.1,k0,r0) by simp only[aQ,hu,hv,if_true,hP]]at h;cases h;have:=rE hP;simp only[E1];omega
    ·rw[show aQ (u::v::us)=.inr (digitsVal u.1,0,v::us) by simp[aQ,hu,hv]]at h;cases h;simp
  ·cases hP:aK (u::us)with
   |inl r0 =>
    have e:aQ (u::us)=.inl r0:=by show(if isN u.1=true then _ else _)=_;rw[if_neg hu,hP]
    rw[e]at h;cases h
   |inr kr =>
    obtain⟨k0,r0⟩:=kr
    have e:aQ (u::us)=.inr (1,k0,r0):=by show(if isN u.1=true then _ else _)=_;rw[if_neg hu,hP]
    rw[e]at h;cases h;exact rE hP
inductive PT where
 |whole (n:Nat) |named (w:List Nat) |given (kp:List Int) (l h:Int×Int)
 |minus (t:PT) |power (t:PT) (k:Nat) |rooted (t:PT) (k:Nat)
 |sum (a b:PT) |less (a b:PT) |times (a b:PT) |over (a b:PT)
abbrev Res(α:Type):=List Mk ⊕ (α×List Mk)
noncomputable def cM:List Nat:=[115,113,114,116]
noncomputable def cN:List Nat:=[99,98,114,116]
noncomputable def bP:List Nat:=[114,111,111,116]
noncomputable def cI(m:List Nat):Bool:=decide (m≠[])&&m.all isA&&decide (m.length<=8)&&!decide (m∈[[120],cM,cN,bP])
noncomputable def cQ(c:Cfg):List Int:=trim ((List.range 9).map c.fin)
noncomputable def eR(us:List Mk):Res (List Int):=if(mgo cfg0 us).1.st.opn then .inl (mgo cfg0 us).2 else .inr (cQ (mgo cfg0 us).1,(mgo cfg0 us).2)
noncomputable def cU(us:List Mk):Res Nat:=if isN (mhd us)then .inr (digitsVal (mhd us),us.tail)else .inl us
noncomputable def cV(t:Int)(us:List Mk):Res (Int×Int):=if mhd us=[47]then(if mhd us.tail=[48]then .inl us.tail else match cU us.tail with
    |.inl r=>.inl r
    |.inr (m,r)=>.inr ((t,(m:Int)),r))
 else .inr ((t,1),us)
noncomputable def dc(sg:Int)(us:List Mk):Res (Int×Int):=match cU us with
 |.inl r=>.inl r
 |.inr (n,r)=>cV (sg*(n:Int)) r
noncomputable def bv(us:List Mk):Res (Int×Int):=if mhd us=[45]then dc (-1) us.tail else dc 1 us
noncomputable def bc{α:Type}(m:List Nat)(us:List Mk)(k:List Mk->Res α):Res α:=if mhd us=m then k us.tail else .inl us
noncomputable def aG{α β:Type}(r:Res α)(k:α->List Mk->Res β):Res β:=match r with
 |.inl x=>.inl x
 |.inr (a,us)=>k a us
noncomputable def bC(ok:Bool)(us:List Mk):Res PT:=if ok then bc [40] us λu1=>aG (eR u1) λkp u2=>bc [44] u2 λu3=>aG (bv u3) λl u4=>bc [46,46] u4 λu5=>aG (bv u5) λh u6=>bc [41] u6 λu7=>.inr (.given kp l h,u7)else .inl us
noncomputable def pBr(S:Option (List Mk->Res PT))(us:List Mk):Res PT:=match S with
 |none=>.inl us
 |some S=>bc [40] us λu1=>aG (S u1) λt u2=>bc [41] u2 λu3=>.inr (t,u3)
noncomputable def bo(S:Option (List Mk->Res PT))(us:List Mk):Res PT :=
 if isN (mhd us)then .inr (.whole (digitsVal (mhd us)),us.tail)
 else if cI (mhd us)then .inr (.named (mhd us),us.tail)
 else if mhd us=cM then aG (pBr S us.tail) λt r=>.inr (.rooted t 2,r)
 else if mhd us=cN then aG (pBr S us.tail) λt r=>.inr (.rooted t 3,r)
 else if mhd us=bP then bC S.isSome us.tail
 else pBr S us
noncomputable def dU(t:PT)(us:List Mk):Res PT:=if mhd us=[94]then(if isE (mhd us.tail)then .inr (.power t (digitsVal (mhd us.tail)),us.tail.tail)else .inl us.tail)else .inr (t,us)
noncomputable def bY(S:Option (List Mk->Res PT))(us:List Mk):Res PT:=aG (bo S us) dU
noncomputable def aW(S:Option (List Mk->Res PT))(us:List Mk):Res PT:=if mhd us=[45]then aG (bY S us.tail) λt r=>.inr (.minus t,r)else bY S us
noncomputable def aT(F:List Mk->Res PT)(a b:List Nat)(f g:PT->PT->PT):Nat->PT->List Mk->Res PT
 |0,t,us=>.inr (t,us)
 |n+1,t,us=>if mhd us=a then aG (F us.tail) λt2 r=>aT F a b f g n (f t t2) r
  else if mhd us=b then aG (F us.tail) λt2 r=>aT F a b f g n (g t t2) r
  else .inr (t,us)
noncomputable def aS(S:Option (List Mk->Res PT))(us:List Mk):Res PT:=aG (aW S us) λt r=>aT (aW S) [42] [47] .times .over r.length t r
noncomputable def bX(S:Option (List Mk->Res PT))(us:List Mk):Res PT:=aG (aS S us) λt r=>aT (aS S) [43] [45] .sum .less r.length t r
noncomputable def pS:Nat->List Mk->Res PT
 |0=>bX none
 |n+1=>bX (some (pS n))
def Sh{α:Type}(us:List Mk)(r:Res α):Prop:=∀a x,r=.inr (a,x)->x.length<us.length
def Le{α:Type}(us:List Mk)(r:Res α):Prop:=∀a x,r=.inr (a,x)->x.length<=us.length
theorem jj{us:List Mk}(h:mhd us≠[]):us.tail.length<us.length:=by
 cases us with
 |nil=>exact absurd rfl h
 |cons u us=>simp
theorem gk{α:Type}{m:List Nat}{us:List Mk}{k:List Mk->Res α}(hm:m≠[])(h:Le us.tail (k us.tail)):Sh us (bc m us k):=λa x e=>by
 unfold bc at e
 split at e
 ·rename_i hh
  have h1:=h a x e;have h2:=jj (us:=us) (by rw[hh];exact hm);omega
 ·cases e
theorem dZ{α β:Type}{us:List Mk}{r:Res α}{k:α->List Mk->Res β}(h1:Le us r)(h2:∀a x,Le x (k a x)):Le us (aG r k):=λb y e=>by
 unfold aG at e
 split at e
 ·cases e
 ·rename_i a x
  have:=h1 a x rfl;have:=h2 a x b y e;omega
theorem nc{α β:Type}{us:List Mk}{r:Res α}{k:α->List Mk->Res β}(h1:Sh us r)(h2:∀a x,Le x (k a x)):Sh us (aG r k):=λb y e=>by
 unfold aG at e
 split at e
 ·cases e
 ·rename_i a x
  have:=h1 a x rfl;have:=h2 a x b y e;omega
theorem Sh.le{α:Type}{us:List Mk}{r:Res α}(h:Sh us r):Le us r:=λa x e=>Nat.le_of_lt (h a x e)
theorem df{α:Type}{us:List Mk}{a:α}:Le us (.inr (a,us):Res α):=λb x e=>by cases e;exact EO _
theorem qB(us:List Mk):us.tail.length<=us.length:=by cases us<;>simp
theorem jt{α:Type}{us:List Mk}{r:Res α}(h:Le us.tail r):Le us r:=λa x e=>ES (h a x e) (qB us)
theorem zV{α:Type}{us v:List Mk}:Le us (.inl v:Res α):=λa x e=>by cases e
theorem qX(us:List Mk):Sh us (cU us):=λa x e=>by
 unfold cU at e
 split at e
 ·rename_i h
  cases e;exact jj λz=>by rw[z]at h;exact absurd h (by decide)
 ·cases e
theorem sr:∀(us:List Mk) (c:Cfg),(mgo c us).2.length<=us.length
 | [],c=>EO _
 |u::us,c=>by
  cases h:nxt c.st u.1 with
  |none=>rw[lF h];exact EO _
  |some s=>rw[eX h];exact Nat.le_succ_of_le (sr us _)
theorem zT(us:List Mk):Le us (eR us):=λa x e=>by
 unfold eR at e
 split at e
 ·cases e
 ·cases e;exact sr us cfg0
theorem zU(t:Int)(us:List Mk):Le us (cV t us):=λa x e=>by
 unfold cV at e
 split at e
 ·split at e
  ·cases e
  ·split at e
   ·cases e
   ·rename_i m r hw
    cases e;have:=qX us.tail _ _ hw;have:=qB us;omega
 ·cases e;exact EO _
theorem sR(us:List Mk):Le us (bv us):=by
 have top:∀(sg:Int) (v:List Mk),Le v (dc sg v):=λsg v a x e=>by
  unfold dc at e
  split at e
  ·cases e
  ·rename_i n r hw
   have:=qX v _ _ hw;have:=zU _ r a x e;omega
 unfold bv;split
 ·exact jt (top _ _)
 ·exact top _ _
theorem vK(ok:Bool)(us:List Mk):Sh us (bC ok us):=by
 unfold bC;split
 ·refine gk (by decide) (dZ (zT _) λkp x=>(gk (by decide) (dZ (sR _) λl y=>(gk (by decide) (dZ (sR _) λh z=>(gk (by decide) df).le)).le)).le)
 ·exactλa x e=>by cases e
theorem m7{S:Option (List Mk->Res PT)}(hS:∀F,S=some F->∀us,Sh us (F us))(us:List Mk):Sh us (pBr S us):=by
 unfold pBr;cases S with
 |none=>exactλa x e=>by cases e
 |some F=>exact gk (by decide) (dZ (hS F rfl _).le λt x=>(gk (by decide) df).le)
theorem vL{S:Option (List Mk->Res PT)}(hS:∀F,S=some F->∀us,Sh us (F us))(us:List Mk):Sh us (bo S us):=by
 have tl:∀{r:Res PT},mhd us≠[]->Le us.tail r->Sh us r:=λ{r} h1 h2 a x e=>by have:=h2 a x e;have:=jj h1;omega
 unfold bo;split
 ·rename_i h
  exact tl (λz=>by rw[z]at h;exact absurd h (by decide)) df
 split
 ·rename_i h
  exact tl (λz=>by rw[z]at h;exact absurd h (by decide)) df
 split
 ·rename_i h
  exact tl (by rw[h];decide) (dZ (m7 hS _).le λ_ _=>df)
 split
 ·rename_i h
  exact tl (by rw[h];decide) (dZ (m7 hS _).le λ_ _=>df)
 split
 ·rename_i h
  exact tl (by rw[h];decide) (vK _ _).le
 ·exact m7 hS us
theorem iV{S:Option (List Mk->Res PT)}(hS:∀F,S=some F->∀us,Sh us (F us))(us:List Mk):Sh us (aW S us):=by
 have hp:∀v,Sh v (bY S v):=λv=>nc (vL hS v) λt x=>by
  unfold dU;split
  ·split
   ·exact jt (jt df)
   ·exact zV
  ·exact df
 unfold aW;split
 ·rename_i h
  refineλa x e=>?_
  have h1:=dZ (hp us.tail).le (λt r=>df (a:=PT.minus t) (us:=r)) a x e;have h2:=jj (us:=us) (by rw[h];decide);omega
 ·exact hp us
theorem lN{F:List Mk->Res PT}(hF:∀us,Sh us (F us))(a b:List Nat)(f g:PT->PT->PT):∀(n:Nat) (t:PT) (us:List Mk),Le us (aT F a b f g n t us)
 |0,t,us=>df
 |n+1,t,us=>by
  unfold aT;split
  ·exact jt (dZ (hF _).le λt2 r=>lN hF a b f g n _ r)
  split
  ·exact jt (dZ (hF _).le λt2 r=>lN hF a b f g n _ r)
  ·exact df
theorem iU{S:Option (List Mk->Res PT)}(hS:∀F,S=some F->∀us,Sh us (F us))(us:List Mk):Sh us (aS S us):=nc (iV hS us) λt r=>lN (iV hS) _ _ _ _ _ t r
theorem qY{S:Option (List Mk->Res PT)}(hS:∀F,S=some F->∀us,Sh us (F us))(us:List Mk):Sh us (bX S us):=nc (iU hS us) λt r=>lN (iU hS) _ _ _ _ _ t r
theorem qZ:∀(n:Nat) (us:List Mk),Sh us (pS n us)
 |0,us=>qY (S:=none) (λF h=>by cases h) us
 |n+1,us=>qY (λF h=>by cases h;exact qZ n) us
theorem jn{F:List Mk->Res PT}(hF:∀us,Sh us (F us))(a b:List Nat)(f g:PT->PT->PT)(ha:a≠[])(hb:b≠[]):∀(n m:Nat) (t:PT) (us:List Mk),us.length<=n->us.length<=m->aT F a b f g n t us=aT F a b f g m t us
 |0,m,t,us,hn,hm=>by
  have:us=[]:=FF.mp (by omega);subst this;cases m with
  |zero=>rfl
  |succ m =>unfold aT;rw[if_neg (λz=>ha z.symm),if_neg (λz=>hb z.symm)]
 |n+1,0,t,us,hn,hm=>by have:us=[]:=FF.mp (by omega);subst this;show(if mhd []=a then _ else if mhd []=b then _ else _)=_;rw[if_neg (λz=>ha z.symm),if_neg (λz=>hb z.symm)];rfl
 |n+1,m+1,t,us,hn,hm=>by
  have key:∀(h:PT->PT->PT),mhd us≠[]->aG (F us.tail) (λt2 r=>aT F a b f g n (h t t2) r)=aG (F us.tail) (λt2 r=>aT F a b f g m (h t t2) r):=λh hne=>by
   have h1:=jj hne;cases e:F us.tail with
   |inl x=>rfl
   |inr y =>obtain⟨t2,r⟩:=y;have h2:=hF us.tail t2 r e;exact jn hF a b f g ha hb n m (h t t2) r (by omega) (by omega)
  show(if mhd us=a then _ else if mhd us=b then _ else _)=(if mhd us=a then _ else if mhd us=b then _ else _);by_cases h1:mhd us=a
  ·rw[if_pos h1,if_pos h1];exact key f (by rw[h1];exact ha)
  ·rw[if_neg h1,if_neg h1];by_cases h2:mhd us=b
   ·rw[if_pos h2,if_pos h2];exact key g (by rw[h2];exact hb)
   ·rw[if_neg h2,if_neg h2]
noncomputable def So:Nat->Option (List Mk->Res PT)
 |0=>none
 |n+1=>some (pS n)
theorem nF:∀n,pS n=bX (So n)
 |0=>rfl
 |n+1=>rfl
theorem iL(n:Nat):∀F,So n=some F->∀us,Sh us (F us):=λF h us=>by
 cases n with
 |zero=>cases h
 |succ n=>cases h;exact qZ n us
theorem jo{F:List Mk->Res PT}{a b:List Nat}{f g:PT->PT->PT}{t:PT}{us:List Mk}(h1:mhd us≠a)(h2:mhd us≠b):∀{n:Nat},aT F a b f g n t us=.inr (t,us)
 |0=>rfl
 |n+1=>by unfold aT;rw[if_neg h1,if_neg h2]
theorem sK{F:List Mk->Res PT}{a b:List Nat}{f g:PT->PT->PT}{t t2:PT}{u:Mk}{us r:List Mk}(h:u.1=a)(e:F us=.inr (t2,r)):aT F a b f g (u::us).length t (u::us)=aT F a b f g us.length (f t t2) r:=by show(if mhd (u::us)=a then aG (F us) _ else _)=_;rw[if_pos (show mhd (u::us)=a from h),e];rfl
theorem sJ{F:List Mk->Res PT}{a b:List Nat}{f g:PT->PT->PT}{t t2:PT}{u:Mk}{us r:List Mk}(hn:a≠b)(h:u.1=b)(e:F us=.inr (t2,r)):aT F a b f g (u::us).length t (u::us)=aT F a b f g us.length (g t t2) r:=by show(if mhd (u::us)=a then _ else if mhd (u::us)=b then aG (F us) _ else _)=_;rw[if_neg (λz=>hn (z.symm.trans h)),if_pos (show mhd (u::us)=b from h),e];rfl
structure Rd(n r:Nat)(us:List Mk)(t:PT):Prop where
 r4:4<=r->∀rest,bo (So n) (us++rest)=.inr (t,rest)
 r3:3<=r->∀rest,mhd rest≠[94]->bY (So n) (us++rest)=.inr (t,rest)
 r2:2<=r->∀rest,mhd rest≠[94]->aW (So n) (us++rest)=.inr (t,rest)
 r1:1<=r->∀rest,mhd rest≠[94]->aS (So n) (us++rest)=aT (aW (So n)) [42] [47] .times .over rest.length t rest
 r0:∀rest,mhd rest≠[94]->mhd rest≠[42]->mhd rest≠[47]->bX (So n) (us++rest)=aT (aS (So n)) [43] [45] .sum .less rest.length t rest
theorem sk{us:List Mk}(h:us≠[])(rest:List Mk):mhd (us++rest)=mhd us:=by
 cases us with
 |nil=>exact absurd rfl h
 |cons u us=>rfl
theorem wE{n:Nat}{us:List Mk}{t:PT}(h:∀rest,mhd rest≠[94]->mhd rest≠[42]->mhd rest≠[47]->bX (So n) (us++rest)=aT (aS (So n)) [43] [45] .sum .less rest.length t rest):Rd n 0 us t:=⟨λz=>absurd z (by omega),λz=>absurd z (by omega),λz=>absurd z (by omega),λz=>absurd z (by omega),h⟩
theorem up1{n:Nat}{us:List Mk}{t:PT}(h:∀rest,mhd rest≠[94]->aS (So n) (us++rest)=aT (aW (So n)) [42] [47] .times .over rest.length t rest):∀rest,mhd rest≠[94]->mhd rest≠[42]->mhd rest≠[47]->bX (So n) (us++rest)=aT (aS (So n)) [43] [45] .sum .less rest.length t rest:=λrest h1 h2 h3=>by unfold bX;rw[h rest h1,jo h2 h3];rfl
theorem wD{n:Nat}{us:List Mk}{t:PT}(h:∀rest,mhd rest≠[94]->aS (So n) (us++rest)=aT (aW (So n)) [42] [47] .times .over rest.length t rest):Rd n 1 us t:=⟨λz=>absurd z (by omega),λz=>absurd z (by omega),λz=>absurd z (by omega),λ_=>h,up1 h⟩
theorem up2{n:Nat}{us:List Mk}{t:PT}(h:∀rest,mhd rest≠[94]->aW (So n) (us++rest)=.inr (t,rest)):∀rest,mhd rest≠[94]->aS (So n) (us++rest)=aT (aW (So n)) [42] [47] .times .over rest.length t rest:=λrest h1=>by unfold aS;rw[h rest h1];rfl
theorem wC{n:Nat}{us:List Mk}{t:PT}(h:∀rest,mhd rest≠[94]->aW (So n) (us++rest)=.inr (t,rest)):Rd n 2 us t:=⟨λz=>absurd z (by omega),λz=>absurd z (by omega),λ_=>h,λ_=>up2 h,up1 (up2 h)⟩
theorem up3{n:Nat}{us:List Mk}{t:PT}(hu:us≠[])(hm:mhd us≠[45])(h:∀rest,mhd rest≠[94]->bY (So n) (us++rest)=.inr (t,rest)):∀rest,mhd rest≠[94]->aW (So n) (us++rest)=.inr (t,rest):=λrest h1=>by unfold aW;rw[if_neg (by rw[sk hu];exact hm)];exact h rest h1
theorem wB{n:Nat}{us:List Mk}{t:PT}(hu:us≠[])(hm:mhd us≠[45])(h:∀rest,mhd rest≠[94]->bY (So n) (us++rest)=.inr (t,rest)):Rd n 3 us t:=⟨λz=>absurd z (by omega),λ_=>h,λ_=>up3 hu hm h,λ_=>up2 (up3 hu hm h),up1 (up2 (up3 hu hm h))⟩
theorem up4{n:Nat}{us:List Mk}{t:PT}(h:∀rest,bo (So n) (us++rest)=.inr (t,rest)):∀rest,mhd rest≠[94]->bY (So n) (us++rest)=.inr (t,rest):=λrest h1=>by unfold bY;rw[h rest];show dU t rest=_;unfold dU;rw[if_neg h1]
theorem il{n:Nat}{us:List Mk}{t:PT}(hu:us≠[])(hm:mhd us≠[45])(h:∀rest,bo (So n) (us++rest)=.inr (t,rest)):Rd n 4 us t:=⟨λ_=>h,λ_=>up4 h,λ_=>up3 hu hm (up4 h),λ_=>up2 (up3 hu hm (up4 h)),up1 (up2 (up3 hu hm (up4 h)))⟩
theorem BA(n:Nat):∀us,Sh us (aW (So n) us):=iV (iL n)
theorem wU(n:Nat):∀us,Sh us (aS (So n) us):=iU (iL n)
theorem Rd.prod{n r:Nat}{us:List Mk}{t:PT}(h:Rd n r us t)(hr:1<=r)(rest:List Mk)(h1:mhd rest≠[94])(h2:mhd rest≠[42])(h3:mhd rest≠[47]):aS (So n) (us++rest)=.inr (t,rest):=by rw[h.r1 hr rest h1,jo h2 h3]
theorem wz{n r s:Nat}{us vs:List Mk}{t x:PT}{u:Mk}{f:PT->PT->PT}(hu:(u.1=[42]/\f=.times)\/(u.1=[47]/\f=.over))(h1:Rd n r us t)(hr:1<=r)(h2:Rd n s vs x)(hs:2<=s):Rd n 1 (us++u::vs) (f t x):=wD λrest hn=>by
 have e2:=h2.r2 hs rest hn;rw[E7,E5,h1.r1 hr _ (by show u.1≠[94];rcases hu with h |h<;>rw[h.1]<;>decide)]
 have e3:aT (aW (So n)) [42] [47] .times .over (u::(vs++rest)).length t (u::(vs++rest))=aT (aW (So n)) [42] [47] .times .over (vs++rest).length (f t x) rest:=by
  rcases hu with⟨h,rfl⟩ |⟨h,rfl⟩
  ·exact sK h e2
  ·exact sJ (by decide) h e2
 rw[e3];exact jn (BA n) _ _ _ _ (by decide) (by decide) _ _ _ _ (by rw[ER];omega) (EO _)
theorem wA{n r s:Nat}{us vs:List Mk}{t x:PT}{u:Mk}{f:PT->PT->PT}(hu:(u.1=[43]/\f=.sum)\/(u.1=[45]/\f=.less))(h1:Rd n r us t)(h2:Rd n s vs x)(hs:1<=s):Rd n 0 (us++u::vs) (f t x):=wE λrest hn hm hd=>by
 have e2:=h2.prod hs rest hn hm hd;have hu':u.1≠[94]/\u.1≠[42]/\u.1≠[47]:=by rcases hu with h |h<;>rw[h.1]<;>decide
 rw[E7,E5,h1.r0 (u::(vs++rest)) hu'.1 hu'.2.1 hu'.2.2]
 have e3:aT (aS (So n)) [43] [45] .sum .less (u::(vs++rest)).length t (u::(vs++rest))=aT (aS (So n)) [43] [45] .sum .less (vs++rest).length (f t x) rest:=by
  rcases hu with⟨h,rfl⟩ |⟨h,rfl⟩
  ·exact sK h e2
  ·exact sJ (by decide) h e2
 rw[e3];exact jn (wU n) _ _ _ _ (by decide) (by decide) _ _ _ _ (by rw[ER];omega) (EO _)
theorem nt{n r:Nat}{us:List Mk}{t:PT}{u v:Mk}(hu:u.1=[40])(hv:v.1=[41])(h:Rd n r us t)(rest:List Mk):pBr (So (n+1)) (u::(us++v::rest))=.inr (t,rest):=by show bc [40] (u::(us++v::rest)) (λu1=>aG (pS n u1) λt u2=>bc [41] u2 λu3=>.inr (t,u3))=_;unfold bc;rw[if_pos (show mhd (u::(us++v::rest))=[40]from hu)];show aG (pS n (us++v::rest)) _=_;have hm:mhd (v::rest)=[41]:=hv;rw[nF,h.r0 _ (by rw[hm];decide) (by rw[hm];decide) (by rw[hm];decide),jo (by rw[hm];decide) (by rw[hm];decide)];show(if mhd (v::rest)=[41]then _ else _)=_;rw[if_pos hm];rfl
theorem C9{S:Option (List Mk->Res PT)}{u:Mk}{us:List Mk}(h:u.1=[40]):bo S (u::us)=pBr S (u::us):=by unfold bo;rw[show mhd (u::us)=[40]from h,if_neg (by decide),if_neg (by decide),if_neg (by decide),if_neg (by decide),if_neg (by decide)]
theorem C7{S:Option (List Mk->Res PT)}{u:Mk}{us:List Mk}(h:u.1=cM):bo S (u::us)=aG (pBr S us) λt r=>.inr (.rooted t 2,r):=by unfold bo;rw[show mhd (u::us)=cM from h,if_neg (by decide),if_neg (by decide),if_pos rfl];rfl
theorem Db{S:Option (List Mk->Res PT)}{u:Mk}{us:List Mk}(h:u.1=cN):bo S (u::us)=aG (pBr S us) λt r=>.inr (.rooted t 3,r):=by unfold bo;rw[show mhd (u::us)=cN from h,if_neg (by decide),if_neg (by decide),if_neg (by decide),if_pos rfl];rfl
theorem C8{S:Option (List Mk->Res PT)}{u:Mk}{us:List Mk}(h:u.1=bP):bo S (u::us)=bC S.isSome us:=by unfold bo;rw[show mhd (u::us)=bP from h,if_neg (by decide),if_neg (by decide),if_neg (by decide),if_neg (by decide),if_pos rfl];rfl
noncomputable def kc(c:Nat):Nat:=if isD c then 1 else if isA c then 2 else if c=46 then 3 else 0
noncomputable def kdm(m:List Nat):Nat:=match m with
 | []=>0
 |c::_=>kc c
theorem AT{a b:Nat}(h:glu a b=true):kc a=kc b/\kc a≠0:=by
 unfold glu at h
 unfold kc;simp only[Bool.or_eq_true,EZ,decide_eq_true_eq]at h;rcases h with(h |h) |h
 ·rw[h.1,h.2];exact⟨rfl,by rw[if_pos rfl];decide⟩
 ·have d:∀{c},isA c=true->isD c=false:=λ{c} hc=>by
   unfold isA at hc;unfold isD
   simp only[EZ,decide_eq_true_eq]at hc;rw[decide_eq_false (show ¬c<=57 by omega),Bool.and_false]
  rw[h.1,h.2,d h.1,d h.2];exact⟨rfl,λz=>by cases z⟩
 ·rw[h.1,h.2];decide
structure WfK(m:List Nat):Prop where
 wf:WfM m
 on:∀c∈m,kc c=kdm m
def Apt(a b:List Nat):Prop:=kdm a=0\/kdm b=0\/kdm a≠kdm b
theorem yJ{a b:List Nat}(ha:WfK a)(h:Apt a b):ez a b:=λx y hx hy=>by
 cases e:glu x y with
 |false=>rfl
 |true =>
  obtain⟨h1,h2⟩:=AT e;have h3:=ha.on x (List.mem_of_getLast? hx)
  have h4:kdm b=kc y:=by
   cases b with
   |nil=>cases hy
   |cons z b=>cases hy;rfl
  rcases h with h |h |h
  ·exact absurd (h3.trans h) h2
  ·exact absurd (h1.trans (h4.symm.trans h)) h2
  ·exact absurd (h3.symm.trans (h1.trans h4.symm)) h
noncomputable def Sp:List (List Nat)->Prop
 | []=>True
 | [_]=>True
 |a::b::r=>Apt a b/\Sp (b::r)
theorem fA{a:List Nat}{r:List (List Nat)}(h:kdm a=0)(hr:Sp r):Sp (a::r):=by
 cases r with
 |nil=>trivial
 |cons b r=>exact⟨.inl h,hr⟩
theorem ce{s:List Nat}(hs:kdm s=0):∀{a b:List (List Nat)},Sp a->Sp b->Sp (a++s::b)
 | [],b,_,hb=>fA hs hb
 | [x],b,_,hb=>⟨.inr (.inl hs),fA hs hb⟩
 |x::y::r,b,ha,hb=>⟨ha.1,ce hs (a:=y::r) ha.2 hb⟩
theorem lR(n:Nat):isN (aj n)=true:=by
 have h1:=fG n;have h2:=eV n;unfold isN;rw[decide_eq_true h1,Fg.mpr h2];by_cases h:n=0
 ·subst h;decide +kernel
 ·obtain⟨c,r,e,hc⟩:=rM n n (EO _) (by omega);rw[e,decide_eq_true (show(c::r).head?≠some 48 fromλz=>hc (by injection z)),Bool.or_true];rfl
theorem ke(n:Nat)(h:(aj n).length<=4300):digitsVal (aj n)=n:=by
 have h1:=yE n h;rw[kt (eV n) (fG n) h]at h1
 injection h1 with h1
 exact Int.ofNat.inj h1
theorem cX(n:Nat):WfK (aj n):=⟨vb n,λc hc=>by
 obtain⟨x,r,e⟩:=Fd (fG n);have h1:=eV n c hc;have h2:=eV n x (by rw[e];simp);rw[e];show kc c=kc x
 unfold kc;rw[h1,h2];rfl⟩
theorem sT(n:Nat):kdm (aj n)=1:=by obtain⟨x,r,e⟩:=Fd (fG n);have h2:=eV n x (by rw[e];simp);rw[e];show kc x=1;unfold kc;rw[h2];rfl
theorem qw{p:Nat->Bool}:∀{l:List Nat},(∀c∈l,p c=true)->l.takeWhile p=l
 | [],_=>rfl
 |x::l,h=>by rw[Fn,if_pos (h x (by simp)),qw λc hc=>h c (by simp[hc])]
theorem iN{m:List Nat}(hn:m≠[])(h:∀c∈m,isA c=true):WfK m:=by
 have d:∀{c},isA c=true->isD c=false:=λ{c} hc=>by
  unfold isA at hc;unfold isD
  simp only[EZ,decide_eq_true_eq]at hc;rw[decide_eq_false (show ¬c<=57 by omega),Bool.and_false]
 obtain⟨x,r,rfl⟩:=Fd hn;have hx:=h x (by simp);refine⟨⟨hn,λc hc=>?_,λz=>?_,?_⟩,λc hc=>?_⟩
 ·have:=h c hc;unfold isA at this
  simp only[EZ,decide_eq_true_eq]at this;omega
 ·injection z with z
  rw[z]at hx;exact absurd hx (by decide)
 ·rw[dB,d hx,if_neg (by decide),if_pos hx,qw h]
 ·show kc c=kc x;unfold kc;rw[h c hc,hx,d (h c hc),d hx];rfl
def kF(x:Int×Int):Prop:=x.2≠0/\x.1.natAbs<2^64/\x.2.natAbs<2^64
noncomputable def PT.ok:PT->Prop
 |.whole _=>True |.named _=>True |.given _ l h=>kF l/\kF h
 |.minus t=>t.ok |.power t _=>t.ok |.rooted t _=>t.ok
 |.sum a b=>a.ok/\b.ok |.less a b=>a.ok/\b.ok |.times a b=>a.ok/\b.ok |.over a b=>a.ok/\b.ok
inductive Gr:Nat->Nat->List (List Nat)->PT->Prop where
 |whole (n:Nat) (h:(aj n).length<=4300):Gr 4 0 [aj n] (.whole n)
 |named (w:List Nat) (h:cI w=true):Gr 4 0 [w] (.named w)
 |given (ms:List (List Nat)) (kp:List Int) (l h:Int×Int) (h1:Sp (bP::ms)) (h2:∀m∈ms,WfK m/\m.length<=4300) (h3:∀us rest:List Mk,us.map (·.1)=ms->bC true (us++rest)=.inr (.given kp l h,rest)) (h4:kF l/\kF h):Gr 4 1 (bP::ms) (.given kp l h)
 |brk {r d:Nat} {ms:List (List Nat)} {t:PT} (h:Gr r d ms t):Gr 4 (d+1) ([40]::(ms++[[41]])) t
 |sq {r d:Nat} {ms:List (List Nat)} {t:PT} (h:Gr r d ms t):Gr 4 (d+1) (cM::[40]::(ms++[[41]])) (.rooted t 2)
 |cb {r d:Nat} {ms:List (List Nat)} {t:PT} (h:Gr r d ms t):Gr 4 (d+1) (cN::[40]::(ms++[[41]])) (.rooted t 3)
 |power {d:Nat} {ms:List (List Nat)} {t:PT} {k:Nat} (h:Gr 4 d ms t) (hk:k<=8):Gr 3 d (ms++[[94],aj k]) (.power t k)
 |minus {r d:Nat} {ms:List (List Nat)} {t:PT} (h:Gr r d ms t) (hr:3<=r):Gr 2 d ([45]::ms) (.minus t)
 |mul {r d s e:Nat} {a b:List (List Nat)} {t x:PT} {m:List Nat} {f:PT->PT->PT} (hm:(m=[42]/\f=.times)\/(m=[47]/\f=.over)) (h1:Gr r d a t) (hr:1<=r) (h2:Gr s e b x) (hs:2<=s):Gr 1 (max d e) (a++m::b) (f t x)
 |add {r d s e:Nat} {a b:List (List Nat)} {t x:PT} {m:List Nat} {f:PT->PT->PT} (hm:(m=[43]/\f=.sum)\/(m=[45]/\f=.less)) (h1:Gr r d a t) (h2:Gr s e b x) (hs:1<=s):Gr 0 (max d e) (a++m::b) (f t x)
theorem Gr.ne{r d:Nat}{ms:List (List Nat)}{t:PT}(h:Gr r d ms t):ms≠[]:=by cases h<;>simp
theorem lQ{w:List Nat}(h:cI w=true):w≠[]/\∀c∈w,isA c=true:=by
 unfold cI at h
 simp only[EZ,decide_eq_true_eq,Fg]at h;exact⟨h.1.1.1,h.1.1.2⟩
theorem pp{n c:Nat}(h:isD c=false):aj n≠[c]:=λz=>by have:=eV n c (by rw[z];simp);rw[h]at this;cases this
theorem Gr.fst{r d:Nat}{ms:List (List Nat)}{t:PT}(h:Gr r d ms t):3<=r->ms.head?≠some [45]:=by
 induction h with
 |whole n=>exactλ_ z=>pp (by decide) (Option.some.inj z)
 |named w h=>exactλ_ z=>by rw[Option.some.inj z]at h;exact absurd h (by decide)
 |given=>exactλ_ z=>absurd (Option.some.inj z) (by decide)
 |brk=>exactλ_ z=>absurd (Option.some.inj z) (by decide)
 |sq=>exactλ_ z=>absurd (Option.some.inj z) (by decide)
 |cb=>exactλ_ z=>absurd (Option.some.inj z) (by decide)
 |power h _ ih =>intro _ z;obtain⟨x,r,rfl⟩:=Fd h.ne;exact ih (by decide) z
 |minus=>exactλz=>absurd z (by decide)
 |mul=>exactλz=>absurd z (by decide)
 |add=>exactλz=>absurd z (by decide)
theorem Gr.wfk{r d:Nat}{ms:List (List Nat)}{t:PT}(h:Gr r d ms t):Sp ms/\∀m∈ms,WfK m:=by
 have sy:∀c∈[40,41,42,43,45,47,94],WfK [c]/\kdm [c]=0:=by intro c hc;simp only[EQ,E2,or_false]at hc;rcases hc with rfl |rfl |rfl |rfl |rfl |rfl |rfl<;>exact⟨⟨⟨by decide,by decide,by decide,by decide⟩,by decide⟩,by decide⟩
 have pr:∀{ms:List (List Nat)},(Sp ms/\∀m∈ms,WfK m)->Sp ([40]::(ms++[[41]]))/\∀m∈[40]::(ms++[[41]]),WfK m:=λ{ms} ih=>by
  refine⟨fA (by decide) (ce (by decide) ih.1 (b:=[]) trivial),λm hm=>?_⟩;simp only[EQ,EW,E2,or_false]at hm;rcases hm with rfl |hm |rfl
  ·exact(sy 40 (by simp)).1
  ·exact ih.2 m hm
  ·exact(sy 41 (by simp)).1
 induction h with
 |whole n=>exact⟨trivial,λm hm=>by rw[E4.mp hm];exact cX n⟩
 |named w h=>exact⟨trivial,λm hm=>by rw[E4.mp hm];exact iN (lQ h).1 (lQ h).2⟩
 |given ms kp l h h1 h2 h3 h4=>exact⟨h1,λm hm=>by
  rcases EQ.mp hm with rfl |hm
  ·exact iN (by decide) (by decide)
  ·exact(h2 m hm).1⟩
 |brk h ih=>exact pr ih
 |sq h ih=>exact⟨⟨.inr (.inl (by decide)),(pr ih).1⟩,λm hm=>by
  rcases EQ.mp hm with rfl |hm
  ·exact iN (by decide) (by decide)
  ·exact(pr ih).2 m hm⟩
 |cb h ih=>exact⟨⟨.inr (.inl (by decide)),(pr ih).1⟩,λm hm=>by
  rcases EQ.mp hm with rfl |hm
  ·exact iN (by decide) (by decide)
  ·exact(pr ih).2 m hm⟩
 |power h hk ih=>exact⟨ce (by decide) ih.1 (b:=[_]) trivial,λm hm=>by
  simp only[EQ,EW,E2,or_false]at hm;rcases hm with hm |rfl |rfl
  ·exact ih.2 m hm
  ·exact(sy 94 (by simp)).1
  ·exact cX _⟩
 |minus h hr ih=>exact⟨fA (by decide) ih.1,λm hm=>by
  rcases EQ.mp hm with rfl |hm
  ·exact(sy 45 (by simp)).1
  ·exact ih.2 m hm⟩
 |mul hm h1 hr h2 hs i1 i2 =>
  rename_i m f
  have hk:WfK m/\kdm m=0:=by rcases hm with⟨rfl,_⟩ |⟨rfl,_⟩<;>exact sy _ (by simp)
  exact⟨ce hk.2 i1.1 i2.1,λz hz=>by
   simp only[EQ,EW]at hz;rcases hz with hz |rfl |hz
   ·exact i1.2 z hz
   ·exact hk.1
   ·exact i2.2 z hz⟩
 |add hm h1 h2 hs i1 i2 =>
  rename_i m f
  have hk:WfK m/\kdm m=0:=by rcases hm with⟨rfl,_⟩ |⟨rfl,_⟩<;>exact sy _ (by simp)
  exact⟨ce hk.2 i1.1 i2.1,λz hz=>by
   simp only[EQ,EW]at hz;rcases hz with hz |rfl |hz
   ·exact i1.2 z hz
   ·exact hk.1
   ·exact i2.2 z hz⟩
theorem Gr.short{r d:Nat}{ms:List (List Nat)}{t:PT}(h:Gr r d ms t):∀m∈ms,m.length<=4300:=by
 induction h with
 |whole n h=>exactλm hm=>by rw[E4.mp hm];exact h
 |named w h =>
  intro m hm;rw[E4.mp hm];unfold cI at h
  simp only[EZ,decide_eq_true_eq]at h;have:=h.1.2;omega
 |given ms kp l h h1 h2 h3 h4 =>
  intro m hm;rcases EQ.mp hm with rfl |hm
  ·decide
  ·exact(h2 m hm).2
 |brk h ih =>
  intro m hm;simp only[EQ,EW,E2,or_false]at hm;rcases hm with rfl |hm |rfl
  ·decide
  ·exact ih m hm
  ·decide
 |sq h ih =>
  intro m hm;simp only[EQ,EW,E2,or_false]at hm;rcases hm with rfl |rfl |hm |rfl
  ·decide
  ·decide
  ·exact ih m hm
  ·decide
 |cb h ih =>
  intro m hm;simp only[EQ,EW,E2,or_false]at hm;rcases hm with rfl |rfl |hm |rfl
  ·decide
  ·decide
  ·exact ih m hm
  ·decide
 |power h hk ih =>
  intro m hm;simp only[EQ,EW,E2,or_false]at hm;rcases hm with hm |rfl |rfl
  ·exact ih m hm
  ·decide
  ·have:∀k,k<9->(aj k).length<=4300:=by decide +kernel
   exact this _ (by omega)
 |minus h hr ih =>
  intro m hm;rcases EQ.mp hm with rfl |hm
  ·decide
  ·exact ih m hm
 |mul hm h1 hr h2 hs i1 i2 =>
  intro z hz;simp only[EQ,EW]at hz;rcases hz with hz |rfl |hz
  ·exact i1 z hz
  ·rcases hm with⟨rfl,_⟩ |⟨rfl,_⟩<;>decide
  ·exact i2 z hz
 |add hm h1 h2 hs i1 i2 =>
  intro z hz;simp only[EQ,EW]at hz;rcases hz with hz |rfl |hz
  ·exact i1 z hz
  ·rcases hm with⟨rfl,_⟩ |⟨rfl,_⟩<;>decide
  ·exact i2 z hz
theorem dY{α β:Type}{f:α->β}{l:List α}{a b:List β}(h:l.map f=a++b):∃x y,l=x++y/\x.map f=a/\y.map f=b:=List.map_eq_append_iff.mp h
theorem map_cons{α β:Type}{f:α->β}{l:List α}{a:β}{b:List β}(h:l.map f=a::b):∃x y,l=x::y/\f x=a/\y.map f=b:=List.map_eq_cons_iff.mp h
theorem dE{α β:Type}{f:α->β}{l:List α}{a:β}(h:l.map f=[a]):∃x,l=[x]/\f x=a:=by obtain⟨x,y,rfl,h1,h2⟩:=map_cons h;rw[List.map_eq_nil_iff.mp h2];exact⟨x,rfl,h1⟩
theorem tw{k:Nat}(h:k<=8):isE (aj k)=true/\digitsVal (aj k)=k:=by
 have:∀k,k<9->isE (aj k)=true/\digitsVal (aj k)=k:=by decide +kernel
 exact this k (by omega)
theorem Gr.rd{r d:Nat}{ms:List (List Nat)}{t:PT}(h:Gr r d ms t):∀{n:Nat} {us:List Mk},d<=n->us.map (·.1)=ms->Rd n r us t:=by
 induction h with
 |whole k hk =>
  intro n us _ hu;obtain⟨x,rfl,hx⟩:=dE hu;refine il (by simp) (show x.1≠[45] by rw[hx];exact pp (by decide)) λrest=>?_
  show bo (So n) (x::rest)=_;unfold bo;rw[show mhd (x::rest)=aj k from hx,lR,if_pos rfl,ke k hk];rfl
 |named w hw =>
  intro n us _ hu;obtain⟨x,rfl,hx⟩:=dE hu;have hx':x.1=w:=hx;refine il (by simp) (show x.1≠[45]fromλz=>by rw[<- hx',z]at hw;exact absurd hw (by decide)) λrest=>?_
  show bo (So n) (x::rest)=_;unfold bo
  have hN:isN w=false:=by
   cases e:isN w with
   |false=>rfl
   |true =>
    obtain⟨c,r,rfl⟩:=Fd (lQ hw).1;have h1:=lS e c (by simp);have h2:=(lQ hw).2 c (by simp);unfold isA at h2;unfold isD at h1
    simp only[EZ,decide_eq_true_eq]at h1 h2;omega
  rw[show mhd (x::rest)=w from hx,hN,if_neg (by decide),hw,if_pos rfl];rfl
 |given ms kp l h h1 h2 h3 h4 =>
  intro n us hd hu;obtain⟨x,y,rfl,hx,hy⟩:=map_cons hu;refine il (by simp) (show x.1≠[45] by rw[hx];decide) λrest=>?_
  rw[E5,C8 hx];cases n with
  |zero=>omega
  |succ n=>exact h3 y rest hy
 |brk h ih =>
  intro n us hd hu;obtain⟨x,y,rfl,hx,hy⟩:=map_cons hu;obtain⟨a,b,rfl,ha,hb⟩:=dY hy;obtain⟨v,rfl,hv⟩:=dE hb;refine il (by simp) (show x.1≠[45] by rw[hx];decide) λrest=>?_
  cases n with
  |zero=>omega
  |succ n =>rw[E5,E7,C9 hx];exact nt hx hv (ih (by omega) ha) rest
 |sq h ih =>
  intro n us hd hu;obtain⟨x0,y0,rfl,hx0,hy0⟩:=map_cons hu;obtain⟨x,y,rfl,hx,hy⟩:=map_cons hy0;obtain⟨a,b,rfl,ha,hb⟩:=dY hy;obtain⟨v,rfl,hv⟩:=dE hb;refine il (by simp) (show x0.1≠[45] by rw[hx0];decide) λrest=>?_
  cases n with
  |zero=>omega
  |succ n =>rw[E5,E5,E7,C7 hx0,List.singleton_append,nt hx hv (ih (by omega) ha) rest];rfl
 |cb h ih =>
  intro n us hd hu;obtain⟨x0,y0,rfl,hx0,hy0⟩:=map_cons hu;obtain⟨x,y,rfl,hx,hy⟩:=map_cons hy0;obtain⟨a,b,rfl,ha,hb⟩:=dY hy;obtain⟨v,rfl,hv⟩:=dE hb;refine il (by simp) (show x0.1≠[45] by rw[hx0];decide) λrest=>?_
  cases n with
  |zero=>omega
  |succ n =>rw[E5,E5,E7,Db hx0,List.singleton_append,nt hx hv (ih (by omega) ha) rest];rfl
 |power h hk ih =>
  rename_i k
  intro n us hd hu;obtain⟨a,b,rfl,ha,hb⟩:=dY hu;obtain⟨x,y,rfl,hx,hy⟩:=map_cons hb;obtain⟨v,rfl,hv⟩:=dE hy;have hne:a≠[]:=λz=>h.ne (by rw[<- ha,z];rfl)
  have hf:=h.fst (by decide);refine wB (by simp) ?_ λrest _=>?_
  ·rw[sk hne];obtain⟨w,z,rfl⟩:=Fd hne
   exactλe=>hf (by rw[<- ha,Fh];exact congrArg some e)
  ·unfold bY;rw[E7,(ih hd ha).r4 (by decide)];show dU _ (x::v::rest)=_;unfold dU;obtain⟨e1,e2⟩:=tw hk;rw[if_pos (show mhd (x::v::rest)=[94]from hx)];show(if isE (mhd (v::rest))then(Sum.inr (PT.power _ (digitsVal (mhd (v::rest))),rest):Res PT)else _)=_;rw[show mhd (v::rest)=aj k from hv,e1,if_pos rfl,e2]
 |minus h hr ih =>
  intro n us hd hu;obtain⟨x,y,rfl,hx,hy⟩:=map_cons hu;refine wC λrest hn=>?_
  unfold aW;rw[if_pos (show mhd (x::y++rest)=[45]from hx)];show aG (bY _ (y++rest)) _=_;rw[(ih hd hy).r3 hr rest hn];rfl
 |mul hm h1 hr h2 hs i1 i2 =>intro n us hd hu;obtain⟨a,b,rfl,ha,hb⟩:=dY hu;obtain⟨x,y,rfl,hx,hy⟩:=map_cons hb;exact wz (by rw[hx];exact hm) (i1 (ES (Fy _ _) hd) ha) hr (i2 (ES (Fz _ _) hd) hy) hs
 |add hm h1 h2 hs i1 i2 =>intro n us hd hu;obtain⟨a,b,rfl,ha,hb⟩:=dY hu;obtain⟨x,y,rfl,hx,hy⟩:=map_cons hb;exact wA (by rw[hx];exact hm) (i1 (ES (Fy _ _) hd) ha) (i2 (ES (Fz _ _) hd) hy) hs
noncomputable def PT.hgt:PT->Nat
 |.whole _=>1 |.named _=>1 |.given _ _ _=>1
 |.minus t=>t.hgt+1 |.power t _=>t.hgt+1 |.rooted t _=>t.hgt+1
 |.sum a b=>max a.hgt b.hgt+1 |.less a b=>max a.hgt b.hgt+1 |.times a b=>max a.hgt b.hgt+1 |.over a b=>max a.hgt b.hgt+1
theorem Gr.ok{r d:Nat}{ms:List (List Nat)}{t:PT}(h:Gr r d ms t):t.ok:=by
 induction h with
 |whole n=>trivial
 |named w=>trivial
 |given ms kp l h h1 h2 h3 h4=>exact h4
 |brk h ih=>exact ih
 |sq h ih=>exact ih
 |cb h ih=>exact ih
 |power h hk ih=>exact ih
 |minus h hr ih=>exact ih
 |mul hm h1 hr h2 hs i1 i2=>rcases hm with⟨_,rfl⟩ |⟨_,rfl⟩<;>exact⟨i1,i2⟩
 |add hm h1 h2 hs i1 i2=>rcases hm with⟨_,rfl⟩ |⟨_,rfl⟩<;>exact⟨i1,i2⟩
theorem Gr.hgt{r d:Nat}{ms:List (List Nat)}{t:PT}(h:Gr r d ms t):t.hgt<=ms.length:=by
 induction h with
 |whole n=>exact EO _
 |named w=>exact EO _
 |given ms=>show 1<=_;simp
 |brk h ih=>simp;omega
 |sq h ih=>unfold PT.hgt;simp;omega
 |cb h ih=>unfold PT.hgt;simp;omega
 |power h hk ih=>unfold PT.hgt;simp;omega
 |minus h hr ih=>unfold PT.hgt;simp;omega
 |mul hm h1 hr h2 hs i1 i2 =>
  rw[ER,E1];rcases hm with⟨_,rfl⟩ |⟨_,rfl⟩
  ·show max _ _+1<=_;omega
  ·show max _ _+1<=_;omega
 |add hm h1 h2 hs i1 i2 =>
  rw[ER,E1];rcases hm with⟨_,rfl⟩ |⟨_,rfl⟩
  ·show max _ _+1<=_;omega
  ·show max _ _+1<=_;omega
theorem cS{n:Nat}(h:n<100):(aj n).length<=4300:=by
 have:∀n,n<100->(aj n).length<=2:=by decide +kernel
 have:=this n h;omega
theorem yF{n:Nat}(h:1<=n)(hl:n<100):aj n≠[48]:=λz=>by
 have e:=ke n (cS hl);rw[z]at e;have:digitsVal [48]=0:=by decide
 omega
theorem wY{x p k:Mk}{K:Nat}{r:List Mk}(hK:K<=8)(h1:x.1=[120])(h2:p.1=[94])(h3:k.1=aj K):aK (x::p::k::r)=.inr (K,r):=by obtain⟨e1,e2⟩:=tw hK;simp[aK,h1,h2,h3,e1,e2]
theorem qA{a s x p k:Mk}{A K:Nat}{r:List Mk}(hA:A<100)(hK:K<=8)(h0:a.1=aj A)(hs:s.1=[42])(h1:x.1=[120])(h2:p.1=[94])(h3:k.1=aj K):aQ (a::s::x::p::k::r)=.inr (A,K,r):=by simp[aQ,h0,lR,hs,wY hK h1 h2 h3,ke A (cS hA)]
theorem vn{x v:Mk}{r:List Mk}(h1:x.1=[120])(h2:v.1≠[94]):aQ (x::v::r)=.inr (1,1,v::r):=by
 have e:aK (x::v::r)=.inr (1,v::r):=by simp[aK,h1,h2]
 have e0:isN [120]=false:=by decide
 simp[aQ,h1,e0,e]
theorem vo{b v:Mk}{B:Nat}{r:List Mk}(hB:B<100)(h1:b.1=aj B)(h2:v.1≠[42]):aQ (b::v::r)=.inr (B,0,v::r):=by simp[aQ,h1,lR,h2,ke B (cS hB)]
noncomputable def g3(A K B:Nat)(n:Nat):Int:=(if n=K then -(A:Int)else 0)+(if n=1 then 1 else 0)+(if n=0 then -(B:Int)else 0)
theorem tO{A K B:Nat}{us:List Mk}{v:Mk}{r:List Mk}(hA:A<100)(hK:K<=8)(hB:B<100)(hu:us.map (·.1)=[[45],aj A,[42],[120],[94],aj K,[43],[120],[45],aj B])(hv:v.1≠[42]):∃c:Cfg,Lf2 c.st (v::r)/\mgo cfg0 (us++v::r)=mgo c (v::r)/\c.fin=g3 A K B:=by
 obtain⟨m0,u,rfl,q0,hu⟩:=map_cons hu;obtain⟨a,u,rfl,q1,hu⟩:=map_cons hu;obtain⟨s,u,rfl,q2,hu⟩:=map_cons hu;obtain⟨x,u,rfl,q3,hu⟩:=map_cons hu;obtain⟨p,u,rfl,q4,hu⟩:=map_cons hu;obtain⟨k,u,rfl,q5,hu⟩:=map_cons hu;obtain⟨p2,u,rfl,q6,hu⟩:=map_cons hu;obtain⟨x2,u,rfl,q7,hu⟩:=map_cons hu;obtain⟨m2,u,rfl,q8,hu⟩:=map_cons hu;obtain⟨b,rfl,q9⟩:=dE hu;simp only[E5,Fs];rw[tX q0];obtain⟨s1,l1,_,e1⟩:=(fw (c:=⟨.p1,λ_=>0,-1,0,0⟩) (.inl rfl) rfl).2 A K _ (qA (r:=p2::x2::m2::b::v::r) hA hK q1 q2 q3 q4 q5);rw[e1,(iG (c:=⟨s1,λ_=>0,-1,A,K⟩) l1).1 _ _ rfl (.inl q6)];obtain⟨s2,l2,_,e2⟩:=(fw (c:=⟨.p1,_,_,0,0⟩) (.inl rfl) rfl).2 1 1 _ (vn (v:=m2) (r:=b::v::r) q7 (by rw[show m2.1=[45]from q8];decide));rw[e2,(iG (c:=⟨s2,_,_,_,_⟩) l2).1 _ _ rfl (.inr q8)];obtain⟨s3,l3,_,e3⟩:=(fw (c:=⟨.p1,_,_,0,0⟩) (.inl rfl) rfl).2 B 0 _ (vo (v:=v) (r:=r) hB q9 hv);rw[e3];refine⟨_,l3,rfl,?_⟩
 funext n
 have d1:¬(p2.1=[45]):=by rw[show p2.1=[43]from q6];decide
 have d2:m2.1=[45]:=q8;show((0+if n=K then(-1:Int)*(A:Int)else 0)+if n=1 then(if p2.1=[45]then(-1:Int)else 1)*((1:Nat):Int)else 0)+(if n=0 then(if m2.1=[45]then(-1:Int)else 1)*(B:Int)else 0)=_;rw[if_neg d1,if_pos d2];unfold g3;simp only[Int.neg_mul,Int.one_mul,Int.zero_add];rfl
noncomputable def g4(C:Option Nat)(n:Nat):Int:=match C with
 |none=>0
 |some c=>if n=c then 3 else 0
noncomputable def mC:Option Nat->List (List Nat)
 |none=>[]
 |some c=>[[43],aj 3,[42],[120],[94],aj c]
noncomputable def mN:Option Nat->List (List Nat)
 |none=>[]
 |some n=>[[47],aj n]
theorem AS{A K B:Nat}{C:Option Nat}{us:List Mk}{v:Mk}{r:List Mk}(hA:A<100)(hK:K<=8)(hB:B<100)(hC:∀c∈C,c<=8)(hu:us.map (·.1)=[[45],aj A,[42],[120],[94],aj K,[43],[120],[45],aj B]++mC C)(hv:v.1=[44]):∃c:Cfg,c.st.opn=false/\mgo cfg0 (us++v::r)=(c,v::r)/\∀n,c.fin n=g3 A K B n+g4 C n:=by
 have n43:v.1≠[43]:=by rw[hv];decide
 have n45:v.1≠[45]:=by rw[hv];decide
 obtain⟨y,z,rfl,hy,hz⟩:=dY hu;cases C with
 |none =>have:=List.map_eq_nil_iff.mp hz;subst this;rw[Ff];obtain⟨c,l,e,f⟩:=tO (r:=r) hA hK hB hy (v:=v) (by rw[hv];decide);exact⟨c,oK l,e.trans ((iG l).2 n43 n45),λn=>by rw[f];exact(Int.add_zero _).symm⟩
 |some C =>
  obtain⟨p,u,rfl,q6,hu⟩:=map_cons hz;obtain⟨a,u,rfl,q1,hu⟩:=map_cons hu;obtain⟨s,u,rfl,q2,hu⟩:=map_cons hu;obtain⟨x,u,rfl,q3,hu⟩:=map_cons hu;obtain⟨h,u,rfl,q4,hu⟩:=map_cons hu;obtain⟨k,rfl,q5⟩:=dE hu;obtain⟨c,l,e,f⟩:=tO (r:=a::s::x::h::k::v::r) hA hK hB hy (v:=p) (by rw[show p.1=[43]from q6];decide);rw[E7];simp only[E5,Fs];rw[e,(iG l).1 _ _ rfl (.inl q6)];obtain⟨s1,l1,_,e1⟩:=(fw (c:=⟨.p1,_,_,0,0⟩) (.inl rfl) rfl).2 3 C _ (qA (r:=v::r) (by decide) (hC C rfl) q1 q2 q3 q4 q5);rw[e1];refine⟨_,oK l1,(iG (c:=⟨s1,_,_,_,_⟩) l1).2 n43 n45,λn=>?_⟩;have d1:¬(p.1=[45]):=by rw[show p.1=[43]from q6];decide
  show c.fin n+(if n=C then(if p.1=[45]then(-1:Int)else 1)*((3:Nat):Int)else 0)=_;rw[if_neg d1,f];rfl
theorem nA{a:Mk}{A:Nat}{r:List Mk}(hA:A<100)(h:a.1=aj A):cU (a::r)=.inr (A,r):=by unfold cU;rw[show mhd (a::r)=aj A from h,lR,if_pos rfl,ke A (cS hA)];rfl
theorem rz{s m:Mk}{M:Nat}{t:Int}{r:List Mk}(hM:M<100)(h0:1<=M)(hs:s.1=[47])(h:m.1=aj M):cV t (s::m::r)=.inr ((t,(M:Int)),r):=by unfold cV;rw[if_pos (show mhd (s::m::r)=[47]from hs)];rw[List.tail_cons,if_neg (show ¬mhd (m::r)=[48]fromλz=>yF h0 hM (h.symm.trans z)),nA hM h]
theorem wW{v:Mk}{t:Int}{r:List Mk}(h:v.1≠[47]):cV t (v::r)=.inr ((t,1),v::r):=by unfold cV;rw[if_neg (show ¬mhd (v::r)=[47]from h)]
theorem xf{m l s d:Mk}{L M:Nat}{r:List Mk}(hL:L<100)(hM:M<100)(h0:1<=M)(q0:m.1=[45])(q1:l.1=aj L)(q2:s.1=[47])(q3:d.1=aj M):bv (m::l::s::d::r)=.inr ((-(L:Int),(M:Int)),r):=by unfold bv;rw[if_pos (show mhd (m::l::s::d::r)=[45]from q0)];show dc (-1) (l::s::d::r)=_;unfold dc;rw[nA hL q1];show cV (-1*(L:Int)) (s::d::r)=_;rw[rz hM h0 q2 q3,Int.neg_mul,Int.one_mul]
theorem xb{us:List Mk}{v:Mk}{H:Nat}{N:Option Nat}{r:List Mk}(hH:H<100)(hN:∀n∈N,1<=n/\n<100)(hu:us.map (·.1)=aj H::mN N)(hv:v.1=[41]):bv (us++v::r)=.inr (((H:Int),((N.getD 1:Nat):Int)),v::r):=by
 obtain⟨a,u,rfl,q1,hu⟩:=map_cons hu;have q1':a.1=aj H:=q1;unfold bv;rw[if_neg (show ¬mhd (a::u++v::r)=[45]fromλz=>pp (by decide) (q1'.symm.trans z))];show dc 1 (a::(u++v::r))=_;unfold dc;rw[nA hH q1];show cV (1*(H:Int)) (u++v::r)=_;rw[Int.one_mul];cases N with
 |none =>rw[List.map_eq_nil_iff.mp hu];exact wW (by rw[hv];decide)
 |some n =>obtain⟨s,u,rfl,q2,hu⟩:=map_cons hu;obtain⟨d,rfl,q3⟩:=dE hu;exact rz (hN n rfl).2 (hN n rfl).1 q2 q3
noncomputable def gM(A K B:Nat)(C:Option Nat)(L M H:Nat)(N:Option Nat):List (List Nat):=[40]::(([[45],aj A,[42],[120],[94],aj K,[43],[120],[45],aj B]++mC C)++[44]::[45]::aj L::[47]::aj M::[46,46]::((aj H::mN N)++[[41]]))
theorem AU{A K B L M H:Nat}{C N:Option Nat}{kp:List Int}(hA:A<100)(hK:K<=8)(hB:B<100)(hC:∀c∈C,c<=8)(hL:L<100)(hM:M<100)(h0:1<=M)(hH:H<100)(hN:∀n∈N,1<=n/\n<100)(hk:Tr kp)(hf:∀n,cf kp n=g3 A K B n+g4 C n)(us rest:List Mk)(hu:us.map (·.1)=gM A K B C L M H N):bC true (us++rest)=.inr (.given kp (-(L:Int),(M:Int)) ((H:Int),((N.getD 1:Nat):Int)),rest):=by
 obtain⟨o,u,rfl,qo,hu⟩:=map_cons hu;obtain⟨y,z,rfl,hy,hz⟩:=dY hu;obtain⟨v,u,rfl,qv,hu⟩:=map_cons hz;obtain⟨m,u,rfl,q0,hu⟩:=map_cons hu;obtain⟨l,u,rfl,q1,hu⟩:=map_cons hu;obtain⟨s,u,rfl,q2,hu⟩:=map_cons hu;obtain⟨d,u,rfl,q3,hu⟩:=map_cons hu;obtain⟨dd,u,rfl,q4,hu⟩:=map_cons hu;obtain⟨g,e,rfl,hg,he⟩:=dY hu;obtain⟨b,rfl,qb⟩:=dE he;unfold bC;rw[if_pos rfl];unfold bc;simp only[E5,E7,Fs];rw[if_pos (show mhd (o::_)=[40]from qo)];simp only[List.tail_cons];obtain⟨c,h1,h2,h3⟩:=AS (r:=m::l::s::d::dd::(g++b::rest)) hA hK hB hC hy qv
 have ekp:cQ c=kp:=by
  refine t7 (fY _) hk λk=>?_
  unfold cQ;rw[mj,pz,hf];split
  ·exact h3 k
  ·rename_i hk9
   unfold g3 g4;rw[if_neg (by omega),if_neg (by omega),if_neg (by omega)];cases C with
   |none=>rfl
   |some c =>
    have:=hC c rfl;show 0=0+0+0+if k=c then(3:Int)else 0
    rw[if_neg (by omega)];rfl
 have et:eR (y++v::m::l::s::d::dd::(g++b::rest))=.inr (kp,v::m::l::s::d::dd::(g++b::rest)):=by unfold eR;rw[h2,if_neg (by rw[h1];decide),ekp]
 rw[et];show(if mhd (v::_)=[44]then aG (bv (m::l::s::d::dd::(g++b::rest))) _ else _)=_;rw[if_pos (show mhd (v::_)=[44]from qv),xf hL hM h0 q0 q1 q2 q3];show(if mhd (dd::_)=[46,46]then aG (bv (g++b::rest)) _ else _)=_;rw[if_pos (show mhd (dd::_)=[46,46]from q4),xb hH hN hg qb];show(if mhd (b::rest)=[41]then _ else _)=_;rw[if_pos (show mhd (b::rest)=[41]from qb)];rfl
theorem sy1:∀c∈[40,41,42,43,44,45,47,94],WfK [c]/\kdm [c]=0:=by intro c hc;simp only[EQ,E2,or_false]at hc;rcases hc with rfl |rfl |rfl |rfl |rfl |rfl |rfl |rfl<;>exact⟨⟨⟨by decide,by decide,by decide,by decide⟩,by decide⟩,by decide⟩
theorem va:WfK [46,46]:=⟨⟨by decide,by decide,by decide,by decide⟩,by decide⟩
theorem mx:WfK [120]:=iN (by decide) (by decide)
theorem tS(A K B:Nat)(C:Option Nat)(L M H:Nat)(N:Option Nat):Sp (bP::gM A K B C L M H N)/\∀m∈gM A K B C L M H N,WfK m:=by
 have z40:kdm [40]=0:=by decide
 have z41:kdm [41]=0:=by decide
 have z42:kdm [42]=0:=by decide
 have z43:kdm [43]=0:=by decide
 have z44:kdm [44]=0:=by decide
 have z45:kdm [45]=0:=by decide
 have z47:kdm [47]=0:=by decide
 have z94:kdm [94]=0:=by decide
 have hN:Sp (aj H::(mN N++[[41]])):=by
  cases N with
  |none=>exact ce z41 (a:=[_]) (b:=[]) trivial trivial
  |some n=>exact ce z47 (a:=[_]) trivial (ce z41 (a:=[_]) (b:=[]) trivial trivial)
 have hT:Sp ([44]::[45]::aj L::[47]::aj M::[46,46]::((aj H::mN N)++[[41]])):=by refine fA z44 (fA z45 (ce z47 (a:=[_]) trivial ⟨.inr (.inr (by rw[sT];decide)),⟨.inr (.inr (by rw[sT];decide)),hN⟩⟩))
 have hB:Sp (aj B::(mC C++[44]::[45]::aj L::[47]::aj M::[46,46]::((aj H::mN N)++[[41]]))):=by
  cases C with
  |none=>exact⟨.inr (.inl z44),hT⟩
  |some c=>exact ce z43 (a:=[_]) trivial (ce z42 (a:=[_]) trivial (ce z94 (a:=[_]) trivial ⟨.inr (.inl z44),hT⟩))
 constructor
 ·unfold gM;rw[E7];exact ce z40 (a:=[_]) trivial (fA z45 (ce z42 (a:=[_]) trivial (ce z94 (a:=[_]) trivial (ce z43 (a:=[_]) trivial (ce z45 (a:=[_]) trivial hB)))))
 ·intro m hm
  have hC':∀m∈mC C,WfK m:=λm hm=>by
   cases C with
   |none=>cases hm
   |some c =>
    simp only[mC,EQ,E2,or_false]at hm;rcases hm with rfl |rfl |rfl |rfl |rfl |rfl
    ·exact(sy1 43 (by simp)).1
    ·exact cX _
    ·exact(sy1 42 (by simp)).1
    ·exact mx
    ·exact(sy1 94 (by simp)).1
    ·exact cX _
  have hN':∀m∈mN N,WfK m:=λm hm=>by
   cases N with
   |none=>cases hm
   |some c =>
    simp only[mN,EQ,E2,or_false]at hm;rcases hm with rfl |rfl
    ·exact(sy1 47 (by simp)).1
    ·exact cX _
  unfold gM at hm
  simp only[EQ,EW,E2,or_false]at hm;rcases hm with rfl | ((rfl |rfl |rfl |rfl |rfl |rfl |rfl |rfl |rfl |rfl) |hm) | (rfl |rfl |rfl |rfl |rfl |rfl | ((rfl |hm) |rfl))
  ·exact(sy1 40 (by simp)).1
  ·exact(sy1 45 (by simp)).1
  ·exact cX _
  ·exact(sy1 42 (by simp)).1
  ·exact mx
  ·exact(sy1 94 (by simp)).1
  ·exact cX _
  ·exact(sy1 43 (by simp)).1
  ·exact mx
  ·exact(sy1 45 (by simp)).1
  ·exact cX _
  ·exact hC' m hm
  ·exact(sy1 44 (by simp)).1
  ·exact(sy1 45 (by simp)).1
  ·exact cX _
  ·exact(sy1 47 (by simp)).1
  ·exact cX _
  ·exact va
  ·exact cX _
  ·exact hN' m hm
  ·exact(sy1 41 (by simp)).1
theorem A2{A K B L M H:Nat}{C N:Option Nat}(hA:A<100)(hK:K<=8)(hB:B<100)(hC:∀c∈C,c<=8)(hL:L<100)(hM:M<100)(hH:H<100)(hN:∀n∈N,1<=n/\n<100):∀m∈gM A K B C L M H N,m.length<=4300:=by
 intro m hm
 have hC':∀m∈mC C,m.length<=4300:=λm hm=>by
  cases C with
  |none=>cases hm
  |some c =>
   have:=hC c rfl;simp only[mC,EQ,E2,or_false]at hm;rcases hm with rfl |rfl |rfl |rfl |rfl |rfl
   ·decide
   ·exact cS (by decide)
   ·decide
   ·decide
   ·decide
   ·exact cS (by omega)
 have hN':∀m∈mN N,m.length<=4300:=λm hm=>by
  cases N with
  |none=>cases hm
  |some c =>
   simp only[mN,EQ,E2,or_false]at hm;rcases hm with rfl |rfl
   ·decide
   ·exact cS (hN c rfl).2
 unfold gM at hm
 simp only[EQ,EW,E2,or_false]at hm;rcases hm with rfl | ((rfl |rfl |rfl |rfl |rfl |rfl |rfl |rfl |rfl |rfl) |hm) | (rfl |rfl |rfl |rfl |rfl |rfl | ((rfl |hm) |rfl))
 ·decide
 ·decide
 ·exact cS hA
 ·decide
 ·decide
 ·decide
 ·exact cS (by omega)
 ·decide
 ·decide
 ·decide
 ·exact cS hB
 ·exact hC' m hm
 ·decide
 ·decide
 ·exact cS hL
 ·decide
 ·exact cS hM
 ·decide
 ·exact cS hH
 ·exact hN' m hm
 ·decide
theorem AR{A K B L M H:Nat}{C N:Option Nat}{kp:List Int}(hA:A<100)(hK:K<=8)(hB:B<100)(hC:∀c∈C,c<=8)(hL:L<100)(hM:M<100)(h0:1<=M)(hH:H<100)(hN:∀n∈N,1<=n/\n<100)(hk:Tr kp)(hf:∀n,cf kp n=g3 A K B n+g4 C n):Gr 4 1 (bP::gM A K B C L M H N) (.given kp (-(L:Int),(M:Int)) ((H:Int),((N.getD 1:Nat):Int))) :=
 .given _ kp _ _ (tS ..).1 (λm hm=>⟨(tS ..).2 m hm,A2 hA hK hB hC hL hM hH hN m hm⟩) (λus rest hu=>AU hA hK hB hC hL hM h0 hH hN hk hf us rest hu) ⟨⟨by show(M:Int)≠0;omega,by show(-(L:Int)).natAbs<2^64;omega,by show(M:Int).natAbs<2^64;omega⟩,⟨by
  show((N.getD 1:Nat):Int)≠0;cases N with
  |none=>decide
  |some n=>have:=(hN n rfl).1;show(n:Int)≠0;omega,by show(H:Int).natAbs<2^64;omega,by
  show((N.getD 1:Nat):Int).natAbs<2^64;cases N with
  |none=>decide
  |some n=>have:=(hN n rfl).2;show(n:Int).natAbs<2^64;omega⟩⟩
end RM
namespace L2
open PySem PySem.Spec PyProof.Rows
structure PCI(K:PySem.W.Frag)(mg:Str->Option Value)(C:Addr)(x:Str)(fs:List Str):Prop where
 cl:Cls K C
 na:∀f∈fs,NoAttr K C f
 mg:mg x=some (.ref C)
 ha:PySem.W.findIn K (.ref C) "__class__"=some (some (.builtin "object.__class__"))
 hn:PySem.W.specialIn K (.builtin "object.__class__") "__get__"=some (some (.builtin "getset_descriptor.__get__"))
 ht:PySem.W.takesIn K (.builtin "object.__class__")=some true
 hm:PySem.W.mroIn K C (.type "object")=some true
structure RawC(K:PySem.W.Frag)(mg:Str->Option Value)(x:Str)(st:Stmt)(ps:List Str)(f:Addr)(fd:FuncData):Prop where
 fn:Fun K x x st f fd
 mg:mg x=some (.ref f)
 kp:PySem.W.keepIn K (.ref f)=true
 bd:Binds K fd ps []
theorem RawC.calV{P:Program}{w:World}{K:PySem.W.Frag}{mg:Str->Option Value}{base:Heap}{k:Nat}{x:Str}{st:Stmt}{ps:List Str}{sp:Sp}{f:Addr}{fd:FuncData}(r:RawC K mg x st ps f fd)(o:FnOk P w K mg base (CXV P w) k f fd ps sp):CalV P w K mg base k x ps sp f fd:=⟨o,r.mg,r.kp,r.bd⟩
theorem RawC.cal{P:Program}{w:World}{K:PySem.W.Frag}{mg:Str->Option Value}{base:Heap}{k:Nat}{x:Str}{st:Stmt}{ps:List Str}{sp:Sp}{f:Addr}{fd:FuncData}(r:RawC K mg x st ps f fd)(o:FnOk P w K mg base CX0 k f fd ps sp):Cal P w K mg base k x ps sp f fd:=⟨o,r.mg,r.kp,r.bd⟩
def cn(C:Addr)(f1:Str):Sp:=λvs H Q _=>∃(x dx:Addr) (a:V),vs=[.ref x,a]/\H x=some (.ins C dx [])/\Q .non (upd H x (.ins C dx (aL f1 a [])))
def aY(C:Addr)(f1 f2:Str):Sp:=λvs H Q _=>∃(x dx:Addr) (a b:V),vs=[.ref x,a,b]/\H x=some (.ins C dx [])/\Q .non (upd H x (.ins C dx (aL f2 b (aL f1 a []))))
theorem n6{C:Addr}{f1:Str}{H1:Hp}{q:Addr->Hp->Prop}{E:XK}{a:V}(h:∀(x:Addr) (H':Hp) (dx:Addr),Same H1 H'->H1 x=none->H' x=some (.ins C dx (aL f1 a []))->q x H'):∀x dx:Addr,H1 x=none->H1 dx=none->dx≠x->cn C f1 (.ref x::([a]++[])) (upd (upd H1 dx (.own x)) x (.ins C dx [])) (λv H2=>v=.non/\q x H2) E:=λx dx nx ndx ne=>by refine⟨x,dx,a,rfl,af,rfl,h x _ dx ?_ nx af⟩;intro b o e;rw[upd_ne (aX e nx),upd_ne (aX e nx),upd_ne (aX e ndx)];exact e
theorem iC{C:Addr}{f1 f2:Str}{H1:Hp}{q:Addr->Hp->Prop}{E:XK}{a b:V}(h:∀(x:Addr) (H':Hp) (dx:Addr),Same H1 H'->H1 x=none->H' x=some (.ins C dx (aL f2 b (aL f1 a [])))->q x H'):∀x dx:Addr,H1 x=none->H1 dx=none->dx≠x->aY C f1 f2 (.ref x::([a,b]++[])) (upd (upd H1 dx (.own x)) x (.ins C dx [])) (λv H2=>v=.non/\q x H2) E:=λx dx nx ndx ne=>by refine⟨x,dx,a,b,rfl,af,rfl,h x _ dx ?_ nx af⟩;intro b o e;rw[upd_ne (aX e nx),upd_ne (aX e nx),upd_ne (aX e ndx)];exact e
end L2
namespace RM
theorem AY{a b:Int}(ha:0<=a)(hb:0<b):Nat.gcd b.natAbs (a%b).natAbs=Nat.gcd a.natAbs b.natAbs:=by
 have e:(a%b).natAbs=a.natAbs%b.natAbs:=by obtain⟨x,rfl⟩:=Int.eq_ofNat_of_zero_le ha;obtain⟨y,rfl⟩:=Int.eq_ofNat_of_zero_le (Int.le_of_lt hb);rfl
 rw[e,Nat.gcd_comm,<- Nat.gcd_rec,Nat.gcd_comm]
end RM
open PySem.W in
local macro_rules | `(tactic|walk_at "comp_ok")=>`(tactic|exact⟨by with_unfolding_all rfl,by decide +kernel,rfl,by decide +kernel,by repeat' (first |exact Fl _ |refine E6.2 ⟨rfl,?_⟩),by rfl,by repeat' (first |exact .nil |refine .cons ⟨rfl,by first |exact Or.inl rfl |exact Or.inr rfl,rfl⟩ ?_)⟩)
namespace R64
open PySem L2 RM
noncomputable def top(i:Nat):Stmt:=PySem.Challenge.pw_rootspan_k64_tree_read_loosely.main.body.getD i (.Pass ⟨0,0,0,0⟩)
abbrev ie:Stmt:=bI (top 5) 0
abbrev gz:Stmt:=top 11
abbrev gA:Stmt:=top 12
abbrev gm:Stmt:=top 13
abbrev gD:Stmt:=top 14
abbrev gC:Stmt:=top 15
abbrev gB:Stmt:=top 16
abbrev gl:Stmt:=top 18
abbrev ia:Stmt:=bI (top 21) 0
abbrev gy:Stmt:=top 23
abbrev gF:Stmt:=top 25
abbrev gE:Stmt:=top 26
abbrev gT:Stmt:=bI (top 29) 0
abbrev ik:Stmt:=bI (top 30) 0
abbrev ig:Stmt:=bI (top 31) 0
abbrev ii:Stmt:=bI (top 32) 0
abbrev gW:Stmt:=bI (top 33) 0
abbrev ij:Stmt:=bI (top 34) 0
abbrev gU:Stmt:=bI (top 35) 0
abbrev ic:Stmt:=bI (top 36) 0
abbrev ib:Stmt:=bI (top 37) 0
abbrev gX:Stmt:=bI (top 38) 0
abbrev hZ:Stmt:=bI (top 49) 0
abbrev gZ:Stmt:=bI (top 49) 1
abbrev hV:Stmt:=bI (top 49) 2
abbrev gY:Stmt:=bI (top 49) 3
abbrev g7:Stmt:=bI (top 49) 4
abbrev hU:Stmt:=bI (top 49) 5
abbrev g9:Stmt:=bI (top 49) 6
abbrev hJ:Stmt:=bI (top 49) 7
abbrev g8:Stmt:=bI (top 49) 8
abbrev gx:Stmt:=top 50
abbrev dw:Stmt:=top 51
abbrev dJ:Stmt:=top 52
abbrev dM:Stmt:=top 53
abbrev dL:Stmt:=top 54
abbrev gw:Stmt:=top 55
abbrev dO:Stmt:=top 56
abbrev dN:Stmt:=top 57
abbrev gu:Stmt:=top 58
abbrev gq:Stmt:=top 59
abbrev gs:Stmt:=top 60
abbrev gt:Stmt:=top 61
abbrev gv:Stmt:=top 62
abbrev gp:Stmt:=top 63
abbrev gP:Stmt:=top 65
abbrev gI:Stmt:=top 66
abbrev gG:Stmt:=top 67
abbrev gL:Stmt:=top 68
abbrev gR:Stmt:=top 69
abbrev gH:Stmt:=top 70
abbrev gS:Stmt:=top 71
abbrev gQ:Stmt:=top 72
abbrev gN:Stmt:=top 73
abbrev gO:Stmt:=top 74
abbrev gK:Stmt:=top 75
abbrev gJ:Stmt:=top 76
abbrev eJ:Stmt:=top 77
abbrev dQ:Stmt:=top 78
abbrev dP:Stmt:=top 79
theorem wl:FnScope ["self","at"] ["self","at"] (ah ie):=⟨rfl,rfl,rfl,by decide +kernel,rfl,by decide +kernel,by decide +kernel⟩
theorem sc_marks_of:FnScope ["text","found","at","end"] ["text"] (ah gz):=⟨rfl,rfl,rfl,by decide +kernel,rfl,by decide +kernel,by decide +kernel⟩
theorem sc_mark_end:FnScope ["text","at","signs"] ["text","at"] (ah gA):=⟨rfl,rfl,rfl,by decide +kernel,rfl,by decide +kernel,by decide +kernel⟩
theorem sc_run_end:FnScope ["text","at","signs","end"] ["text","at","signs"] (ah gm):=⟨rfl,rfl,rfl,by decide +kernel,rfl,by decide +kernel,by decide +kernel⟩
theorem vX:FnScope ["word"] ["word"] (ah gD):=⟨rfl,rfl,rfl,by decide +kernel,rfl,by decide +kernel,by decide +kernel⟩
theorem vW:FnScope ["word"] ["word"] (ah gC):=⟨rfl,rfl,rfl,by decide +kernel,rfl,by decide +kernel,by decide +kernel⟩
theorem vV:FnScope ["word","signs"] ["word","signs"] (ah gB):=⟨rfl,rfl,rfl,by decide +kernel,rfl,by decide +kernel,by decide +kernel⟩
theorem sc_shared_by_two:FnScope ["one","other","greater","less","rest"] ["one","other"] (ah gl):=⟨rfl,rfl,rfl,by decide +kernel,rfl,by decide +kernel,by decide +kernel⟩
theorem sc_Ratio___init__:FnScope ["self","top","bottom","divisor"] ["self","top","bottom"] (ah ia):=⟨rfl,rfl,rfl,by decide +kernel,rfl,by decide +kernel,by decide +kernel⟩
theorem sc_poly:FnScope ["row","length"] ["row"] (ah gy):=⟨rfl,rfl,rfl,by decide +kernel,rfl,by decide +kernel,by decide +kernel⟩
theorem sc_added:FnScope ["first","second","length"] ["first","second"] (ah gF):=⟨rfl,rfl,rfl,by decide +kernel,rfl,by decide +kernel,by decide +kernel⟩
theorem vY:FnScope ["row","place"] ["row","place"] (ah gE):=⟨rfl,rfl,rfl,by decide +kernel,rfl,by decide +kernel,by decide +kernel⟩
theorem v4:FnScope ["self","value"] ["self","value"] (ah gT):=⟨rfl,rfl,rfl,by decide +kernel,rfl,by decide +kernel,by decide +kernel⟩
theorem wt:FnScope ["self","row","low","high"] ["self","row","low","high"] (ah ik):=⟨rfl,rfl,rfl,by decide +kernel,rfl,by decide +kernel,by decide +kernel⟩
theorem wn:FnScope ["self","word"] ["self","word"] (ah ig):=⟨rfl,rfl,rfl,by decide +kernel,rfl,by decide +kernel,by decide +kernel⟩
theorem wo:FnScope ["self","one"] ["self","one"] (ah ii):=⟨rfl,rfl,rfl,by decide +kernel,rfl,by decide +kernel,by decide +kernel⟩
theorem v6:FnScope ["self","one","other"] ["self","one","other"] (ah gW):=⟨rfl,rfl,rfl,by decide +kernel,rfl,by decide +kernel,by decide +kernel⟩
theorem wq:FnScope ["self","one","other"] ["self","one","other"] (ah ij):=⟨rfl,rfl,rfl,by decide +kernel,rfl,by decide +kernel,by decide +kernel⟩
theorem v5:FnScope ["self","one","other"] ["self","one","other"] (ah gU):=⟨rfl,rfl,rfl,by decide +kernel,rfl,by decide +kernel,by decide +kernel⟩
theorem wk:FnScope ["self","one","other"] ["self","one","other"] (ah ic):=⟨rfl,rfl,rfl,by decide +kernel,rfl,by decide +kernel,by decide +kernel⟩
theorem wj:FnScope ["self","one","exponent"] ["self","one","exponent"] (ah ib):=⟨rfl,rfl,rfl,by decide +kernel,rfl,by decide +kernel,by decide +kernel⟩
theorem v7:FnScope ["self","one","exponent"] ["self","one","exponent"] (ah gX):=⟨rfl,rfl,rfl,by decide +kernel,rfl,by decide +kernel,by decide +kernel⟩
theorem wg:FnScope ["self","text"] ["self","text"] (ah hZ):=⟨rfl,rfl,rfl,by decide +kernel,rfl,by decide +kernel,by decide +kernel⟩
theorem v8:FnScope ["self"] ["self"] (ah gZ):=⟨rfl,rfl,rfl,by decide +kernel,rfl,by decide +kernel,by decide +kernel⟩
theorem we:FnScope ["self"] ["self"] (ah hV):=⟨rfl,rfl,rfl,by decide +kernel,rfl,by decide +kernel,by decide +kernel⟩
theorem sc_Reading_step:FnScope ["self","mark"] ["self"] (ah gY):=⟨rfl,rfl,rfl,by decide +kernel,rfl,by decide +kernel,by decide +kernel⟩
theorem v9:FnScope ["self","mark"] ["self","mark"] (ah g7):=⟨rfl,rfl,rfl,by decide +kernel,rfl,by decide +kernel,by decide +kernel⟩
theorem wd:FnScope ["self","mark"] ["self","mark"] (ah hU):=⟨rfl,rfl,rfl,by decide +kernel,rfl,by decide +kernel,by decide +kernel⟩
theorem wb:FnScope ["self"] ["self"] (ah g9):=⟨rfl,rfl,rfl,by decide +kernel,rfl,by decide +kernel,by decide +kernel⟩
theorem wc:FnScope ["self"] ["self"] (ah hJ):=⟨rfl,rfl,rfl,by decide +kernel,rfl,by decide +kernel,by decide +kernel⟩
theorem wa:FnScope ["self"] ["self"] (ah g8):=⟨rfl,rfl,rfl,by decide +kernel,rfl,by decide +kernel,by decide +kernel⟩
theorem sc_read:FnScope ["text","reading","tree"] ["text"] (ah gx):=⟨rfl,rfl,rfl,by decide +kernel,rfl,by decide +kernel,by decide +kernel⟩
theorem sc_read_sum:FnScope ["reading","tree"] ["reading"] (ah dw):=⟨rfl,rfl,rfl,by decide +kernel,rfl,by decide +kernel,by decide +kernel⟩
theorem sc_read_product:FnScope ["reading","tree"] ["reading"] (ah dJ):=⟨rfl,rfl,rfl,by decide +kernel,rfl,by decide +kernel,by decide +kernel⟩
theorem vR:FnScope ["reading"] ["reading"] (ah dM):=⟨rfl,rfl,rfl,by decide +kernel,rfl,by decide +kernel,by decide +kernel⟩
theorem sc_read_power:FnScope ["reading","tree"] ["reading"] (ah dL):=⟨rfl,rfl,rfl,by decide +kernel,rfl,by decide +kernel,by decide +kernel⟩
theorem vT:FnScope ["reading"] ["reading"] (ah gw):=⟨rfl,rfl,rfl,by decide +kernel,rfl,by decide +kernel,by decide +kernel⟩
theorem vU:FnScope ["reading"] ["reading"] (ah dO):=⟨rfl,rfl,rfl,by decide +kernel,rfl,by decide +kernel,by decide +kernel⟩
theorem sc_read_brackets:FnScope ["reading","tree"] ["reading"] (ah dN):=⟨rfl,rfl,rfl,by decide +kernel,rfl,by decide +kernel,by decide +kernel⟩
theorem sc_read_given:FnScope ["reading","row","low","high"] ["reading"] (ah gu):=⟨rfl,rfl,rfl,by decide +kernel,rfl,by decide +kernel,by decide +kernel⟩
theorem sc_read_terms:FnScope ["reading","row"] ["reading"] (ah gq):=⟨rfl,rfl,rfl,by decide +kernel,rfl,by decide +kernel,by decide +kernel⟩
theorem sc_read_term:FnScope ["reading","sign","value"] ["reading","sign"] (ah gs):=⟨rfl,rfl,rfl,by decide +kernel,rfl,by decide +kernel,by decide +kernel⟩
theorem vQ:FnScope ["reading"] ["reading"] (ah gt):=⟨rfl,rfl,rfl,by decide +kernel,rfl,by decide +kernel,by decide +kernel⟩
theorem sc_read_fraction:FnScope ["reading","sign","top"] ["reading"] (ah gv):=⟨rfl,rfl,rfl,by decide +kernel,rfl,by decide +kernel,by decide +kernel⟩
theorem vP:FnScope ["reading"] ["reading"] (ah gp):=⟨rfl,rfl,rfl,by decide +kernel,rfl,by decide +kernel,by decide +kernel⟩
theorem v3:FnScope ["_law_script","_law_k"] ["_law_script","_law_k"] (ah gP):=⟨rfl,rfl,rfl,by decide +kernel,rfl,by decide +kernel,by decide +kernel⟩
theorem v0:FnScope ["_law_found"] ["_law_found"] (ah gI):=⟨rfl,rfl,rfl,by decide +kernel,rfl,by decide +kernel,by decide +kernel⟩
theorem sc__law_word:FnScope ["_law_cell_here","_law_letters","_law_turn","_law_word_here","_law_k"] ["_law_cell_here"] (ah gG):=⟨rfl,rfl,rfl,by decide +kernel,rfl,by decide +kernel,by decide +kernel⟩
theorem sc__law_given:FnScope ["_law_cell_here","_law_turn","_law_k","_law_marks","_law_kp","_law_low","_law_high"] ["_law_cell_here"] (ah gL):=⟨rfl,rfl,rfl,by decide +kernel,rfl,by decide +kernel,by decide +kernel⟩
theorem sc__law_atom:FnScope ["_law_cell_here","_law_value","_law_word_here"] ["_law_cell_here"] (ah gR):=⟨rfl,rfl,rfl,by decide +kernel,rfl,by decide +kernel,by decide +kernel⟩
theorem vZ:FnScope ["_law_one","_law_rank","_law_loose"] ["_law_one","_law_rank","_law_loose"] (ah gH):=⟨rfl,rfl,rfl,by decide +kernel,rfl,by decide +kernel,by decide +kernel⟩
theorem sc__law_alone:FnScope ["_law_one","_law_cell_here","_law_loose","_law_piece","_law_word_here"] ["_law_one","_law_cell_here"] (ah gS):=⟨rfl,rfl,rfl,by decide +kernel,rfl,by decide +kernel,by decide +kernel⟩
theorem sc__law_both:FnScope ["_law_one","_law_other","_law_cell_here","_law_op","_law_left","_law_right","_law_marks"] ["_law_one","_law_other","_law_cell_here"] (ah gQ):=⟨rfl,rfl,rfl,by decide +kernel,rfl,by decide +kernel,by decide +kernel⟩
theorem v2:FnScope ["_law_one"] ["_law_one"] (ah gN):=⟨rfl,rfl,rfl,by decide +kernel,rfl,by decide +kernel,by decide +kernel⟩
theorem sc__law_drawn:FnScope ["_law_deeds","_law_row","_law_cell_here","_law_built","_law_tree","_law_turn"] ["_law_deeds"] (ah gO):=⟨rfl,rfl,rfl,by decide +kernel,rfl,by decide +kernel,by decide +kernel⟩
theorem sc__law_joined:FnScope ["_law_marks","_law_turn","_law_text","_law_mark"] ["_law_marks","_law_turn"] (ah gK):=⟨rfl,rfl,rfl,by decide +kernel,rfl,by decide +kernel,by decide +kernel⟩
theorem v1:FnScope ["_law_r","_law_due"] ["_law_r","_law_due"] (ah gJ):=⟨rfl,rfl,rfl,by decide +kernel,rfl,by decide +kernel,by decide +kernel⟩
theorem sc__law_like_leaf:FnScope ["_law_found","_law_tree","_law_one"] ["_law_found","_law_tree"] (ah eJ):=⟨rfl,rfl,rfl,by decide +kernel,rfl,by decide +kernel,by decide +kernel⟩
theorem sc__law_like:FnScope ["_law_found","_law_tree","_law_good"] ["_law_found","_law_tree"] (ah dQ):=⟨rfl,rfl,rfl,by decide +kernel,rfl,by decide +kernel,by decide +kernel⟩
theorem sc_law:FnScope ["_law_script","_law_drawn_here","_law_text"] ["_law_script"] (ah dP):=⟨rfl,rfl,rfl,by decide +kernel,rfl,by decide +kernel,by decide +kernel⟩
structure Txt(K:PySem.W.Frag)(mg:Str->Option Value):Prop where
 len_:mg "len"=none
 all_:mg "all"=none
 abs_:mg "abs"=none
 str_:mg "str"=none
 max_:mg "max"=none
 range_:mg "range"=none
 list_:mg "list"=none
 isinstance_:mg "isinstance"=none
 int_:mg "int"=none
 bool_:mg "bool"=none
 sum_:mg "sum"=none
 LONGEST_:∃t:Tok,mg "LONGEST"=some (.int 8 t)
 DEEPEST_:∃t:Tok,mg "DEEPEST"=some (.int 10 t)
 FIGURES_:∃t:Tok,mg "FIGURES"=some (.str "0123456789" t)
 LETTERS_:∃t:Tok,mg "LETTERS"=some (.str "abcdefghijklmnopqrstuvwxyz" t)
 WORDS_:∃a:Addr,mg "WORDS"=some (.ref a)/\∀H,SqT K H a [.str "x",.str "sqrt",.str "cbrt",.str "root"]
 EXPONENTS_:∃a:Addr,mg "EXPONENTS"=some (.ref a)/\∀H,SqT K H a [.str "0",.str "1",.str "2",.str "3",.str "4",.str "5",.str "6",.str "7",.str "8"]
structure EXC(K:PySem.W.Frag)(mg:Str->Option Value)(base:Heap)(CNoText:Addr):Prop where
 mgNoText:mg "NoText"=some (.ref CNoText)
section
variable {P:Program}{w:World}{K:PySem.W.Frag}{mg:Str->Option Value}{base:Heap}
def la(K:PySem.W.Frag):Sp:=λvs H Q _=>∃(a:Addr) (ns:List Int),vs=[.ref a]/\SqL K H a (ns.map V.int)/\ns.length<=63/\∀H',Q (.bl true) H'
theorem rf(n:Nat):(List.replicate n [V.int 0]).flatten=(List.replicate n (0:Int)).map V.int:=by
 induction n with
 |zero=>rfl
 |succ n ih=>rw[Fk,FD,ih,Fk];rfl
theorem lP{n j:Nat}{i:Int}(e:i=j)(h:j<n):ixN n i=some j:=by subst e;unfold ixN;rw[if_pos (Int.natCast_nonneg _),if_pos (by omega)];simp
theorem lH(l:List Int)(j:Nat)(x:Int):(l.map V.int).set j (.int x)=(l.set j x).map V.int:=by rw[List.map_set]
theorem pN{l:List Int}{j:Nat}{i:Int}(e:i=j)(h:j<l.length):atI (l.map V.int) i=some (.int (cf l j)):=by subst e;exact iK (by rw[List.getElem?_map,lW h];rfl)
def SameB(p:Addr)(H H':Hp):Prop:=∀b o,b≠p->H b=some o->H' b=some o
theorem SameB.refl(p:Addr)(H:Hp):SameB p H H:=λ_ _ _ h=>h
theorem SameB.then_new{p q:Addr}{H H1:Hp}{o:HO}(s:SameB p H H1)(h:H1 q=none):SameB p H (upd H1 q o):=λb u n e=>by rw[upd_ne (aX (s b u n e) h)];exact s b u n e
def AllB(k:Nat)(l:List Int):Prop:=∀x∈l,Bits k x
theorem AllB.cf{k:Nat}{l:List Int}(h:AllB k l)(n:Nat):Bits k (cf l n):=by
 by_cases hn:n<l.length
 ·rw[mm hn];exact h _ (List.getElem_mem hn)
 ·rw[ef (FE hn)];exact Bits.zero
theorem dX{H H2:Hp}{p:Addr}{o:HO}(s:Same H H2)(hp:H p=none):Same H (upd H2 p o):=λb u e=>by rw[upd_ne (aX e hp)];exact s b u e
noncomputable def pq(ms:List Int)(lo hi:Option Int):List Int:=(ms.drop (HT.sIx ms.length 0 lo)).take (HT.sIx ms.length ms.length hi-HT.sIx ms.length 0 lo)
theorem ug(ms:List Int)(lo hi:Option Int):cJ (ms.map V.int) lo hi=(pq ms lo hi).map V.int:=by unfold cJ pq;rw[EN,<- List.map_drop,<- List.map_take]
theorem AllB.app{k:Nat}{l r:List Int}(h1:AllB k l)(h2:AllB k r):AllB k (l++r):=λx hx=>(EW.mp hx).elim (h1 x) (h2 x)
theorem AllB.mono{j k:Nat}{l:List Int}(h:AllB j l)(hk:j<=k:=by decide):AllB k l:=λx hx=>(h x hx).mono hk
theorem AllB.nil{k:Nat}:AllB k []:=λ_ h=>nomatch h
theorem AllB.snoc{k:Nat}{l:List Int}{x:Int}(h:AllB k l)(hx:Bits k x):AllB k (l++[x]):=h.app λy hy=>by rw[E4.mp hy];exact hx
theorem y2{l:List Int}{x:Int}(h:x∈trim l):x∈l:=by
 unfold trim at h
 rw[List.mem_reverse]at h;exact List.mem_reverse.mp ((List.dropWhile_sublist _).subset h)
theorem AllB.trim{k:Nat}{l:List Int}(h:AllB k l):AllB k (trim l):=λx hx=>h x (y2 hx)
theorem tR{l:List Int}{i:Nat}{x:V}(h:(l.map V.int)[i]?=some x):∃c,l[i]?=some c/\x=.int c/\c∈l/\l.take (i+1)=l.take i++[c]:=by
 rw[List.getElem?_map]at h;cases e:l[i]? with
 |none=>rw[e]at h;cases h
 |some c=>rw[e]at h;exact⟨c,rfl,(Option.some.inj h).symm,List.mem_of_getElem? e,by rw[Fw,e];rfl⟩
def mkL(H:Hp)(Q:VK)(r:List Int):Prop:=∀(p:Addr) (H':Hp),Same H H'->H p=none->H' p=some (.lst (r.map V.int))->Q (.ref p) H'
def kX(K:PySem.W.Frag):Sp:=λvs H Q _=>∃(a:Addr) (ns:List Int),vs=[.ref a]/\SqL K H a (ns.map V.int)/\mkL H Q (trim ns)
def gh(K:PySem.W.Frag):Sp:=λvs H Q _=>∃(a:Addr) (ns:List Int) (k:Nat),vs=[.ref a,.int k]/\SqL K H a (ns.map V.int)/\Q (.int (ns.getD k 0)) H
def m4(K:PySem.W.Frag)(g:List Int->List Int->List Int):Sp:=λvs H Q _=>∃(a b:Addr) (xs ys:List Int),vs=[.ref a,.ref b]/\SqL K H a (xs.map V.int)/\SqL K H b (ys.map V.int)/\xs.length<=1000000/\ys.length<=1000000/\mkL H Q (g xs ys)
theorem y3(i j:Nat):(if((j:Nat):Int)>((i:Nat):Int)then((j:Nat):Int)else((i:Nat):Int))=((max i j:Nat):Int):=by split<;>omega
theorem qV{n:Nat}(h:n<=sizeLine) : -(2^62)<=((n:Nat):Int)/\((n:Nat):Int)<2^62:=by have:=sizeLine_eq;omega
def RwH(H:Hp)(ps:List Addr)(xss:List (List Int)):Prop:=ps.length=xss.length/\∀(i:Nat) (p:Addr) (xs:List Int),ps[i]?=some p->xss[i]?=some xs->H p=some (.lst (xs.map V.int))
theorem RwH.nil{H:Hp}:RwH H [] []:=⟨rfl,λi p xs h=>by simp at h⟩
theorem RwH.same{H H':Hp}{ps:List Addr}{xss:List (List Int)}(h:RwH H ps xss)(s:Same H H'):RwH H' ps xss:=⟨h.1,λi p xs a b=>s _ _ (h.2 i p xs a b)⟩
theorem RwH.snoc{H:Hp}{ps:List Addr}{xss:List (List Int)}{p:Addr}{xs:List Int}(h:RwH H ps xss)(hp:H p=some (.lst (xs.map V.int))):RwH H (ps++[p]) (xss++[xs]):=by
 refine⟨by rw[ER,ER,h.1];rfl,λi q ys a b=>?_⟩;by_cases hi:i<ps.length
 ·rw[List.getElem?_append_left hi]at a;rw[List.getElem?_append_left (by rw[<- h.1];exact hi)]at b;exact h.2 i q ys a b
 ·rw[List.getElem?_append_right (by omega)]at a;rw[List.getElem?_append_right (by rw[<- h.1];omega),<- h.1]at b;by_cases h0:i-ps.length=0
  ·rw[h0]at a b;obtain rfl:p=q:=by simpa using a
   obtain rfl:xs=ys:=by simpa using b
   exact hp
  ·rw[List.getElem?_eq_none_iff.mpr (by simp;omega)]at a;cases a
theorem RwH.get{H:Hp}{ps:List Addr}{xss:List (List Int)}{i:Nat}(h:RwH H ps xss)(hi:i<xss.length):∃p,ps[i]?=some p/\H p=some (.lst ((xss.getD i []).map V.int)):=by
 have hi':i<ps.length:=by rw[h.1];exact hi
 refine⟨ps[i],List.getElem?_eq_getElem hi',h.2 i _ _ (List.getElem?_eq_getElem hi') ?_⟩;rw[List.getElem?_eq_getElem hi];simp[List.getD,hi]
theorem y4(ps:List Addr)(p:Addr):ps.map V.ref++[V.ref p]=(ps++[p]).map V.ref:=by rw[EV];rfl
theorem xL{f:Addr}{fd:FuncData}(F:Fun K "poly" "poly" gy f fd)(T:Txt K mg):FnOk P w K mg base CX0 1 f fd ["row"] (kX K):=by
 refine F.ok sc_poly (λvs H Q E h=>?_) (λcdv A outer s H vs Q E hr h=>?_)
 ·obtain⟨a,ns,rfl,_⟩:=h;rfl
 ·obtain⟨a,ns,rfl,hS,k⟩:=h
  refine⟨_,(ae (am (i:=1) sc_poly.nd rfl (Or.inl rfl) (aO (cW (K:=K) rfl) (by rfl) T.len_ PySem.boot_len (aa (pv 0) ad)))
   (ae (eO PassesOwn.never (PW.pt (ja (aI ix (pv 1) ac (aA _)) (i0 (aI bS (ao (bT (K:=K) rfl) (pv 0) (ag iw (pv 1) ac) (λ_ _=>rfl)) ac (aA _)))))
     (ai (am (i:=1) sc_poly.nd rfl (Or.inl rfl) (ag iw (pv 1) ac))))
   (ai (ar (je (m6 (K:=K) rfl) (pv 0) rA (eQ (pv 1))))))),?_⟩
  refine⟨_,rfl,a,_,rfl,.inl hS,?_⟩;refine⟨λm σ' H'=>∃n:Nat,n<=ns.length/\σ'=[some (.ref a),some (.int n)]/\H=H'/\n=m/\trim (ns.take n)=trim ns,⟨_,ns.length,EO _,?_,rfl,rfl,?_⟩,?_⟩
  ·rw[EN];rfl
  ·rw[Ft]
  ·rintro m σ' H' ⟨n,hn,rfl,rfl,rfl,ht⟩
   have fin:trim (ns.take n)=ns.take n->∃v,([some (V.ref a),some (V.int n)]:St)[0]?=some (some v)/\∃v_1,([some (V.ref a),some (V.int n)]:St)[1]?=some (some v_1)/\∃i,v_1=V.int i/\nw K v none (some i) H Q:=λh=>by
    refine⟨_,rfl,_,rfl,n,rfl,a,_,rfl,hS,λp hp=>k p _ (Same.upd_new hp) hp ?_⟩;rw[af,<- ht,h]
    have e:cJ (ns.map V.int) none (some (n:Int))=(ns.take n).map V.int:=by unfold cJ;rw[HT.sIx_none,HT.sIx_nat,List.drop_zero,Nat.sub_zero,EN,Nat.min_eq_left hn,List.map_take]
    rw[e]
   refine⟨_,rfl,_,_,rfl,rfl,_,rfl,?_⟩;refine ap (λhp=>?_) (λhp=>?_)
   ·obtain⟨j,rfl⟩:∃j,n=j+1:=⟨n-1,by have:(0:Int)<n:=hp;omega⟩;have hj:j<ns.length:=hn;refine⟨_,rfl,_,rfl,_,_,rfl,rfl,a,_,j,.int (cf ns j),rfl,?_,hS,iK ?_,_,_,rfl,rfl,_,rfl,?_⟩
    ·show V.int (((j+1:Nat):Int)-1)=V.int j
     congr 1;omega
    ·rw[List.getElem?_map,lW hj];rfl
    refine ap (λh0=>?_) (λh0=>?_)
    ·refine⟨λσ'' H''=>∃m',m'<j+1/\∃n:Nat,n<=ns.length/\σ''=[some (.ref a),some (.int n)]/\H=H''/\n=m'/\trim (ns.take n)=trim ns,λ_ _ h=>h,?_⟩;refine⟨_,rfl,_,_,rfl,rfl,j,FA _,j,Nat.le_of_lt hj,?_,rfl,rfl,?_⟩
     ·show[some (V.ref a),some (V.int (((j+1:Nat):Int)-1))]=[some (V.ref a),some (V.int j)]
      congr 4;omega
     ·rw[<- ht,vj hj h0]
    ·exact fin (vk hj h0)
   ·obtain rfl:n=0:=by have:¬(0:Int)<n:=hp;omega
    exact fin (by rw[List.take_zero];rfl)
theorem xS{f:Addr}{fd:FuncData}(F:Fun K "coefficient" "coefficient" gE f fd)(T:Txt K mg):FnOk P w K mg base CX0 1 f fd ["row","place"] (gh K):=by
 refine F.ok vY (λvs H Q E h=>?_) (λcdv A outer s H vs Q E hr h=>?_)
 ·obtain⟨a,ns,k,rfl,_⟩:=h;rfl
 ·obtain⟨a,ns,n,rfl,hS,k⟩:=h
  refine⟨_,(ae (aF (aI eU (pv 1) (aO (cW (K:=K) rfl) (by rfl) T.len_ PySem.boot_len (aa (pv 0) ad)) (aA _))
   (ai (ar (ao (bT (K:=K) rfl) (pv 0) (pv 1) (λ_ _=>rfl))))
   aJ)
   (ai (ar ac))),?_⟩
  refine⟨_,rfl,_,rfl,a,_,rfl,.inl hS,_,_,rfl,rfl,_,rfl,?_⟩;refine ap (λh1=>?_) (λh1=>?_)
  ·rw[EN]at h1;have h2:n<ns.length:=by omega
   refine⟨_,rfl,_,rfl,a,_,_,_,rfl,rfl,hS,iK (v:=.int (ns.getD n 0)) ?_,k⟩;rw[List.getElem?_map,List.getElem?_eq_getElem h2];simp[List.getD,h2]
  ·rw[EN]at h1;have h2:ns.length<=n:=by omega
   have e:ns.getD n 0=0:=by simp[List.getD,List.getElem?_eq_none_iff.mpr h2]
   rw[e]at k;exact k
theorem xT{f:Addr}{fd:FuncData}(F:Fun K "added" "added" gF f fd)(T:Txt K mg){o6:Addr}{oZ:FuncData}(qd:Cal P w K mg base 1 "poly" ["row"] (kX K) o6 oZ){BL:Addr}{Bj:FuncData}(D7:Cal P w K mg base 1 "coefficient" ["row","place"] (gh K) BL Bj):FnOk P w K mg base CX0 2 f fd ["first","second"] (m4 K dG):=by
 obtain⟨kD,jl,jv,kv⟩:=qd;obtain⟨uQ,sE,tf,uD⟩:=D7;refine F.ok sc_added (λvs H Q E h=>?_) (λcdv A outer s H vs Q E hr h=>?_)
 ·obtain⟨a,b,xs,ys,rfl,_⟩:=h;rfl
 ·obtain⟨a,b,xs,ys,rfl,hA,hB,hx,hy,k⟩:=h
  refine⟨_,(ae (am (i:=2) sc_added.nd rfl (Or.inl rfl) (aO (pC rfl) (by rfl) T.max_ PyProof.Rows.boot_max (aa (aO (cW (K:=K) rfl) (by rfl) T.len_ PySem.boot_len (aa (pv 0) ad)) (aa (aO (cW (K:=K) rfl) (by rfl) T.len_ PySem.boot_len (aa (pv 1) ad)) ad))))
   (ai (ar (aq kD (hr.mono) rfl jl jv kv .nil ak (aa (nE (own:=["k"]) (fr:=["first","second"]) (js:=[0,1]) (by walk_at "comp_ok") rfl (rB rfl T.range_ (aa (pv 2) ad)) (λ_ _ _ _=>(dS (i:=0) (show List.Nodup (["k","first","second"]:List Str)from by decide +kernel) rfl (Or.inl rfl))) (λ_ _ _ _=>(ag bG (aq uQ (hr.mono) rfl sE tf uD .nil ak (aa (pv 1) (aa (pv 0) ad))) (aq uQ (hr.mono) rfl sE tf uD .nil ak (aa (pv 2) (aa (pv 0) ad)))))) ad))))),?_⟩
  refine⟨_,rfl,a,_,rfl,.inl hA,_,rfl,b,_,rfl,.inl hB,_,_,rfl,?_⟩;rw[y3,EN,EN];have hz:max xs.length ys.length<=sizeLine:=by have:=sizeLine_eq;omega
  refine⟨_,rfl,_,rfl,(qV hz).1,(qV hz).2,Ce (lo:=0) (n:=max xs.length ys.length) (λi zs σ' H'=>∃z:Option V,σ'=[z,some (.ref a),some (.ref b)]/\zs=((List.range i).map λk=>V.int (cf xs k+cf ys k))/\H=H') hz ⟨none,rfl,rfl,rfl⟩ ?_ ?_ ?_⟩
  ·rintro i zs σ' H' _ ⟨z,rfl,rfl,rfl⟩;simp
  ·rintro i zs σ' H' hi ⟨z,rfl,rfl,rfl⟩;refine⟨_,rfl,_,rfl,a,xs,i,?_,hA,_,rfl,_,rfl,b,ys,i,?_,hB,_,_,rfl,rfl,_,rfl,?_,rfl⟩
   ·show[V.ref a,V.int (0+(i:Int))]=_;rw[Int.zero_add]
   ·show[V.ref b,V.int (0+(i:Int))]=_;rw[Int.zero_add]
   ·rw[List.range_succ,EV];rfl
  ·rintro zs σ' H' p ⟨z,rfl,rfl,rfl⟩ hp;refine⟨p,(List.range (max xs.length ys.length)).map λk=>cf xs k+cf ys k,rfl,SqL.of ?_,?_⟩
   ·rw[af,List.map_map];rfl
   ·intro p' H' sm hp' e;refine k p' H' ((Same.upd_new hp).trans sm) ((Same.upd_new hp).free hp') ?_;rw[e,Dg]
def Pla(l:List Nat):Prop:=(∀c∈l,c<128)/\l.length<=300
theorem Pla.drop{l:List Nat}(h:Pla l)(n:Nat):Pla (l.drop n):=⟨λc hc=>h.1 c (List.mem_of_mem_drop hc),by rw[Fc];have:=h.2;omega⟩
theorem ky{l:List Nat}{i:Nat}{c:Nat}{j:Int}(e:j=i)(h:l[i]?=some c):atI (stL l).cps.toList j=some c:=by subst e;exact iK h
def SgP(z:Str)(p:Nat->Bool):Prop:=∀c,decide (c∈z.cps.toList)=p c
def mK:Sp:=λvs H Q _=>∃(l:List Nat) (i:Nat) (z:Str) (p:Nat->Bool),vs=[.str (stL l),.int i,.str z]/\Pla l/\i<=l.length/\SgP z p/\Q (.int ((i+((l.drop i).takeWhile p).length:Nat):Int)) H
theorem xw{f:Addr}{fd:FuncData}(F:Fun K "run_end" "run_end" gm f fd)(T:Txt K mg):FnOk P w K mg base CX0 1 f fd ["text","at","signs"] mK:=by
 refine F.ok sc_run_end (λvs H Q E h=>?_) (λcdv A outer s H vs Q E hr h=>?_)
 ·obtain⟨l,i,z,p,rfl,_⟩:=h;rfl
 ·obtain⟨l,i,z,p,rfl,hl,hi,hz,k⟩:=h;have big:=sizeLine_eq;have hl2:=hl.2
  refine⟨_,(ae (am (i:=3) sc_run_end.nd rfl (Or.inl rfl) (pv 1))
   (ae (eO PassesOwn.never (PW.pt (ja (aI eU (pv 3) (aO ku (by rfl) T.len_ PySem.boot_len (aa (pv 0) ad)) (aA _)) (i0 (aI nK (ao jx (pv 0) (pv 3) (λ_ _=>rfl)) (pv 2) (by rfl)))))
     (ai (am (i:=3) sc_run_end.nd rfl (Or.inl rfl) (ag bG (pv 3) ac))))
   (ai (ar (pv 3))))),?_⟩
  refine ay ⟨_,rfl,?_⟩;refine⟨λm σ' H'=>∃e:Nat,m+e=l.length/\σ'=[some (.str (stL l)),some (.int i),some (.str z),some (.int (e:Int))]/\H=H'/\e+((l.drop e).takeWhile p).length=i+((l.drop i).takeWhile p).length,⟨l.length-i,i,by omega,rfl,rfl,rfl⟩,?_⟩;rintro m σ' H' ⟨e,hm,rfl,rfl,he⟩;refine eN ⟨_,rfl,_,rfl,_,rfl,by rw[aU];omega,_,_,rfl,rfl,_,rfl,ap (λh1=>?_) (λh1=>?_)⟩
  rotate_left
  ·rw[aU]at h1;have h1':l.length<=e:=by have:¬(e:Int)<(l.length:Int):=h1;omega
   refine⟨_,rfl,?_⟩;rw[<- he,Fx h1']at k;exact k
  rw[aU]at h1;have h1':e<l.length:=by have:(e:Int)<(l.length:Int):=h1;omega
  have hg:l[e]?=some l[e]:=List.getElem?_eq_getElem h1';have hd:l.drop e=l[e]::l.drop (e+1):=FH h1';refine⟨_,rfl,_,rfl,_,_,_,rfl,rfl,by rw[aU];omega,ky rfl hg,_,rfl,_,_,rfl,rfl,_,rfl,?_⟩;rw[StrLaws.found_one,hz];by_cases hp:p l[e]=true
  ·rw[hp];refine aB ?_;refine⟨λσ'' H''=>∃m',m'<m/\∃e:Nat,m'+e=l.length/\σ''=[some (.str (stL l)),some (.int i),some (.str z),some (.int (e:Int))]/\H=H''/\e+((l.drop e).takeWhile p).length=i+((l.drop i).takeWhile p).length,λ_ _ h=>h,?_⟩;refine cg ⟨_,rfl,_,_,rfl,rfl,m-1,by omega,e+1,by omega,rfl,rfl,?_⟩;rw[<- he,hd,Fn,if_pos hp,E1];omega
  ·have hp':p l[e]=false:=by simpa using hp
   rw[hp'];refine aE ?_;refine⟨_,rfl,?_⟩;rw[<- he,hd,Fn,if_neg hp]at k;exact k
theorem tY:SgP (Str.ofString "0123456789") isD:=tJ
theorem sQ:SgP (Str.ofString "abcdefghijklmnopqrstuvwxyz") isA:=tI
def mP:Sp:=λvs H Q _=>∃(l:List Nat) (i:Nat),vs=[.str (stL l),.int i]/\Pla l/\i<l.length/\∀H',Same H H'->Q (.int ((i+mln (l.drop i):Nat):Int)) H'
theorem xN{f:Addr}{fd:FuncData}(F:Fun K "mark_end" "mark_end" gA f fd)(T:Txt K mg){BC:Addr}{Ba:FuncData}(DY:Cal P w K mg base 1 "run_end" ["text","at","signs"] mK BC Ba):FnOk P w K mg base CX0 2 f fd ["text","at"] mP:=by
 obtain⟨Dv,zb,Ad,Cv⟩:=DY;obtain⟨tF,hFIGURES⟩:=T.FIGURES_;obtain⟨tL,hLETTERS⟩:=T.LETTERS_;refine F.ok sc_mark_end (λvs H Q E h=>?_) (λcdv A outer s H vs Q E hr h=>?_)
 ·obtain⟨l,i,rfl,_⟩:=h;rfl
 ·obtain⟨l,i,rfl,hl,hi,k⟩:=h;have big:=sizeLine_eq;have hl2:=hl.2;have hg:l[i]?=some l[i]:=List.getElem?_eq_getElem hi;have hd:l.drop i=l[i]::l.drop (i+1):=FH hi
  refine⟨_,(ae (iq PassesOwn.never rfl (wZ (K:=K) rfl (bj (aa (bR (v:=.str "0123456789") rfl hFIGURES ⟨_,rfl⟩) (aa (bR (v:=.str "abcdefghijklmnopqrstuvwxyz") rfl hLETTERS ⟨_,rfl⟩) ad)))) (dS (i:=2) sc_mark_end.nd rfl (Or.inl rfl))
   (ai (aF (aI nK (ao jx (pv 0) (pv 1) (λ_ _=>rfl)) (pv 2) (by rfl))
     (ai (ar (aq Dv (hr.mono) rfl zb Ad Cv .nil ak (aa (pv 0) (aa (pv 1) (aa (pv 2) ad))))))
     aJ)))
   (ae (aF (aI cq (je qW (pv 0) (eQ (pv 1)) (eQ (ag bG (pv 1) ac))) al (aA _))
     (ai (ar (ag bG (pv 1) ac)))
     aJ)
   (ai (ar (ag bG (pv 1) ac))))),?_⟩
  refine⟨by show 2<=sizeLine;decide,λpt hpt=>?_⟩;have s1:=Same.upd_new (o:=.tup [V.str (Str.ofString "0123456789"),V.str (Str.ofString "abcdefghijklmnopqrstuvwxyz")]) hpt;have e1:upd H pt (.tup [V.str (Str.ofString "0123456789"),V.str (Str.ofString "abcdefghijklmnopqrstuvwxyz")]) pt=some (.tup [V.str (Str.ofString "0123456789"),V.str (Str.ofString "abcdefghijklmnopqrstuvwxyz")]):=af;generalize upd H pt (.tup [V.str (Str.ofString "0123456789"),V.str (Str.ofString "abcdefghijklmnopqrstuvwxyz")])=H1 at s1 e1 ⊢
  refine⟨pt,rfl,⟨_,SqT.of e1⟩,A5 (K:=K) (a:=pt) (xs:=[V.str (Str.ofString "0123456789"),V.str (Str.ofString "abcdefghijklmnopqrstuvwxyz")]) (λj σ' H'=>∃z2:Option V,σ'=[some (.str (stL l)),some (.int i),z2]/\H1=H'/\(1<=j->isD l[i]=false)/\(2<=j->isA l[i]=false)) ⟨none,rfl,rfl,(λh=>absurd h (by decide)),(λh=>absurd h (by decide))⟩ ?_ ?_ ?_⟩
  ·rintro j σ' H' _ ⟨z2,rfl,rfl,_⟩;exact SqT.of e1
  ·rintro j x σ' H' hj ⟨z2,rfl,rfl,c1,c2⟩;have hj2:j<2:=(List.getElem?_eq_some_iff.mp hj).1;have:j=0\/j=1:=by omega
   rcases this with rfl |rfl
   ·obtain rfl:V.str (Str.ofString "0123456789")=x:=Option.some.inj hj;refine cu ⟨_,rfl,_,rfl,_,_,_,rfl,rfl,by rw[aU];omega,ky rfl hg,_,rfl,_,_,rfl,rfl,_,rfl,?_⟩;rw[StrLaws.found_one,tJ];by_cases hp:isD l[i]=true
    ·rw[hp];refine aB ⟨_,rfl,_,rfl,_,rfl,l,i,_,isD,rfl,hl,by omega,tY,?_⟩;have:=k H1 s1;rw[hd,dB,if_pos hp,<- hd]at this;exact this
    ·have hp':isD l[i]=false:=by simpa using hp
     rw[hp'];exact aE ⟨_,rfl,rfl,λ_=>rfl,λh=>absurd h (by decide)⟩
   ·obtain rfl:V.str (Str.ofString "abcdefghijklmnopqrstuvwxyz")=x:=Option.some.inj hj;refine cu ⟨_,rfl,_,rfl,_,_,_,rfl,rfl,by rw[aU];omega,ky rfl hg,_,rfl,_,_,rfl,rfl,_,rfl,?_⟩;rw[StrLaws.found_one,tI];by_cases hp:isA l[i]=true
    ·rw[hp];refine aB ⟨_,rfl,_,rfl,_,rfl,l,i,_,isA,rfl,hl,by omega,sQ,?_⟩;have:=k H1 s1;rw[hd,dB,if_neg (by rw[c1 (by decide)];decide),if_pos hp,<- hd]at this;exact this
    ·have hp':isA l[i]=false:=by simpa using hp
     rw[hp'];exact aE ⟨_,rfl,rfl,λ_=>c1 (by decide),λ_=>rfl⟩
  ·rintro σ' H' ⟨z2,rfl,rfl,c1,c2⟩;have d1:=c1 (by decide);have d2:=c2 (by decide);dsimp only
   have hd2:mln (l.drop i)=if l[i]=46/\(l.drop (i+1)).head?=some 46 then 2 else 1:=by rw[hd,dB,if_neg (by rw[d1];decide),if_neg (by rw[d2];decide)]
   have hsl:=vG hi;refine ax ⟨_,rfl,_,rfl,_,rfl,_,rfl,_,_,rfl,rfl,_,rfl,_,rfl,by rw[aU];omega,rfl,_,rfl,ap (λz=>?_) (λz=>?_)⟩
   ·have z2:=hsl.mp (V.str.inj z);rw[if_pos z2]at hd2;refine⟨_,rfl,_,_,rfl,rfl,?_⟩;have:=k H1 s1;rw[hd2]at this;exact this
   ·have z2:¬_:=λy=>z (congrArg V.str (hsl.mpr y))
    rw[if_neg z2]at hd2;refine⟨_,rfl,_,_,rfl,rfl,?_⟩;have:=k H1 s1;rw[hd2]at this;exact this
def MkH(H:Hp)(qs:List Addr)(ms:List Mk):Prop:=qs.length=ms.length/\∀(i:Nat) (q:Addr) (m:Mk),qs[i]?=some q->ms[i]?=some m->H q=some (.tup [.str (stL m.1),.int m.2])
theorem MkH.nil{H:Hp}:MkH H [] []:=⟨rfl,λi q p h _=>by simp at h⟩
theorem MkH.same{H H':Hp}{qs ms}(h:MkH H qs ms)(s:Same H H'):MkH H' qs ms:=⟨h.1,λi q p e1 e2=>s _ _ (h.2 i q p e1 e2)⟩
theorem MkH.upd{H:Hp}{qs ms}{a:Addr}{xs:List V}{o:HO}(h:MkH H qs ms)(ha:H a=some (.lst xs)):MkH (L2.upd H a o) qs ms:=⟨h.1,λi q p e1 e2=>by
 have e:=h.2 i q p e1 e2;have nq:q≠a:=λz=>by rw[z,ha]at e;cases e
 rw[L2.upd_ne nq];exact e⟩
theorem MkH.snoc{H:Hp}{qs:List Addr}{ls:List Mk}{q:Addr}{m:List Nat}{n:Nat}(h:MkH H qs ls)(h1:H q=some (.tup [.str (stL m),.int n])):MkH H (qs++[q]) (ls++[(m,n)]):=by
 refine⟨by rw[ER,ER,h.1];rfl,λi q' p e1 e2=>?_⟩;by_cases hi:i<ls.length
 ·rw[List.getElem?_append_left (by rw[h.1];exact hi)]at e1;rw[List.getElem?_append_left hi]at e2;exact h.2 i q' p e1 e2
 ·rw[List.getElem?_append_right (by rw[h.1];omega),h.1]at e1;rw[List.getElem?_append_right (by omega)]at e2
  have hz:i-ls.length=0:=by
   cases hd:i-ls.length with
   |zero=>rfl
   |succ d=>rw[hd]at e2;simp at e2
  rw[hz]at e1 e2;obtain rfl:=Option.some.inj e1;obtain rfl:=Option.some.inj e2;exact h1
def mO:Sp:=λvs H Q _=>∃l:List Nat,vs=[.str (stL l)]/\Pla l/\∀(p:Addr) (H':Hp) (qs:List Addr),Same H H'->H p=none->H' p=some (.lst (qs.map V.ref))->MkH H' qs (mks 0 l)->Q (.ref p) H'
theorem xM{f:Addr}{fd:FuncData}(F:Fun K "marks_of" "marks_of" gz f fd)(T:Txt K mg){BK:Addr}{Bi:FuncData}(D6:Cal P w K mg base 2 "mark_end" ["text","at"] mP BK Bi):FnOk P w K mg base CX0 3 f fd ["text"] mO:=by
 obtain⟨DA,zh,Ai,CB⟩:=D6;refine F.ok sc_marks_of (λvs H Q E h=>?_) (λcdv A outer s H vs Q E hr h=>?_)
 ·obtain⟨l,rfl,_⟩:=h;rfl
 ·obtain⟨l,rfl,hl,k⟩:=h;have big:=sizeLine_eq;have hl2:=hl.2
  refine⟨_,(ae (am (i:=1) sc_marks_of.nd rfl (Or.inl rfl) (bf ad))
   (ae (am (i:=2) sc_marks_of.nd rfl (Or.inl rfl) ac)
   (ae (eO PassesOwn.never (aI eU (pv 2) (aO ku (by rfl) T.len_ PySem.boot_len (aa (pv 0) ad)) (aA _))
     (ae (am (i:=3) sc_marks_of.nd rfl (Or.inl rfl) (aq DA (hr.mono) rfl zh Ai CB .nil ak (aa (pv 0) (aa (pv 2) ad))))
       (ae (aF (aI fE (ao jx (pv 0) (pv 2) (λ_ _=>rfl)) al (aA _))
         (ai (cR (rC PySem.F.plainAttrs_list PySem.F.slot_list_append PySem.F.type_list_append rS (pv 1) (aa (bj (aa (je qW (pv 0) (eQ (pv 2)) (eQ (pv 3))) (aa (pv 2) ad))) ad))))
         aJ)
       (ai (am (i:=2) sc_marks_of.nd rfl (Or.inl rfl) (pv 3))))))
   (ai (ar (pv 1)))))),?_⟩
  refine ay ⟨Fb _,λpf hpf=>?_⟩;have s0:Same H (upd H pf (.lst [])):=Same.upd_new hpf;have q0:upd H pf (.lst []) pf=some (.lst (([]:List Addr).map V.ref)):=af;generalize upd H pf (.lst [])=H0 at s0 q0 ⊢
  refine ay ?_;refine⟨λm σ' H'=>∃(e:Nat) (qs:List Addr) (ms:List Mk) (z3:Option V),m+e=l.length/\σ'=[some (.str (stL l)),some (.ref pf),some (.int (e:Int)),z3]/\Same H H'/\H' pf=some (.lst (qs.map V.ref))/\MkH H' qs ms/\ms++mks e (l.drop e)=mks 0 l,⟨l.length,0,[],[],none,rfl,rfl,s0,q0,MkH.nil,rfl⟩,?_⟩;rintro m σ' H1 ⟨e,qs,ms,z3,hm,rfl,s1,e1,hM,hms⟩;refine⟨_,rfl,_,rfl,_,rfl,by rw[aU];omega,_,_,rfl,rfl,_,rfl,ap (λh1=>?_) (λh1=>?_)⟩
  rotate_left
  ·rw[aU]at h1;have h1':l.length<=e:=by have:¬(e:Int)<(l.length:Int):=h1;omega
   rw[Fx h1',iB,Ff]at hms;exact⟨_,rfl,k pf H1 qs s1 hpf e1 (hms ▸ hM)⟩
  rw[aU]at h1;have h1':e<l.length:=by have:(e:Int)<(l.length:Int):=h1;omega
  have hg:l[e]?=some l[e]:=List.getElem?_eq_getElem h1';have hd:l.drop e=l[e]::l.drop (e+1):=FH h1';have hmp:1<=mln (l.drop e):=by rw[hd];exact iA _ _
  have hml:mln (l.drop e)<=l.length-e:=by have:=nX (l.drop e);rw[Fc]at this;exact this
  have hmsl:ms.length<=l.length:=by have h2:=congrArg List.length hms;rw[ER]at h2;have h3:(mks 0 l).length<=l.length:=yS _ _;omega
  refine⟨λσ'' H''=>∃m',m'<m/\∃(e:Nat) (qs:List Addr) (ms:List Mk) (z3:Option V),m'+e=l.length/\σ''=[some (.str (stL l)),some (.ref pf),some (.int (e:Int)),z3]/\Same H H''/\H'' pf=some (.lst (qs.map V.ref))/\MkH H'' qs ms/\ms++mks e (l.drop e)=mks 0 l,λ_ _ h=>h,?_⟩;refine ay ⟨_,rfl,_,rfl,l,e,rfl,hl,h1',λH2 sm2=>?_⟩;have e2:=sm2 _ _ e1;have hM2:=hM.same sm2;have s2:=s1.trans sm2;have hmc:=fH e l[e] (l.drop (e+1));rw[<- hd,List.drop_drop]at hmc;rw[hmc]at hms;refine rj (λσ' H'=>∃(qs:List Addr) (ms:List Mk),σ'=[some (.str (stL l)),some (.ref pf),some (.int (e:Int)),some (.int ((e+mln (l.drop e):Nat):Int))]/\Same H H'/\H' pf=some (.lst (qs.map V.ref))/\MkH H' qs ms/\ms++mks (e+mln (l.drop e)) (l.drop (e+mln (l.drop e)))=mks 0 l) ?_ ?_
  case refine_2 =>
   intro rest;refine⟨_,rfl,_,rfl,_,_,_,rfl,rfl,by rw[aU];omega,ky rfl hg,rfl,_,rfl,iY (λh2=>?_) (λh2=>?_)⟩
   ·have h2':l[e]≠32:=λz=>h2 (by rw[z];decide +kernel)
    rw[if_neg h2']at hms;refine nr ⟨_,rfl,.inl ⟨rfl,_,SqL.of e2⟩,_,rfl,_,rfl,_,rfl,_,rfl,_,rfl,_,rfl,by rw[aU];omega,_,rfl,by show 2<=sizeLine;decide,λpt hpt=>?_⟩;have hsl:=m5 l (a:=e) (b:=e+mln (l.drop e)) (by omega) (by omega);rw[Nat.add_sub_cancel_left]at hsl;have u3:=Same.upd_new (o:=.tup [V.str (Txt.slice (stL l) (some (e:Int)) (some ((e+mln (l.drop e):Nat):Int))),V.int (e:Int)]) hpt;have ept:upd H2 pt (.tup [V.str (Txt.slice (stL l) (some (e:Int)) (some ((e+mln (l.drop e):Nat):Int))),V.int (e:Int)]) pt=some (.tup [V.str (stL ((l.drop e).take (mln (l.drop e)))),V.int (e:Int)]):=by rw[af,hsl]
    generalize upd H2 pt (.tup [V.str (Txt.slice (stL l) (some (e:Int)) (some ((e+mln (l.drop e):Nat):Int))),V.int (e:Int)])=H3 at u3 ept ⊢
    have e3:=u3 _ _ e2;refine⟨pf,_,_,rfl,rfl,e3,by rw[EN,hM.1];omega,rest _ _ ⟨qs++[pt],ms++[((l.drop e).take (mln (l.drop e)),e)],rfl,dX (s2.trans u3) hpf,by rw[af,y4],((hM2.same u3).snoc ept).upd e3,?_⟩⟩;rw[E7];exact hms
   ·have h2':l[e]=32:=by
     have z:V.str ⟨#[l[e]]⟩=V.str (Str.ofString " "):=h2;have z2:([l[e]]:List Nat)=(Str.ofString " ").cps.toList:=congrArg (λs:Str=>s.cps.toList) (V.str.inj z);have z3:(Str.ofString " ").cps.toList=[32]:=by decide +kernel
     rw[z3]at z2;exact List.head_eq_of_cons_eq z2
    rw[if_pos h2',Fs]at hms;exact rest _ _ ⟨qs,ms,rfl,s2,e2,hM2,hms⟩
  rintro σ' H3 ⟨qs,ms,rfl,s3,e3,hM3,hms3⟩;refine cg ⟨_,rfl,m-mln (l.drop e),by omega,e+mln (l.drop e),qs,ms,_,by omega,rfl,s3,e3,hM3,hms3⟩
theorem om:(Str.ofString "x":Str)=stL [120]:=by decide +kernel
theorem oF:(Str.ofString "^":Str)=stL [94]:=by decide +kernel
theorem jp:(Str.ofString "*":Str)=stL [42]:=by decide +kernel
theorem oC:(Str.ofString "":Str)=stL []:=by decide +kernel
theorem jr:(Str.ofString "0":Str)=stL [48]:=by decide +kernel
theorem jq:(Str.ofString "-":Str)=stL [45]:=by decide +kernel
theorem iE:(Str.ofString "+":Str)=stL [43]:=by decide +kernel
structure QC(K:PySem.W.Frag)(mg:Str->Option Value)(C:Addr):Prop where
 cl:Cls K C
 n1:NoAttr K C "marks"
 n2:NoAttr K C "end"
 n3:NoAttr K C "done"
 n4:NoAttr K C "depth"
 mg:mg "Reading"=some (.ref C)
theorem rR:¬(("marks":Str)="end"):=by decide +kernel
theorem nQ:¬(("marks":Str)="done"):=by decide +kernel
theorem nO:¬(("marks":Str)="depth"):=by decide +kernel
theorem nS:¬(("end":Str)="done"):=by decide +kernel
theorem nR:¬(("end":Str)="depth"):=by decide +kernel
theorem nU:¬(("done":Str)="depth"):=by decide +kernel
theorem jb{f:Str}{v:V}{fs:List (Str×V)}{n:Nat}(h:fs.length<n):(aL f v fs).length<n+1:=by have:=oJ f v fs;omega
noncomputable def fdl(pm:Addr)(e:Nat×Nat)(d:Int):List (Str×V):=aL "depth" (.int (e.2:Nat)) (aL "done" (.int d) (aL "end" (.int (e.1:Nat)) (aL "marks" (.ref pm) [])))
theorem jy(pm:Addr)(e:Nat×Nat)(d:Int):(fdl pm e d).lookup ("marks":Str)=some (.ref pm):=by unfold fdl;rw[bg,if_neg nO,bg,if_neg nQ,bg,if_neg rR,bg,if_pos rfl]
theorem fL(pm:Addr)(e:Nat×Nat)(d:Int):(fdl pm e d).lookup ("done":Str)=some (.int d):=by unfold fdl;rw[bg,if_neg nU,bg,if_pos rfl]
theorem A8(pm:Addr)(e:Nat×Nat)(d:Int):(fdl pm e d).lookup ("end":Str)=some (.int (e.1:Nat)):=by unfold fdl;rw[bg,if_neg nR,bg,if_neg nS,bg,if_pos rfl]
theorem bL(pm:Addr)(e:Nat×Nat)(d:Int){m:Str}(h1:¬m="marks")(h2:¬m="end")(h3:¬m="done")(h4:¬m="depth"):(fdl pm e d).lookup m=none:=by unfold fdl;rw[bg,if_neg h4,bg,if_neg h3,bg,if_neg h2,bg,if_neg h1];rfl
theorem jz(pm:Addr)(e:Nat×Nat)(d:Int):fdl pm e d=([(Str.ofString "marks",V.ref pm),(Str.ofString "end",V.int (e.1:Nat)),(Str.ofString "done",V.int d),(Str.ofString "depth",V.int (e.2:Nat))]:List (Str×V)):=by unfold fdl;show aL "depth" _ (aL "done" _ (if("marks":Str)="end" then _ else _))=_;rw[if_neg rR];show aL "depth" _ (if("marks":Str)="done" then _ else _::(if("end":Str)="done" then _ else _))=_;rw[if_neg nQ,if_neg nS];show(if("marks":Str)="depth" then _ else _::(if("end":Str)="depth" then _ else _::(if("done":Str)="depth" then _ else _)))=_;rw[if_neg nO,if_neg nR,if_neg nU];rfl
theorem tZ(pm:Addr)(e:Nat×Nat)(d d':Int):aL "done" (.int d') (fdl pm e d)=fdl pm e d':=by rw[jz,jz];show(if("marks":Str)="done" then _ else _::(if("end":Str)="done" then _ else _::(if("done":Str)="done" then _ else _)))=_;rw[if_neg nQ,if_neg nS,if_pos rfl]
theorem l0(pm:Addr)(e:Nat×Nat)(d:Int):(fdl pm e d).length<1000:=by rw[jz];show 4<1000;decide
def RdA(C:Addr)(H:Hp)(p:Addr)(e:Nat×Nat)(us:List Mk):Prop:=∃(dx pm:Addr) (qs:List Addr) (ts:List Mk) (d:Nat),H p=some (.ins C dx (fdl pm e d))/\H pm=some (.lst (qs.map V.ref))/\MkH H qs ts/\ts.drop d=us/\d<=ts.length/\∀u∈ts,u.1≠[]/\u.1.length<=300/\∀c∈u.1,c<128
theorem RdA.same{C:Addr}{H H':Hp}{p:Addr}{e:Nat×Nat}{us:List Mk}(h:RdA C H p e us)(s:Same H H'):RdA C H' p e us:=by obtain⟨dx,pm,qs,ts,d,h1,h2,h3,h4⟩:=h;exact⟨dx,pm,qs,ts,d,s _ _ h1,s _ _ h2,h3.same s,h4⟩
theorem RdA.is{C:Addr}{H:Hp}{p:Addr}{e:Nat×Nat}{us:List Mk}(h:RdA C H p e us):∀u∈us,u.1≠[]/\u.1.length<=300/\∀c∈u.1,c<128:=by obtain⟨dx,pm,qs,ts,d,h1,h2,h3,h4,h5,h6⟩:=h;intro u hu;rw[<- h4]at hu;exact h6 u (List.mem_of_mem_drop hu)
theorem MkH.upd_ins{H:Hp}{qs ms}{a C dx:Addr}{fs:List (Str×V)}{o:HO}(h:MkH H qs ms)(ha:H a=some (.ins C dx fs)):MkH (L2.upd H a o) qs ms:=⟨h.1,λi q p e1 e2=>by
 have e:=h.2 i q p e1 e2;have nq:q≠a:=λz=>by rw[z,ha]at e;cases e
 rw[L2.upd_ne nq];exact e⟩
theorem pi{ts us:List Mk}{u:Mk}{d:Nat}(h:ts.drop d=u::us):d<ts.length/\ts[d]?=some u/\ts.drop (d+1)=us:=by
 have hl:d<ts.length:=by have:=congrArg List.length h;rw[Fc,E1]at this;omega
 rw[FH hl]at h;refine⟨hl,?_,(List.cons.inj h).2⟩;rw[List.getElem?_eq_getElem hl,(List.cons.inj h).1]
theorem pj{ts:List Mk}{d:Nat}(h:ts.drop d=[])(hd:d<=ts.length):d=ts.length:=by have:=List.drop_eq_nil_iff.mp h;omega
theorem RdA.put{C:Addr}{H:Hp}{p pm dx:Addr}{e:Nat×Nat}{qs:List Addr}{ts us:List Mk}{u:Mk}{d:Nat}(h1:H p=some (.ins C dx (fdl pm e d)))(h2:H pm=some (.lst (qs.map V.ref)))(h3:MkH H qs ts)(h4:ts.drop d=u::us)(h6:∀u∈ts,u.1≠[]/\u.1.length<=300/\∀c∈u.1,c<128):SameB p H (upd H p (.ins C dx (fdl pm e ((d+1:Nat):Int))))/\RdA C (upd H p (.ins C dx (fdl pm e ((d+1:Nat):Int)))) p e us:=by
 have np:pm≠p:=λz=>by rw[z,h1]at h2;cases h2
 obtain⟨g1,g2,g3⟩:=pi h4;exact⟨λb o hb eo=>by rw[upd_ne hb];exact eo,dx,pm,qs,ts,d+1,af,by rw[upd_ne np];exact h2,h3.upd_ins h1,g3,by omega,h6⟩
theorem MkH.at{H:Hp}{qs:List Addr}{ts:List Mk}{u:Mk}{d:Nat}(h:MkH H qs ts)(hd:ts[d]?=some u):∃(q:Addr),atI (qs.map V.ref) (d:Int)=some (.ref q)/\H q=some (.tup [.str (stL u.1),.int u.2]):=by
 have hq:d<qs.length:=by rw[h.1];exact(List.getElem?_eq_some_iff.mp hd).1
 exact⟨qs[d],iK (by rw[List.getElem?_map,List.getElem?_eq_getElem hq];rfl),h.2 d qs[d] u (List.getElem?_eq_getElem hq) hd⟩
def cA(C:Addr):Sp:=λvs H Q _=>∃(p:Addr) (e:Nat×Nat) (us:List Mk),vs=[.ref p]/\RdA C H p e us/\Q (.str (stL (mhd us))) H
theorem yk{C f:Addr}{fd:FuncData}(F:Fun K "seen" "Reading.seen" gZ f fd)(T:Txt K mg)(R:QC K mg C):FnOk P w K mg base CX0 1 f fd ["self"] (cA C):=by
 refine F.ok v8 (λvs H Q E h=>?_) (λcdv A outer s H vs Q E hr h=>?_)
 ·obtain⟨p,e,us,rfl,_⟩:=h;rfl
 ·obtain⟨p,e,us,rfl,⟨dx,pm,qs,ts,d,h1,h2,h3,h4,h5,h6⟩,k⟩:=h;have hql:(qs.map V.ref).length=ts.length:=by rw[EN,h3.1]
  refine⟨_,(ae (aF (aI bS (aN (K:=K) rfl (pv 0) rfl) (aO (cW (K:=K) rfl) (by rfl) T.len_ PySem.boot_len (aa (aN (K:=K) rfl (pv 0) rfl) ad)) (aA _))
   (ai (ar al))
   aJ)
   (ai (ar (ao (aC (K:=K) rfl) (ao (bT (K:=K) rfl) (aN (K:=K) rfl (pv 0) rfl) (aN (K:=K) rfl (pv 0) rfl) (λ_ _=>rfl)) ac (λ_ _=>rfl))))),?_⟩
  refine ax ⟨_,rfl,p,C,dx,_,_,rfl,h1,R.cl,R.n3,fL _ _ _,_,rfl,p,C,dx,_,_,rfl,h1,R.cl,R.n1,jy _ _ _,pm,_,rfl,.inl (SqL.of h2),_,_,rfl,rfl,_,rfl,ap (λh4'=>?_) (λh4'=>?_)⟩
  ·rw[hql]at h4';have h5':d=ts.length:=by have:(d:Int)=(ts.length:Int):=h4';omega
   have:us=[]:=by rw[<- h4];exact Fx (by omega)
   subst this;have k':Q (.str (stL [])) H:=k;rw[<- oC]at k';exact k'
  ·rw[hql]at h4';have h5':¬(d:Int)=(ts.length:Int):=h4';cases us with
   |nil=>exact absurd (pj h4 h5) (by omega)
   |cons u us =>obtain⟨g1,g2,g3⟩:=pi h4;obtain⟨q,e1,e2⟩:=h3.at g2;exact⟨_,rfl,p,C,dx,_,_,rfl,h1,R.cl,R.n1,jy _ _ _,_,rfl,p,C,dx,_,_,rfl,h1,R.cl,R.n3,fL _ _ _,pm,_,_,_,rfl,rfl,SqL.of h2,e1,q,_,_,_,rfl,rfl,SqT.of e2,rfl,k⟩
def eI(C:Addr):Sp:=λvs H Q _=>∃(p:Addr) (e:Nat×Nat) (us:List Mk),vs=[.ref p]/\RdA C H p e us/\Q (.int (mbg e.1 us:Nat)) H
theorem yq{C f:Addr}{fd:FuncData}(F:Fun K "begin" "Reading.begin" hV f fd)(T:Txt K mg)(R:QC K mg C):FnOk P w K mg base CX0 1 f fd ["self"] (eI C):=by
 refine F.ok we (λvs H Q E h=>?_) (λcdv A outer s H vs Q E hr h=>?_)
 ·obtain⟨p,e,us,rfl,_⟩:=h;rfl
 ·obtain⟨p,e,us,rfl,⟨dx,pm,qs,ts,d,h1,h2,h3,h4,h5,h6⟩,k⟩:=h;have hql:(qs.map V.ref).length=ts.length:=by rw[EN,h3.1]
  refine⟨_,(ae (aF (aI bS (aN (K:=K) rfl (pv 0) rfl) (aO (cW (K:=K) rfl) (by rfl) T.len_ PySem.boot_len (aa (aN (K:=K) rfl (pv 0) rfl) ad)) (aA _))
   (ai (ar (aN (K:=K) rfl (pv 0) rfl)))
   aJ)
   (ai (ar (ao (aC (K:=K) rfl) (ao (bT (K:=K) rfl) (aN (K:=K) rfl (pv 0) rfl) (aN (K:=K) rfl (pv 0) rfl) (λ_ _=>rfl)) ac (λ_ _=>rfl))))),?_⟩
  refine ax ⟨_,rfl,p,C,dx,_,_,rfl,h1,R.cl,R.n3,fL _ _ _,_,rfl,p,C,dx,_,_,rfl,h1,R.cl,R.n1,jy _ _ _,pm,_,rfl,.inl (SqL.of h2),_,_,rfl,rfl,_,rfl,ap (λh4'=>?_) (λh4'=>?_)⟩
  ·rw[hql]at h4';have h5':d=ts.length:=by have:(d:Int)=(ts.length:Int):=h4';omega
   have:us=[]:=by rw[<- h4];exact Fx (by omega)
   subst this;exact⟨_,rfl,p,C,dx,_,_,rfl,h1,R.cl,R.n2,A8 _ _ _,k⟩
  ·rw[hql]at h4';have h5':¬(d:Int)=(ts.length:Int):=h4';cases us with
   |nil=>exact absurd (pj h4 h5) (by omega)
   |cons u us =>obtain⟨g1,g2,g3⟩:=pi h4;obtain⟨q,e1,e2⟩:=h3.at g2;exact⟨_,rfl,p,C,dx,_,_,rfl,h1,R.cl,R.n1,jy _ _ _,_,rfl,p,C,dx,_,_,rfl,h1,R.cl,R.n3,fL _ _ _,pm,_,_,_,rfl,rfl,SqL.of h2,e1,q,_,_,_,rfl,rfl,SqT.of e2,rfl,k⟩
theorem br:¬(("seen":Str)="marks")/\¬(("seen":Str)="end")/\¬(("seen":Str)="done")/\¬(("seen":Str)="depth"):=by decide +kernel
theorem bZ:¬(("begin":Str)="marks")/\¬(("begin":Str)="end")/\¬(("begin":Str)="done")/\¬(("begin":Str)="depth"):=by decide +kernel
theorem ci:¬(("step":Str)="marks")/\¬(("step":Str)="end")/\¬(("step":Str)="done")/\¬(("step":Str)="depth"):=by decide +kernel
theorem bD:¬(("passes":Str)="marks")/\¬(("passes":Str)="end")/\¬(("passes":Str)="done")/\¬(("passes":Str)="depth"):=by decide +kernel
theorem cG:¬(("demand":Str)="marks")/\¬(("demand":Str)="end")/\¬(("demand":Str)="done")/\¬(("demand":Str)="depth"):=by decide +kernel
theorem yL:¬(("finish":Str)="marks")/\¬(("finish":Str)="end")/\¬(("finish":Str)="done")/\¬(("finish":Str)="depth"):=by decide +kernel
def cZ(C:Addr):Sp:=λvs H Q _=>∃(p:Addr) (e:Nat×Nat) (u:Mk) (us:List Mk),vs=[.ref p]/\RdA C H p e (u::us)/\∀H',SameB p H H'->RdA C H' p e us->Q (.str (stL u.1)) H'
theorem yj{C f:Addr}{fd:FuncData}(F:Fun K "step" "Reading.step" gY f fd)(T:Txt K mg)(R:QC K mg C){bF:Addr}{bE:FuncData}(bA:MCal P w K mg base 1 C "seen" ["self"] (cA C) bF bE):FnOk P w K mg base CX0 2 f fd ["self"] (cZ C):=by
 obtain⟨bO,bK,bM⟩:=bA;refine F.ok sc_Reading_step (λvs H Q E h=>?_) (λcdv A outer s H vs Q E hr h=>?_)
 ·obtain⟨p,e,u,us,rfl,_⟩:=h;rfl
 ·obtain⟨p,e,u,us,rfl,hA,k⟩:=h;obtain⟨dx,pm,qs,ts,d,h1,h2,h3,h4,h5,h6⟩:=id hA
  refine⟨_,(ae (am (i:=1) sc_Reading_step.nd rfl (Or.inl rfl) (ba (pv 0) R.cl bK bO (hr.mono) bM .nil ak))
   (ae (bi (pv 0) (ag bG (aN (K:=K) rfl (pv 0) rfl) ac) rfl)
   (ai (ar (pv 1))))),?_⟩
  refine ay ⟨_,rfl,p,dx,_,rfl,h1,bL _ _ _ br.1 br.2.1 br.2.2.1 br.2.2.2,p,e,_,rfl,hA,?_⟩;refine⟨_,rfl,p,C,dx,_,_,rfl,h1,R.cl,R.n3,fL _ _ _,_,_,rfl,rfl,_,rfl,p,C,dx,_,rfl,h1,R.cl,R.n3,l0 _ _ _,?_⟩;obtain⟨sb,ra⟩:=RdA.put h1 h2 h3 h4 h6;have e2:aL "done" (V.int ((d:Int)+1)) (fdl pm e d)=fdl pm e ((d+1:Nat):Int):=tZ _ _ _ _;refine⟨_,rfl,?_⟩;have:=k _ sb ra;rw[<- e2]at this;exact this
def cT(C:Addr):Sp:=λvs H Q _=>∃(p:Addr) (e:Nat×Nat) (us:List Mk) (m:List Nat),vs=[.ref p,.str (stL m)]/\RdA C H p e us/\m≠[]/\(∀u r,us=u::r->u.1=m->∀H',SameB p H H'->RdA C H' p e r->Q (.bl true) H')/\(mhd us≠m->Q (.bl false) H)
theorem yl{C f:Addr}{fd:FuncData}(F:Fun K "passes" "Reading.passes" g7 f fd)(T:Txt K mg)(R:QC K mg C){bF:Addr}{bE:FuncData}(bA:MCal P w K mg base 1 C "seen" ["self"] (cA C) bF bE):FnOk P w K mg base CX0 2 f fd ["self","mark"] (cT C):=by
 obtain⟨bO,bK,bM⟩:=bA;refine F.ok v9 (λvs H Q E h=>?_) (λcdv A outer s H vs Q E hr h=>?_)
 ·obtain⟨p,e,us,m,rfl,_⟩:=h;rfl
 ·obtain⟨p,e,us,m,rfl,hA,hm,k1,k2⟩:=h;obtain⟨dx,pm,qs,ts,d,h1,h2,h3,h4,h5,h6⟩:=id hA
  refine⟨_,(ae (aF (aI fE (ba (pv 0) R.cl bK bO (hr.mono) bM .nil ak) (pv 1) (aA _))
   (ai (ar jf))
   aJ)
   (ae (bi (pv 0) (ag bG (aN (K:=K) rfl (pv 0) rfl) ac) rfl)
   (ai (ar jf)))),?_⟩
  refine ax ⟨_,rfl,p,dx,_,rfl,h1,bL _ _ _ br.1 br.2.1 br.2.2.1 br.2.2.2,p,e,us,rfl,hA,_,rfl,rfl,_,rfl,iY (λh4=>?_) (λh4'=>?_)⟩
  ·exact k2 λz=>h4 (by rw[z])
  ·have h5':mhd us=m:=stL_inj.mp (V.str.inj h4');refine⟨_,rfl,p,C,dx,_,_,rfl,h1,R.cl,R.n3,fL _ _ _,_,_,rfl,rfl,_,rfl,p,C,dx,_,rfl,h1,R.cl,R.n3,l0 _ _ _,?_⟩;cases us with
   |nil=>exact absurd h5'.symm hm
   |cons u us =>obtain⟨sb,ra⟩:=RdA.put h1 h2 h3 h4 h6;have e2:aL "done" (V.int ((d:Int)+1)) (fdl pm e d)=fdl pm e ((d+1:Nat):Int):=tZ _ _ _ _;have:=k1 u us rfl h5' _ sb ra;rw[<- e2]at this;exact this
def XAt(CN p:Addr)(E:XK)(H:Hp)(n:Nat):Prop:=∀(H':Hp) (dx:Addr),SameB p H H'->H' dx=some (.xd [(("at":Str),V.int (n:Int))])->E (.ref CN) (some dx) H'
theorem yw{CNoText f:Addr}{fd:FuncData}(F:Fun K "__init__" "NoText.__init__" ie f fd)(T:Txt K mg)(hX:XCls K CNoText)(hN:NoAttr K CNoText "at"):FnOk P w K mg base CX0 1 f fd ["self","at"] (kU CNoText "at"):=by
 refine F.ok wl (λvs H Q E h=>?_) (λcdv A outer s H vs Q E hr h=>?_)
 ·obtain⟨e,v,rfl,_⟩:=h;rfl
 ·obtain⟨e,v,rfl,he,k⟩:=h;refine⟨_,(ai (wR (pv 0) (pv 1) rfl)),?_⟩;exact⟨_,rfl,_,rfl,e,CNoText,rfl,he,hX,hN,λdx h1 h2=>k dx h1 h2⟩
theorem SameB.new{p:Addr}{H:Hp}{dx:Addr}{o:HO}(h:H dx=none):SameB p H (upd H dx o):=λb o' _ e=>by rw[upd_ne (λz=>by rw[z,h]at e;cases e)];exact e
def gg(C CN:Addr):Sp:=λvs H Q E=>∃(p:Addr) (e:Nat×Nat) (us:List Mk) (m:List Nat),vs=[.ref p,.str (stL m)]/\RdA C H p e us/\m≠[]/\(∀u r,us=u::r->u.1=m->∀H',SameB p H H'->RdA C H' p e r->Q .non H')/\(mhd us≠m->XAt CN p E H (mbg e.1 us))
theorem yp{C CNoText f:Addr}{fd:FuncData}(F:Fun K "demand" "Reading.demand" hU f fd)(T:Txt K mg)(R:QC K mg C){bV:Addr}{bU:FuncData}(bJ:MCal P w K mg base 2 C "passes" ["self","mark"] (cT C) bV bU){dk:Addr}{di:FuncData}(dr:MCal P w K mg base 1 C "begin" ["self"] (eI C) dk di){dl:Addr}{dj:FuncData}(C_NoText:XCal P w K mg base 1 CNoText "NoText" "at" ["self","at"] dl dj):FnOk P w K mg base (CXV P w) 3 f fd ["self","mark"] (gg C CNoText):=by
 obtain⟨cc,b0,ca⟩:=bJ;obtain⟨dn,de,dm⟩:=dr;refine F.okV wd (λvs H Q E h=>?_) (λcdv A outer s H vs Q E hr h=>?_)
 ·obtain⟨p,e,us,m,rfl,_⟩:=h;rfl
 ·obtain⟨p,e,us,m,rfl,hA,hm,k1,k2⟩:=h;obtain⟨dx,pm,qs,ts,d,h1,h2,h3,h4,h5,h6⟩:=id hA
  refine⟨_,(ai (aF (dy (bu (cp (pv 0) R.cl b0 cc (hr.mono) ca .nil ak (aa (pv 1) ad))))
   (ai (ip (C:=CNoText) rfl C_NoText.ow PySem.F.excBase_ValueError C_NoText.ok (hr.mono) C_NoText.bd C_NoText.kp (aa (ba (pv 0) R.cl de dn (hr.mono) dm .nil ak) ad)))
   aJ)),?_⟩
  refine cu (dR ⟨_,rfl,p,dx,_,rfl,h1,bL _ _ _ bD.1 bD.2.1 bD.2.2.1 bD.2.2.2,_,rfl,p,e,us,m,rfl,hA,hm,λu r eu em H' sb ra=>⟨_,rfl,aE (k1 u r eu em H' sb ra)⟩,λz=>⟨_,rfl,aB ?_⟩⟩);exact⟨_,rfl,p,dx,_,rfl,h1,bL _ _ _ bZ.1 bZ.2.1 bZ.2.2.1 bZ.2.2.2,p,e,us,rfl,hA,_,rfl,λd hd=>k2 z _ d (SameB.new hd) af⟩
def mW(C CN:Addr):Sp:=λvs H Q E=>∃(p:Addr) (e:Nat×Nat) (us:List Mk),vs=[.ref p]/\RdA C H p e us/\(us=[]->Q .non H)/\(us≠[]->XAt CN p E H (mbg e.1 us))
theorem yn{C CNoText f:Addr}{fd:FuncData}(F:Fun K "finish" "Reading.finish" g9 f fd)(T:Txt K mg)(R:QC K mg C){dk:Addr}{di:FuncData}(dr:MCal P w K mg base 1 C "begin" ["self"] (eI C) dk di){dl:Addr}{dj:FuncData}(C_NoText:XCal P w K mg base 1 CNoText "NoText" "at" ["self","at"] dl dj):FnOk P w K mg base (CXV P w) 3 f fd ["self"] (mW C CNoText):=by
 obtain⟨dn,de,dm⟩:=dr;refine F.okV wb (λvs H Q E h=>?_) (λcdv A outer s H vs Q E hr h=>?_)
 ·obtain⟨p,e,us,rfl,_⟩:=h;rfl
 ·obtain⟨p,e,us,rfl,hA,k1,k2⟩:=h;obtain⟨dx,pm,qs,ts,d,h1,h2,h3,h4,h5,h6⟩:=id hA;have hql:(qs.map V.ref).length=ts.length:=by rw[EN,h3.1]
  refine⟨_,(ai (aF (aI eU (aN (K:=K) rfl (pv 0) rfl) (aO (cW (K:=K) rfl) (by rfl) T.len_ PySem.boot_len (aa (aN (K:=K) rfl (pv 0) rfl) ad)) (aA _))
   (ai (ip (C:=CNoText) rfl C_NoText.ow PySem.F.excBase_ValueError C_NoText.ok (hr.mono) C_NoText.bd C_NoText.kp (aa (ba (pv 0) R.cl de dn (hr.mono) dm .nil ak) ad)))
   aJ)),?_⟩
  refine cu ⟨_,rfl,p,C,dx,_,_,rfl,h1,R.cl,R.n3,fL _ _ _,_,rfl,p,C,dx,_,_,rfl,h1,R.cl,R.n1,jy _ _ _,pm,_,rfl,.inl (SqL.of h2),_,_,rfl,rfl,_,rfl,ap (λh4'=>?_) (λh4'=>?_)⟩
  ·rw[hql]at h4';have h4'':(d:Int)<(ts.length:Int):=h4';refine⟨_,rfl,p,dx,_,rfl,h1,bL _ _ _ bZ.1 bZ.2.1 bZ.2.2.1 bZ.2.2.2,p,e,us,rfl,hA,_,rfl,λd' hd=>k2 (λz=>?_) _ d' (SameB.new hd) af⟩;rw[z]at h4;have:=pj h4 h5;omega
  ·rw[hql]at h4';have h4'':¬(d:Int)<(ts.length:Int):=h4';refine k1 ?_;rw[<- h4];exact Fx (by omega)
def mJ(C:Addr):Sp:=λvs H Q _=>∃(p dx:Addr) (l:List Nat),vs=[.ref p,.str (stL l)]/\H p=some (.ins C dx [])/\Pla l/\∀(H':Hp),SameB p H H'->RdA C H' p (l.length,0) (mks 0 l)->Q .non H'
theorem yr{C f:Addr}{fd:FuncData}(F:Fun K "__init__" "Reading.__init__" hZ f fd)(T:Txt K mg)(R:QC K mg C){BJ:Addr}{Bh:FuncData}(D5:Cal P w K mg base 3 "marks_of" ["text"] mO BJ Bh):FnOk P w K mg base CX0 4 f fd ["self","text"] (mJ C):=by
 obtain⟨Dz,zf,Ah,CA⟩:=D5;refine F.ok wg (λvs H Q E h=>?_) (λcdv A outer s H vs Q E hr h=>?_)
 ·obtain⟨p,dx,l,rfl,_⟩:=h;rfl
 ·obtain⟨p,dx,l,rfl,h1,hl,k⟩:=h;have big:=sizeLine_eq;have hl2:=hl.2
  refine⟨_,(ae (bi (pv 0) (aq Dz (hr.mono) rfl zf Ah CA .nil ak (aa (pv 1) ad)) rfl)
   (ae (bi (pv 0) (aO ku (by rfl) T.len_ PySem.boot_len (aa (pv 1) ad)) rfl)
   (ae (bi (pv 0) ac rfl)
   (ai (bi (pv 0) ac rfl))))),?_⟩
  refine⟨_,rfl,l,rfl,hl,λpm H1 qs s1 hpm e1 hM=>?_⟩;have hp1:=s1 _ _ h1;have np:pm≠p:=λz=>by rw[z,h1]at hpm;cases hpm
  refine⟨_,rfl,p,C,dx,_,rfl,hp1,R.cl,R.n1,by show 0<1000;decide,?_⟩;refine⟨_,rfl,_,rfl,by rw[aU];omega,_,rfl,p,C,dx,_,rfl,af,R.cl,R.n2,by show 1<1000;decide,?_⟩;rw[cO];refine⟨_,rfl,p,C,dx,_,rfl,af,R.cl,R.n3,jb (n:=999) (jb (n:=998) (by show 0<998;decide)),?_⟩;rw[cO];refine⟨_,rfl,p,C,dx,_,rfl,af,R.cl,R.n4,jb (n:=999) (jb (n:=998) (jb (n:=997) (by show 0<997;decide))),?_⟩;rw[cO];refine k _ (λb o hb eo=>by rw[upd_ne hb];exact s1 _ _ eo) ⟨dx,pm,qs,_,0,?_,by rw[upd_ne np];exact e1,hM.upd_ins hp1,rfl,Fb _,λu hu=>?_⟩
  ·rw[af,aU];rfl
  ·obtain⟨g1,g2,g3⟩:=yR u hu;exact⟨g1,by omega,λc hc=>hl.1 c (g3 c hc)⟩
theorem SameB.trans{p:Addr}{H H1 H2:Hp}(a:SameB p H H1)(b:SameB p H1 H2):SameB p H H2:=λx o hx e=>b x o hx (a x o hx e)
theorem _root_.L2.Same.toB{p:Addr}{H H1:Hp}(a:Same H H1):SameB p H H1:=λx o _ e=>a x o e
theorem SameB.free{p b:Addr}{H H1:Hp}(a:SameB p H H1)(hp:H p≠none)(hb:H1 b=none)(hp1:H1 p≠none):H b=none:=by
 cases e:H b with
 |none=>rfl
 |some o =>
  by_cases z:b=p
  ·subst z;exact absurd hb hp1
  ·rw[a b o z e]at hb;cases hb
theorem RdA.isS{C:Addr}{H:Hp}{p:Addr}{e:Nat×Nat}{us:List Mk}(h:RdA C H p e us):H p≠none:=by obtain⟨dx,pm,qs,ts,d,h1,_⟩:=h;rw[h1];simp
theorem RdA.lst_ne{C:Addr}{H:Hp}{p a:Addr}{e:Nat×Nat}{us:List Mk}{xs:List V}(h:RdA C H p e us)(ha:H a=some (.lst xs)):a≠p:=λz=>by obtain⟨dx,pm,qs,ts,d,h1,_⟩:=h;rw[z,h1]at ha;cases ha
theorem RdA.ins{C:Addr}{H:Hp}{p:Addr}{e:Nat×Nat}{us:List Mk}(h:RdA C H p e us):∃(dx pm:Addr) (d:Int),H p=some (.ins C dx (fdl pm e d)):=by obtain⟨dx,pm,qs,ts,d,h1,_⟩:=h;exact⟨dx,pm,d,h1⟩
theorem XAt.step{CN p:Addr}{E:XK}{H H1:Hp}{n:Nat}(h:XAt CN p E H n)(s:SameB p H H1):XAt CN p E H1 n:=λH' dx s' e=>h H' dx (s.trans s') e
def kZ:Sp:=λvs H Q _=>∃(l:List Nat) (z:Str) (p:Nat->Bool),vs=[.str (stL l),.str z]/\(∀c∈l,c<128)/\l.length<=1000/\SgP z p/\(l=[]->Q (.bl false) H)/\(l≠[]->∀H',Same H H'->Q (.bl (l.all p)) H')
theorem xO{f:Addr}{fd:FuncData}(F:Fun K "made_of" "made_of" gB f fd)(T:Txt K mg):FnOk P w K mg base CX0 1 f fd ["word","signs"] kZ:=by
 refine F.ok vV (λvs H Q E h=>?_) (λcdv A outer s H vs Q E hr h=>?_)
 ·obtain⟨l,z,p,rfl,_⟩:=h;rfl
 ·obtain⟨l,z,p,rfl,ha,hl,hz,k1,k2⟩:=h;have big:=sizeLine_eq;refine⟨_,(ai (ar (bp (bH fE (pv 0) al (aA _)) (bB (aO (Cs (K:=K) rfl rfl) (by rfl) T.all_ PyProof.Rows.boot_all (aa (nE (own:=["sign"]) (fr:=["signs"]) (js:=[1]) (by walk_at "comp_ok") rfl (w6 (pv 0)) (λ_ _ _ _=>(dS (i:=0) (show List.Nodup (["sign","signs"]:List Str)from by decide +kernel) rfl (Or.inl rfl))) (λ_ _ _ _=>(bH nK (pv 0) (pv 1) (by rfl)))) ad)))))),?_⟩;refine aM (aP ⟨_,rfl,rfl,_,rfl,iY (λh0=>?_) (λh0=>?_)⟩)
  rotate_left
  ·have h0':l=[]:=by have:stL l=Str.ofString "":=V.str.inj h0;rw[oC]at this;exact stL_inj.mp this
   exact k1 h0'
  have h0':l≠[]:=λe=>h0 (by rw[e,<- oC])
  have hasc:(stL l).cps.all (·<128)=true:=by rw[show(stL l).cps.all (·<128)=l.all (·<128) by unfold stL;simp,Fg];intro c hc;exact decide_eq_true (ha c hc)
  refine⟨_,rfl,_,rfl,hasc,Cd (λi ys σ' H'=>∃z0:Option V,σ'=[z0,some (.str z)]/\ys=((l.take i).map p).map V.bl/\H=H') (by rw[qR];omega) ⟨none,rfl,rfl,rfl⟩ ?_ ?_ ?_⟩
  ·rintro i ys σ' H' _ ⟨z0,rfl,rfl,rfl⟩;rw[EN,EN,Fq];exact Nat.min_le_left _ _
  ·rintro i c ys σ' H' hc ⟨z0,rfl,rfl,rfl⟩;have hc':l[i]?=some c:=by unfold stL at hc;simpa using hc
   refine⟨_,rfl,_,rfl,_,_,rfl,rfl,_,rfl,?_,rfl⟩;rw[StrLaws.found_one,hz,Fw,hc'];simp
  ·rintro ys σ' H' q ⟨z0,rfl,rfl,rfl⟩ hq;rw[qR,Ft];refine⟨q,l.map p,rfl,SqL.of af,?_⟩;have:=k2 h0' _ (Same.upd_new (o:=.lst ((l.map p).map V.bl)) hq);rw[show(l.map p).all id=l.all p by rw[List.all_map];rfl];exact this
def fC:Sp:=λvs H Q _=>∃l:List Nat,vs=[.str (stL l)]/\(∀c∈l,c<128)/\l.length<=1000/\∀H',Same H H'->Q (.bl (isN l)) H'
theorem xQ{f:Addr}{fd:FuncData}(F:Fun K "is_whole" "is_whole" gC f fd)(T:Txt K mg){o7:Addr}{o0:FuncData}(qe:Cal P w K mg base 1 "made_of" ["word","signs"] kZ o7 o0):FnOk P w K mg base CX0 2 f fd ["word"] fC:=by
 obtain⟨pY,oj,oT,pJ⟩:=qe;obtain⟨tF,hFIGURES⟩:=T.FIGURES_;refine F.ok vW (λvs H Q E h=>?_) (λcdv A outer s H vs Q E hr h=>?_)
 ·obtain⟨l,rfl,_⟩:=h;rfl
 ·obtain⟨l,rfl,ha,hl,k⟩:=h;have big:=sizeLine_eq;refine⟨_,(ai (ar (bp (aq pY (hr.mono) rfl oj oT pJ .nil ak (aa (pv 0) (aa (bR (v:=.str "0123456789") rfl hFIGURES ⟨_,rfl⟩) ad))) (bB (lq (bH cq (pv 0) al (aA _)) (bB (bH fE (ao jx (pv 0) ac (λ_ _=>rfl)) al (aA _)))))))),?_⟩;refine aM (aP ⟨_,rfl,l,_,isD,rfl,ha,hl,tY,λz=>⟨_,rfl,aE ?_⟩,λhn H1 s1=>⟨_,rfl,?_⟩⟩)
  ·subst z;exact k H (Same.refl _)
  have hk:=k H1 s1;cases h0:l.all isD with
  |false =>refine aE ?_;rw[show isN l=false by unfold isN;rw[h0];simp]at hk;exact hk
  |true =>
   refine aB (da ⟨_,rfl,rfl,_,rfl,ap (λh1=>?_) (λh1=>?_)⟩)
   ·have h1':l=[48]:=by have:stL l=Str.ofString "0":=V.str.inj h1;rw[jr]at this;exact stL_inj.mp this
    rw[h1',show isN [48]=true by decide]at hk;exact hk
   ·have h1':l≠[48]:=λz=>h1 (by rw[z,<- jr])
    obtain⟨c,r,rfl⟩:=Fd hn;refine⟨_,rfl,_,_,c,rfl,rfl,by rw[aU];omega,ky (i:=0) rfl rfl,rfl,?_⟩
    have hN:isN (c::r)=decide (c≠48):=by unfold isN;rw[h0,decide_eq_true hn,decide_eq_false h1'];simp
    have hne:(V.str ⟨#[c]⟩=V.str (Str.ofString "0"))↔c=48:=by
     rw[jr];constructor
     ·intro z;have z2:([c]:List Nat)=[48]:=congrArg (λs:Str=>s.cps.toList) (V.str.inj z);exact List.head_eq_of_cons_eq z2
     ·intro z;rw[z];rfl
    rw[hN]at hk;by_cases hc:c=48
    ·rw[decide_eq_true (hne.mpr hc)];rw[decide_eq_false (not_not_intro hc)]at hk;exact hk
    ·rw[decide_eq_false (λz=>hc (hne.mp z))];rw[decide_eq_true hc]at hk;exact hk
theorem cm(a b:List Nat):eqV (.str (stL a)) (.str (stL b))=decide (a=b):=by
 rw[Fj,decide_eq_true_eq];constructor
 ·intro h;have:(stL a == stL b)=true:=h;exact stL_inj.mp (beq_iff_eq.mp this)
 ·intro h;rw[h];show(stL b == stL b)=true;exact beq_self_eq_true _
theorem AH(m:List Nat):inV (.str (stL m)) [.str (Str.ofString "0"),.str (Str.ofString "1"),.str (Str.ofString "2"),.str (Str.ofString "3"),.str (Str.ofString "4"),.str (Str.ofString "5"),.str (Str.ofString "6"),.str (Str.ofString "7"),.str (Str.ofString "8")]=isE m:=by
 have e:([.str (Str.ofString "0"),.str (Str.ofString "1"),.str (Str.ofString "2"),.str (Str.ofString "3"),.str (Str.ofString "4"),.str (Str.ofString "5"),.str (Str.ofString "6"),.str (Str.ofString "7"),.str (Str.ofString "8")]:List V)=[.str (stL [48]),.str (stL [49]),.str (stL [50]),.str (stL [51]),.str (stL [52]),.str (stL [53]),.str (stL [54]),.str (stL [55]),.str (stL [56])]:=by congr 1
 rw[e];show(eqV (.str (stL [48])) (.str (stL m)) || (eqV (.str (stL [49])) (.str (stL m)) || (eqV (.str (stL [50])) (.str (stL m)) || (eqV (.str (stL [51])) (.str (stL m)) || (eqV (.str (stL [52])) (.str (stL m)) || (eqV (.str (stL [53])) (.str (stL m)) || (eqV (.str (stL [54])) (.str (stL m)) || (eqV (.str (stL [55])) (.str (stL m)) || (eqV (.str (stL [56])) (.str (stL m)) ||false)))))))))=_;rw[cm,cm,cm,cm,cm,cm,cm,cm,cm,Fj];unfold isE
 match m with
 | []=>simp
 | [c] =>simp only[Bool.or_eq_true,decide_eq_true_eq,EZ,List.cons.injEq,and_true,FK,List.all_cons,List.all_nil,Bool.and_true,Bool.or_false,true_and];omega
 |a::b::m=>simp
theorem tH:∀m:List Nat,inV (.str (stL m)) [.str (Str.ofString "+"),.str (Str.ofString "-")]=(decide (m=[43]) ||decide (m=[45])):=λm=>by
 rw[iE,jq];show(eqV (.str (stL [43])) (.str (stL m)) || (eqV (.str (stL [45])) (.str (stL m)) ||false))=_;rw[cm,cm,Bool.or_false];have h1:decide ([43]=m)=decide (m=[43]):=by rw[decide_eq_decide];exact eq_comm
 have h2:decide ([45]=m)=decide (m=[45]):=by rw[decide_eq_decide];exact eq_comm
 rw[h1,h2]
def gd(C CN:Addr):Sp:=λvs H Q E=>∃(p:Addr) (e:Nat×Nat) (us:List Mk),vs=[.ref p]/\RdA C H p e us/\(∀u r,us=u::r->isE u.1=true->∀H',SameB p H H'->RdA C H' p e r->Q (.int (NumText.digitsVal u.1:Nat)) H')/\(isE (mhd us)=false->XAt CN p E H (mbg e.1 us))
theorem xH{C CNoText f:Addr}{fd:FuncData}(F:Fun K "read_exponent" "read_exponent" gw f fd)(T:Txt K mg)(R:QC K mg C){bF:Addr}{bE:FuncData}(bA:MCal P w K mg base 1 C "seen" ["self"] (cA C) bF bE){ck:Addr}{cj:FuncData}(bW:MCal P w K mg base 2 C "step" ["self"] (cZ C) ck cj){dk:Addr}{di:FuncData}(dr:MCal P w K mg base 1 C "begin" ["self"] (eI C) dk di){dl:Addr}{dj:FuncData}(C_NoText:XCal P w K mg base 1 CNoText "NoText" "at" ["self","at"] dl dj):FnOk P w K mg base (CXV P w) 3 f fd ["reading"] (gd C CNoText):=by
 obtain⟨bO,bK,bM⟩:=bA;obtain⟨cL,cH,cK⟩:=bW;obtain⟨dn,de,dm⟩:=dr;obtain⟨aEXPONENTS,hEXPONENTS,sEXP⟩:=T.EXPONENTS_;refine F.okV vT (λvs H Q E h=>?_) (λcdv A outer s H vs Q E hr h=>?_)
 ·obtain⟨p,e,us,rfl,_⟩:=h;rfl
 ·obtain⟨p,e,us,rfl,hA,k1,k2⟩:=h;obtain⟨dx,pm,d,h1⟩:=hA.ins
  refine⟨_,(ae (aF (aI (rJ (K:=K) rfl) (ba (pv 0) R.cl bK bO (hr.mono) bM .nil ak) (bR (v:=.ref aEXPONENTS) rfl hEXPONENTS rfl) (by rfl))
   (ai (ip (C:=CNoText) rfl C_NoText.ow PySem.F.excBase_ValueError C_NoText.ok (hr.mono) C_NoText.bd C_NoText.kp (aa (ba (pv 0) R.cl de dn (hr.mono) dm .nil ak) ad)))
   aJ)
   (ai (ar (cv mn (by rfl) T.int_ PyProof.Rows.boot_int (aa (ba (pv 0) R.cl cH cL (hr.mono) cK .nil ak) ad))))),?_⟩
  refine ax ⟨_,rfl,p,dx,_,rfl,h1,bL _ _ _ br.1 br.2.1 br.2.2.1 br.2.2.2,p,e,us,rfl,hA,aEXPONENTS,_,rfl,.inr (sEXP _),rfl,by decide,_,rfl,?_⟩;rw[AH];cases hE:isE (mhd us)with
  |false =>refine aB ?_;exact⟨_,rfl,p,dx,_,rfl,h1,bL _ _ _ bZ.1 bZ.2.1 bZ.2.2.1 bZ.2.2.2,p,e,us,rfl,hA,_,rfl,λd hd=>k2 hE _ d (SameB.new hd) af⟩
  |true =>
   refine aE ?_;cases us with
   |nil=>exact absurd hE (by decide)
   |cons u r =>have hu:=hA.is u (by simp);refine⟨_,rfl,p,dx,_,rfl,h1,bL _ _ _ ci.1 ci.2.1 ci.2.2.1 ci.2.2.2,p,e,u,r,rfl,hA,λH' sb ra=>?_⟩;have hD:=AA (m:=u.1) hE;exact⟨_,(NumText.digitsVal u.1:Nat),rfl,by rw[aU];omega,kt hD.2 hD.1 (by omega),k1 u r rfl hE H' sb ra⟩
def mM(C CN:Addr):Sp:=λvs H Q E=>∃(p:Addr) (e:Nat×Nat) (us:List Mk),vs=[.ref p]/\RdA C H p e us/\(∀k r,aK us=.inr (k,r)->∀H',SameB p H H'->RdA C H' p e r->Q (.int (k:Nat)) H')/\(∀r,aK us=.inl r->XAt CN p E H (mbg e.1 r))
theorem xD{C CNoText f:Addr}{fd:FuncData}(F:Fun K "read_place" "read_place" gt f fd)(T:Txt K mg)(R:QC K mg C){fT:Addr}{fP:FuncData}(fX:MCalV P w K mg base 3 C "demand" ["self","mark"] (gg C CNoText) fT fP){bV:Addr}{bU:FuncData}(bJ:MCal P w K mg base 2 C "passes" ["self","mark"] (cT C) bV bU){fQ:Addr}{fM:FuncData}(fU:CalV P w K mg base 3 "read_exponent" ["reading"] (gd C CNoText) fQ fM):FnOk P w K mg base (CXV P w) 4 f fd ["reading"] (mM C CNoText):=by
 obtain⟨fv,eW,fq⟩:=fX;obtain⟨cc,b0,ca⟩:=bJ;obtain⟨pW,oh,oR,pH⟩:=fU;refine F.okV vQ (λvs H Q E h=>?_) (λcdv A outer s H vs Q E hr h=>?_)
 ·obtain⟨p,e,us,rfl,_⟩:=h;rfl
 ·obtain⟨p,e,us,rfl,hA,k1,k2⟩:=h;obtain⟨dx,pm,d,h1⟩:=hA.ins
  refine⟨_,(ae (cR (cp (pv 0) R.cl eW fv (hr.mono) fq .nil (aV (λ_ _ _ z=>z)) (aa al ad)))
   (ae (aF (bu (cp (pv 0) R.cl b0 cc (hr.mono) ca .nil ak (aa al ad)))
     (ai (ar (aq pW (hr.mono) rfl oh oR pH .nil (aV (λ_ _ _ z=>z)) (aa (pv 0) ad))))
     aJ)
   (ai (ar ac)))),?_⟩
  refine c0 ⟨_,rfl,p,dx,_,rfl,h1,bL _ _ _ cG.1 cG.2.1 cG.2.2.1 cG.2.2.2,p,e,us,[120],by rw[<- om];rfl,hA,by decide,λu r eu em H1 sb1 ra1=>?_,λz=>?_⟩
  rotate_left
  ·refine k2 us ?_;cases us with
   |nil=>rfl
   |cons u r=>simp[aK,show ¬u.1=[120]from z]
  subst eu;obtain⟨dx1,pm1,d1,h11⟩:=ra1.ins;refine ax ⟨_,rfl,p,dx1,_,rfl,h11,bL _ _ _ bD.1 bD.2.1 bD.2.2.1 bD.2.2.2,p,e,r,[94],by rw[<- oF];rfl,ra1,by decide,λv r2 ev em2 H2 sb2 ra2=>⟨_,rfl,aB ?_⟩,λz=>⟨_,rfl,aE ?_⟩⟩
  ·subst ev;have sb:=sb1.trans sb2;refine⟨_,rfl,p,e,r2,rfl,ra2,λw r3 ew hE H3 sb3 ra3=>?_,λhE=>?_⟩
   ·subst ew;exact k1 (NumText.digitsVal w.1) r3 (by simp[aK,em,em2,hE]) H3 (sb.trans sb3) ra3
   ·refine XAt.step (k2 r2 ?_) sb;cases r2 with
    |nil=>simp[aK,em,em2]
    |cons w r3=>simp[aK,em,em2,show isE w.1=false from hE]
  ·refine k1 1 r ?_ H1 sb1 ra1;cases r with
   |nil=>simp[aK,em]
   |cons v r2=>simp[aK,em,show ¬v.1=[94]from z]
theorem ly{n:Nat}(h:n<2^1000):Bits 1000 (n:Int):=by show((n:Int)).natAbs<2^1000;rw[FL];exact h
noncomputable def mono(k:Nat)(v:Int):List Int:=trim (List.replicate k 0++[v])
theorem py(k:Nat)(v:Int)(n:Nat):cf (mono k v) n=if n=k then v else 0:=by
 unfold mono;rw[mj];by_cases h:n<k
 ·rw[ul (by rw[E8];exact h),Cj,if_neg (by omega)]
 ·rw[pB (by rw[E8];omega),E8];by_cases h2:n=k
  ·rw[if_pos h2,h2,Nat.sub_self];rfl
  ·rw[if_neg h2];exact ef (by show 1<=n-k;omega)
theorem lz{k:Nat}(hk:k<=8)(v:Int):(mono k v).length<=9:=by have:=zQ (List.replicate k 0++[v]);rw[ER,E8]at this;have e1:([v]:List Int).length=1:=rfl;unfold mono;omega
def mH(C CN:Addr):Sp:=λvs H Q E=>∃(p:Addr) (e:Nat×Nat) (us:List Mk) (sign:Int),vs=[.ref p,.int sign]/\RdA C H p e us/\(sign=1\/sign = -1)/\(∀n k r,aQ us=.inr (n,k,r)->∀(q:Addr) (H':Hp),SameB p H H'->RdA C H' p e r->H q=none->H' q=some (.lst ((mono k (sign*(n:Nat))).map V.int))->Q (.ref q) H')/\(∀r,aQ us=.inl r->XAt CN p E H (mbg e.1 r))
theorem xz{C CNoText f:Addr}{fd:FuncData}(F:Fun K "read_term" "read_term" gs f fd)(T:Txt K mg)(R:QC K mg C){d9:Addr}{d7:FuncData}(eD:Cal P w K mg base 2 "is_whole" ["word"] fC d9 d7){bF:Addr}{bE:FuncData}(bA:MCal P w K mg base 1 C "seen" ["self"] (cA C) bF bE){ck:Addr}{cj:FuncData}(bW:MCal P w K mg base 2 C "step" ["self"] (cZ C) ck cj){bV:Addr}{bU:FuncData}(bJ:MCal P w K mg base 2 C "passes" ["self","mark"] (cT C) bV bU){BG:Addr}{Be:FuncData}(D2:CalV P w K mg base 4 "read_place" ["reading"] (mM C CNoText) BG Be){o6:Addr}{oZ:FuncData}(qd:Cal P w K mg base 1 "poly" ["row"] (kX K) o6 oZ):FnOk P w K mg base (CXV P w) 5 f fd ["reading","sign"] (mH C CNoText):=by
 obtain⟨kE,jm,jw,kx⟩:=eD;obtain⟨bO,bK,bM⟩:=bA;obtain⟨cL,cH,cK⟩:=bW;obtain⟨cc,b0,ca⟩:=bJ;obtain⟨uN,sA,sX,uA⟩:=D2;obtain⟨kD,jl,jv,kv⟩:=qd;refine F.okV sc_read_term (λvs H Q E h=>?_) (λcdv A outer s H vs Q E hr h=>?_)
 ·obtain⟨p,e,us,sign,rfl,_⟩:=h;rfl
 ·obtain⟨p,e,us,sign,rfl,hA,hsg,k1,k2⟩:=h;have big:=sizeLine_eq;obtain⟨dx,pm,d,h1⟩:=hA.ins
  refine⟨_,(ae (aF (dy (bu (aq kE (hr.mono) rfl jm jw kx .nil ak (aa (ba (pv 0) R.cl bK bO (hr.mono) bM .nil ak) ad))))
   (ai (ar (aq kD (hr.mono) rfl jl jv kv .nil ak (aa (ag cw (ag nG (bf (aa ac ad)) (aq uN (hr.mono) rfl sA sX uA .nil (aV (λ_ _ _ z=>z)) (aa (pv 0) ad))) (bf (aa (pv 1) ad))) ad))))
   aJ)
   (ae (am (i:=2) sc_read_term.nd rfl (Or.inl rfl) (ag dA (pv 1) (cv mn (by rfl) T.int_ PyProof.Rows.boot_int (aa (ba (pv 0) R.cl cH cL (hr.mono) cK .nil ak) ad))))
   (ae (aF (bu (cp (pv 0) R.cl b0 cc (hr.mono) ca .nil ak (aa al ad)))
     (ai (ar (aq kD (hr.mono) rfl jl jv kv .nil ak (aa (ag cw (ag nG (bf (aa ac ad)) (aq uN (hr.mono) rfl sA sX uA .nil (aV (λ_ _ _ z=>z)) (aa (pv 0) ad))) (bf (aa (pv 2) ad))) ad))))
     aJ)
   (ai (ar (aq kD (hr.mono) rfl jl jv kv .nil ak (aa (bf (aa (pv 2) ad)) ad))))))),?_⟩
  have hm:(∀c∈mhd us,c<128)/\(mhd us).length<=1000:=by
   cases us with
   |nil=>exact⟨λc hc=>(nomatch hc),Fb _⟩
   |cons u r =>have hu:=hA.is u (by simp);exact⟨hu.2.2,by show u.1.length<=1000;omega⟩
  refine ax (dR ⟨_,rfl,p,dx,_,rfl,h1,bL _ _ _ br.1 br.2.1 br.2.2.1 br.2.2.2,p,e,us,rfl,hA,mhd us,rfl,hm.1,hm.2,λH1 s1=>⟨_,rfl,?_⟩⟩);have hA1:=hA.same s1;cases hN:isN (mhd us)with
  |false =>
   refine aB ?_
   have tl:∀r,aK us=.inl r->aQ us=.inl r:=λr h=>by
    cases us with
    |nil=>exact(by cases h;rfl)
    |cons u us =>show(if isN u.1=true then _ else _)=_;rw[if_neg (by rw[show isN u.1=false from hN];decide),h]
   have tr:∀k r,aK us=.inr (k,r)->aQ us=.inr (1,k,r):=λk r h=>by
    cases us with
    |nil=>cases h
    |cons u us =>show(if isN u.1=true then _ else _)=_;rw[if_neg (by rw[show isN u.1=false from hN];decide),h]
   refine aM ⟨by show 1<=sizeLine;decide,λp2 hp2=>?_⟩;have u2:=Same.upd_new (o:=.lst [V.int 0]) hp2;have ep2:upd H1 p2 (.lst [V.int 0]) p2=some (.lst [V.int 0]):=af;generalize upd H1 p2 (.lst [V.int 0])=H2 at u2 ep2 ⊢
   have hA2:=hA1.same u2;refine⟨_,rfl,p,e,us,rfl,hA2,λk r hP H3 sb3 ra3=>?_,λr hP=>(k2 r (tl r hP)).step (s1.trans u2).toB⟩;have hk8:=rF hP;have ep3:=sb3 _ _ (hA2.lst_ne ep2) ep2;refine⟨p2,(k:Int),_,rfl,rfl,ep3,by omega,by omega,by rw[FC];show 1*k<=sizeLine;omega,λp4 hp4=>?_⟩;rw[FC,rf];have u4:=Same.upd_new (o:=.lst ((List.replicate k (0:Int)).map V.int)) hp4;have ep4:upd H3 p4 (.lst ((List.replicate k (0:Int)).map V.int)) p4=some (.lst ((List.replicate k (0:Int)).map V.int)):=af;generalize upd H3 p4 (.lst ((List.replicate k (0:Int)).map V.int))=H4 at u4 ep4 ⊢
   refine⟨_,rfl,by show 1<=sizeLine;decide,λp5 hp5=>?_⟩;have u5:=Same.upd_new (o:=.lst [V.int sign]) hp5;have ep5:upd H4 p5 (.lst [V.int sign]) p5=some (.lst [V.int sign]):=af;generalize upd H4 p5 (.lst [V.int sign])=H5 at u5 ep5 ⊢
   refine⟨p4,p5,_,_,rfl,rfl,u5 _ _ ep4,ep5,by rw[EN,E8];show k+1<=sizeLine;omega,λp6 hp6=>?_⟩;rw[show(List.replicate k (0:Int)).map V.int++[V.int sign]=(List.replicate k 0++[sign]).map V.int by rw[EV];rfl];have u6:=Same.upd_new (o:=.lst ((List.replicate k 0++[sign]).map V.int)) hp6;refine⟨p6,_,rfl,SqL.of af,λq H7 s7 hq eq=>?_⟩;have sAll:Same H3 H7:=((u4.trans u5).trans u6).trans s7;have sB:SameB p H H7:=((s1.trans u2).toB.trans sb3).trans sAll.toB;refine k1 1 k r (tr k r hP) q H7 sB (ra3.same sAll) ?_ ?_
   ·have f3:H3 q=none:=((u4.trans u5).trans u6).free hq;exact(s1.trans u2).free (sb3.free hA2.isS f3 ra3.isS)
   ·rw[eq];show _=some (HO.lst ((trim (List.replicate k 0++[sign*((1:Nat):Int)])).map V.int));rw[show sign*((1:Nat):Int)=sign by omega]
  |true =>
   refine aE ?_;cases us with
   |nil=>exact absurd hN (by decide)
   |cons u us =>
   have hN':isN u.1=true:=hN;have hu:=hA.is u (by simp);have hD:=lS hN';obtain⟨dx1,pm1,d1,h11⟩:=hA1.ins;refine ay ⟨_,rfl,_,rfl,p,dx1,_,rfl,h11,bL _ _ _ ci.1 ci.2.1 ci.2.2.1 ci.2.2.2,p,e,u,us,rfl,hA1,λH2 sb2 ra2=>?_⟩;have bsz:Bits 1000 ((NumText.digitsVal u.1:Nat):Int):=ly (dv_bits hD hu.2.1)
   have bsg:Bits 2 sign:=by show sign.natAbs<2^2;rcases hsg with rfl |rfl<;>decide
   refine⟨_,((NumText.digitsVal u.1:Nat):Int),rfl,by rw[aU];omega,kt hD hu.1 (by omega),_,_,rfl,rfl,⟨bsg.mono,bsz.mono⟩,?_⟩;obtain⟨dx2,pm2,d2,h12⟩:=ra2.ins;have hb:SameB p H H2:=s1.toB.trans sb2;generalize hn:NumText.digitsVal u.1=n;refine ax ⟨_,rfl,p,dx2,_,rfl,h12,bL _ _ _ bD.1 bD.2.1 bD.2.2.1 bD.2.2.2,p,e,us,[42],by rw[<- jp];rfl,ra2,by decide,λv r2 ev em H3 sb3 ra3=>⟨_,rfl,aB ?_⟩,λz=>⟨_,rfl,aE ?_⟩⟩
   ·subst ev;have eTl:∀r,aK r2=.inl r->aQ (u::v::r2)=.inl r:=λr h=>by simp only[aQ,hN',em,if_true,h]
    have eTr:∀k r,aK r2=.inr (k,r)->aQ (u::v::r2)=.inr (n,k,r):=λk r h=>by simp only[aQ,hN',em,if_true,h,hn]
    refine aM ⟨by show 1<=sizeLine;decide,λp2 hp2=>?_⟩;have u2:=Same.upd_new (o:=.lst [V.int 0]) hp2;have ep2:upd H3 p2 (.lst [V.int 0]) p2=some (.lst [V.int 0]):=af;generalize upd H3 p2 (.lst [V.int 0])=H4 at u2 ep2 ⊢
    have hA4:=ra3.same u2;have hb4:SameB p H H4:=(hb.trans sb3).trans u2.toB;refine⟨_,rfl,p,e,r2,rfl,hA4,λk r hP H5 sb5 ra5=>?_,λr hP=>(k2 r (eTl r hP)).step hb4⟩;have hk8:=rF hP;have ep3:=sb5 _ _ (hA4.lst_ne ep2) ep2;refine⟨p2,(k:Int),_,rfl,rfl,ep3,by omega,by omega,by rw[FC];show 1*k<=sizeLine;omega,λp4 hp4=>?_⟩;rw[FC,rf];have u4:=Same.upd_new (o:=.lst ((List.replicate k (0:Int)).map V.int)) hp4;have ep4:upd H5 p4 (.lst ((List.replicate k (0:Int)).map V.int)) p4=some (.lst ((List.replicate k (0:Int)).map V.int)):=af;generalize upd H5 p4 (.lst ((List.replicate k (0:Int)).map V.int))=H6 at u4 ep4 ⊢
    refine⟨_,rfl,by show 1<=sizeLine;decide,λp5 hp5=>?_⟩;have u5:=Same.upd_new (o:=.lst [V.int (sign*n)]) hp5;have ep5:upd H6 p5 (.lst [V.int (sign*n)]) p5=some (.lst [V.int (sign*n)]):=af;generalize upd H6 p5 (.lst [V.int (sign*n)])=H7 at u5 ep5 ⊢
    refine⟨p4,p5,_,_,rfl,rfl,u5 _ _ ep4,ep5,by rw[EN,E8];show k+1<=sizeLine;omega,λp6 hp6=>?_⟩;rw[show(List.replicate k (0:Int)).map V.int++[V.int (sign*n)]=(List.replicate k 0++[sign*(n:Int)]).map V.int by rw[EV];rfl];have u6:=Same.upd_new (o:=.lst ((List.replicate k 0++[sign*(n:Int)]).map V.int)) hp6;refine⟨p6,_,rfl,SqL.of af,λq H9 s9 hq eq=>?_⟩;have sAll:Same H5 H9:=((u4.trans u5).trans u6).trans s9;refine k1 n k r (eTr k r hP) q H9 (hb4.trans (sb5.trans sAll.toB)) (ra5.same sAll) ?_ eq;have f5:H5 q=none:=((u4.trans u5).trans u6).free hq;exact hb4.free hA.isS (sb5.free hA4.isS f5 ra5.isS) hA4.isS
   ·have eT:aQ (u::us)=.inr (n,0,us):=by
     cases us with
     |nil=>simp[aQ,hN',hn]
     |cons v r2=>simp[aQ,hN',hn,show ¬v.1=[42]from z]
    refine aM ⟨_,rfl,by show 1<=sizeLine;decide,λp5 hp5=>?_⟩;have u5:=Same.upd_new (o:=.lst [V.int (sign*n)]) hp5;refine⟨p5,[sign*(n:Int)],rfl,SqL.of af,λq H7 s7 hq eq=>?_⟩;have sAll:=u5.trans s7;refine k1 n 0 us eT q H7 (hb.trans sAll.toB) (ra2.same sAll) (hb.free hA.isS (u5.free hq) ra2.isS) ?_;rw[eq];rfl
theorem zS{row:List Int}(ht:Tr row)(h:∀k,9<=k->cf row k=0):row.length<=9:=by
 refine Classical.byContradiction λz=>?_
 exact ht (row.length-1) (by omega) (h _ (by omega))
def TmI(C p:Addr)(e:Nat×Nat)(us0:List Mk)(H:Hp)(m:Nat)(σ':St)(H':Hp):Prop:=∃(q:Addr) (row:List Int) (us:List Mk) (c:Cfg),m=us.length/\σ'=[some (.ref p),some (.ref q)]/\SameB p H H'/\RdA C H' p e us/\H q=none/\H' q=some (.lst (row.map V.int))/\Tr row/\row.length<=9/\(∀n,cf row n=c.fin n)/\Lf2 c.st us/\mgo cfg0 us0=mgo c us
def mG(C CN:Addr):Sp:=λvs H Q E=>∃(p:Addr) (e:Nat×Nat) (us:List Mk),vs=[.ref p]/\RdA C H p e us/\(∀c r,mgo cfg0 us=(c,r)->c.st.opn=false->∀(q:Addr) (H':Hp) (row:List Int),SameB p H H'->RdA C H' p e r->H q=none->H' q=some (.lst (row.map V.int))->Tr row->row.length<=9->(∀n,cf row n=c.fin n)->Q (.ref q) H')/\(∀c r,mgo cfg0 us=(c,r)->c.st.opn=true->XAt CN p E H (mbg e.1 r))
theorem xy{C CNoText f:Addr}{fd:FuncData}(F:Fun K "read_terms" "read_terms" gq f fd)(T:Txt K mg)(R:QC K mg C){BF:Addr}{Bd:FuncData}(D1:CalV P w K mg base 5 "read_term" ["reading","sign"] (mH C CNoText) BF Bd){bV:Addr}{bU:FuncData}(bJ:MCal P w K mg base 2 C "passes" ["self","mark"] (cT C) bV bU){bF:Addr}{bE:FuncData}(bA:MCal P w K mg base 1 C "seen" ["self"] (cA C) bF bE){BM:Addr}{Bk:FuncData}(D8:Cal P w K mg base 2 "added" ["first","second"] (m4 K dG) BM Bk){ck:Addr}{cj:FuncData}(bW:MCal P w K mg base 2 C "step" ["self"] (cZ C) ck cj):FnOk P w K mg base (CXV P w) 6 f fd ["reading"] (mG C CNoText):=by
 obtain⟨uL,sw,sV,uy⟩:=D1;obtain⟨cc,b0,ca⟩:=bJ;obtain⟨bO,bK,bM⟩:=bA;obtain⟨DC,zj,Ak,CD⟩:=D8;obtain⟨cL,cH,cK⟩:=bW;refine F.okV sc_read_terms (λvs H Q E h=>?_) (λcdv A outer s H vs Q E hr h=>?_)
 ·obtain⟨p,e,us,rfl,_⟩:=h;rfl
 ·obtain⟨p,e,us0,rfl,hA,k1,k2⟩:=h;have big:=sizeLine_eq;obtain⟨dx,pm,d,h1⟩:=hA.ins
  have hbad:∀(c:Cfg) (us r:List Mk),mgo cfg0 us0=mgo c us->Bad (mgo c us)/\(mgo c us).2=r->XAt CNoText p E H (mbg e.1 r):=λc us r e1 h=>by rw[<- h.2];exact k2 (mgo c us).1 (mgo c us).2 e1 h.1
  refine⟨_,(ae (am (i:=1) sc_read_terms.nd rfl (Or.inl rfl) (aq uL (hr.mono) rfl sw sV uy .nil (aV (λ_ _ _ z=>z)) (aa (pv 0) (aa (nD (bu (cp (pv 0) R.cl b0 cc (hr.mono) ca .nil ak (aa al ad))) (cD cz ac) ac) ad))))
   (ae (eO PassesOwn.leaving (aI (jg (K:=K) rfl) (ba (pv 0) R.cl bK bO (hr.mono) bM .nil ak) (bj (aa al (aa al ad))) (by rfl))
     (ai (am (i:=1) sc_read_terms.nd rfl (Or.inl rfl) (aq DC (hr.mono) rfl zj Ak CD .nil ak (aa (pv 1) (aa (aq uL (hr.mono) rfl sw sV uy .nil (aV (λ_ _ _ z=>z)) (aa (pv 0) (aa (nD (aI cq (ba (pv 0) R.cl cH cL (hr.mono) cK .nil ak) al (aA _)) ac (cD cz ac)) ad))) ad))))))
   (ai (ar (pv 1))))),?_⟩
  refine eM (λσ' H'=>∃m,TmI C p e us0 H m σ' H') ?_ (λrest=>?_)
  rotate_left
  ·refine cg ⟨_,rfl,_,rfl,p,dx,_,rfl,h1,bL _ _ _ bD.1 bD.2.1 bD.2.2.1 bD.2.2.2,p,e,us0,[45],by rw[<- jq];rfl,hA,by decide,λu r eu em H1 sb ra=>⟨_,rfl,aB ?_⟩,λh4=>⟨_,rfl,aE ?_⟩⟩
   ·subst eu;have e1:=tX (us:=r) em;have G:=fw (c:=⟨.p1,λ_=>0,-1,0,0⟩) (us:=r) (.inl rfl) rfl;refine⟨_,rfl,p,e,r,-1,rfl,ra,.inr rfl,λn k r2 hP q H' sb' ra' hq eq=>?_,λr2 hP=>(hbad _ _ _ e1 (G.1 r2 hP)).step sb⟩;obtain⟨s',hl,h8,e2⟩:=G.2 n k r2 hP;exact rest _ _ ⟨_,q,_,r2,_,rfl,rfl,sb.trans sb',ra',sb.free hA.isS hq ra.isS,eq,fY _,lz h8 _,λm=>by rw[py];show _=0+_;rw[Int.zero_add],hl,e1.trans e2⟩
   ·have G:=fw (c:=cfg0) (us:=us0) (.inr ⟨rfl,h4⟩) rfl;refine⟨p,e,us0,1,rfl,hA,.inl rfl,λn k r2 hP q H' sb' ra' hq eq=>?_,λr2 hP=>hbad _ _ _ rfl (G.1 r2 hP)⟩;obtain⟨s',hl,h8,e2⟩:=G.2 n k r2 hP;exact rest _ _ ⟨_,q,_,r2,_,rfl,rfl,sb',ra',hq,eq,fY _,lz h8 _,λm=>by rw[py];show _=0+_;rw[Int.zero_add];rfl,hl,e2⟩
  rintro σ' H1 ⟨m0,hI⟩;refine⟨λm σ' H'=>TmI C p e us0 H m σ' H',⟨m0,hI⟩,?_⟩;clear hI;rintro m σ' H2 ⟨q,row,us,c,rfl,rfl,sb2,ra2,hq,eq,trr,hr9,hcf,hl,hgo⟩;obtain⟨dx2,pm2,d2,h12⟩:=ra2.ins;refine⟨_,rfl,p,dx2,_,rfl,h12,bL _ _ _ br.1 br.2.1 br.2.2.1 br.2.2.2,p,e,us,rfl,ra2,by show 2<=sizeLine;decide,λpt hpt=>?_⟩;have u3:=Same.upd_new (o:=.tup [V.str (Str.ofString "+"),V.str (Str.ofString "-")]) hpt;refine⟨pt,_,rfl,.inr (SqT.of af),rfl,by decide,_,rfl,?_⟩;generalize upd H2 pt (.tup [V.str (Str.ofString "+"),V.str (Str.ofString "-")])=H3 at u3 ⊢
  have ra3:=ra2.same u3;have sb3:SameB p H H3:=sb2.trans u3.toB;have eq3:=u3 _ _ eq;obtain⟨L1,L2'⟩:=iG hl;show if(inV (.str (stL (mhd us))) [.str (Str.ofString "+"),.str (Str.ofString "-")])=true then _ else _
  rw[tH];by_cases hs:mhd us=[43]\/mhd us=[45]
  rotate_left
  ·have hs1:mhd us≠[43]:=λz=>hs (.inl z)
   have hs2:mhd us≠[45]:=λz=>hs (.inr z)
   rw[decide_eq_false hs1,decide_eq_false hs2];refine aE ?_;have e9:=L2' hs1 hs2;exact⟨_,rfl,k1 c us (hgo.trans e9) (oK hl) q H3 row sb3 ra3 hq eq3 trr hr9 hcf⟩
  rw[show(decide (mhd us=[43]) ||decide (mhd us=[45]))=true by rcases hs with z |z<;>simp[z]];refine aB ?_;cases us with
  |nil=>rcases hs with z |z<;>cases z
  |cons u us =>
  have hs':u.1=[43]\/u.1=[45]:=hs;have e4:=hgo.trans (L1 u us rfl hs');refine⟨λσ'' H''=>∃m',m'<(u::us).length/\TmI C p e us0 H m' σ'' H'',λ_ _ h=>h,?_⟩;obtain⟨dx3,pm3,d3,h13⟩:=ra3.ins;have G:=fw (c:=⟨.p1,c.fin,if u.1=[45]then -1 else 1,0,0⟩) (us:=us) (.inl rfl) rfl;refine cg ⟨_,rfl,_,rfl,_,rfl,p,dx3,_,rfl,h13,bL _ _ _ ci.1 ci.2.1 ci.2.2.1 ci.2.2.2,p,e,u,us,rfl,ra3,λH4 sb4 ra4=>⟨rfl,_,rfl,?_⟩⟩;have eq4:=sb4 _ _ (ra3.lst_ne eq3) eq3;have sbb:=sb3.trans sb4
  have fin:∀(sg:Int),(if u.1=[45]then -1 else 1)=sg->∀n k r2,aQ us=.inr (n,k,r2)->∀(q2:Addr) (H5:Hp),SameB p H4 H5->RdA C H5 p e r2->H4 q2=none->H5 q2=some (.lst ((mono k (sg*(n:Nat))).map V.int))->∀(q3:Addr) (H6:Hp),Same H5 H6->H5 q3=none->H6 q3=some (.lst ((dG row (mono k (sg*(n:Nat)))).map V.int))->∃m',m'<(u::us).length/\TmI C p e us0 H m' [some (.ref p),some (.ref q3)] H6:=λsg hsg n k r2 hP q2 H5 sb5 ra5 hq2 eq2 q3 H6 s6 hq3 eq6=>by
   obtain⟨s',hl',h8,e5⟩:=G.2 n k r2 hP;have hlt:=xl hP;refine⟨r2.length,by rw[E1];omega,q3,_,r2,_,rfl,rfl,(sbb.trans sb5).trans s6.toB,ra5.same s6,?_,eq6,fY _,?_,λm=>?_,hl',e4.trans e5⟩
   ·exact sbb.free hA.isS (sb5.free ra4.isS hq3 ra5.isS) ra4.isS
   ·refine zS (fY _) λj hj=>?_
    have m9:=lz h8 (sg*(n:Nat));show cf (dG _ _) j=0;rw[um,ef (by omega),ef (by omega)];rfl
   ·show cf (dG _ _) m=c.fin m+_;rw[um,hcf,py,<- hsg]
  have m9:∀k v,k<=8->(mono k v).length<=1000000:=λk v h=>by have:=lz h v;omega
  by_cases hn:u.1=[45]
  ·rw[hn];refine ap (λz=>absurd (stL_inj.mp ((V.str.inj z).trans iE)) (by decide)) (λ_=>?_);refine⟨_,rfl,p,e,us,-1,rfl,ra4,.inr rfl,λn k r2 hP q2 H5 sb5 ra5 hq2 eq2=>?_,λr2 hP=>(hbad _ _ _ e4 (G.1 r2 hP)).step sbb⟩;obtain⟨_,_,h8,_⟩:=G.2 n k r2 hP;exact⟨q,q2,row,_,rfl,SqL.of (sb5 _ _ (ra4.lst_ne eq4) eq4),SqL.of eq2,by omega,m9 _ _ h8,λq3 H6 s6 hq3 eq6=>fin (-1) (by rw[if_pos hn]) n k r2 hP q2 H5 sb5 ra5 hq2 eq2 q3 H6 s6 hq3 eq6⟩
  ·have hp:=hs'.resolve_right hn;rw[hp];refine ap (λ_=>?_) (λz=>absurd (by rw[<- iE]) z);refine⟨p,e,us,1,rfl,ra4,.inl rfl,λn k r2 hP q2 H5 sb5 ra5 hq2 eq2=>?_,λr2 hP=>(hbad _ _ _ e4 (G.1 r2 hP)).step sbb⟩;obtain⟨_,_,h8,_⟩:=G.2 n k r2 hP;exact⟨q,q2,row,_,rfl,SqL.of (sb5 _ _ (ra4.lst_ne eq4) eq4),SqL.of eq2,by omega,m9 _ _ h8,λq3 H6 s6 hq3 eq6=>fin 1 (by rw[if_neg hn]) n k r2 hP q2 H5 sb5 ra5 hq2 eq2 q3 H6 s6 hq3 eq6⟩
def sp2:Sp:=λvs H Q _=>∃a b:Int,vs=[.int a,.int b]/\Q (.int (Nat.gcd a.natAbs b.natAbs:Nat)) H
theorem mq(i:Int):(if i<0 then -i else i)=(i.natAbs:Int):=by split<;>omega
theorem xv{f:Addr}{fd:FuncData}(F:Fun K "shared_by_two" "shared_by_two" gl f fd)(T:Txt K mg):FnOk P w K mg base CX0 1 f fd ["one","other"] sp2:=by
 refine F.ok sc_shared_by_two (λvs H Q E h=>?_) (λcdv A outer s H vs Q E hr h=>?_)
 ·obtain⟨a,b,rfl,_⟩:=h;rfl
 ·obtain⟨a,b,rfl,k⟩:=h
  refine⟨_,(ae (am (i:=2) sc_shared_by_two.nd rfl (Or.inl rfl) (aO uq (by rfl) T.abs_ PyProof.Rows.boot_abs (aa (pv 0) ad)))
   (ae (am (i:=3) sc_shared_by_two.nd rfl (Or.inl rfl) (aO uq (by rfl) T.abs_ PyProof.Rows.boot_abs (aa (pv 1) ad)))
   (ae (eO PassesOwn.never (aI xr (pv 3) ac (aA _))
     (ae (am (i:=4) sc_shared_by_two.nd rfl (Or.inl rfl) (ag aH (pv 2) (pv 3)))
       (ae (am (i:=2) sc_shared_by_two.nd rfl (Or.inl rfl) (pv 3))
       (ai (am (i:=3) sc_shared_by_two.nd rfl (Or.inl rfl) (pv 4))))))
   (ai (ar (pv 2)))))),?_⟩
  refine⟨_,rfl,_,rfl,?_⟩;refine⟨_,rfl,_,rfl,?_⟩;refine⟨λm σ' H'=>∃(x y:Int) (z:Option V),σ'=[some (.int a),some (.int b),some (.int x),some (.int y),z]/\H=H'/\0<=x/\0<=y/\y.natAbs=m/\Nat.gcd x.natAbs y.natAbs=Nat.gcd a.natAbs b.natAbs,⟨_,_,_,none,rfl,rfl,?_,?_,rfl,?_⟩,?_⟩
  ·rw[mq];exact Int.natCast_nonneg _
  ·rw[mq];exact Int.natCast_nonneg _
  ·rw[mq,mq,FL,FL]
  ·rintro m σ' H' ⟨x,y,z,rfl,rfl,hx,hy,rfl,hg⟩;refine⟨_,rfl,_,_,rfl,rfl,_,rfl,?_⟩;refine iY (λhn=>?_) (λh0=>?_)
   ·have hp:0<y:=by have:y≠0:=hn;omega
    refine⟨λσ'' H''=>∃m',m'<y.natAbs/\∃(x' y':Int) (z:Option V),σ''=[some (.int a),some (.int b),some (.int x'),some (.int y'),z]/\H=H''/\0<=x'/\0<=y'/\y'.natAbs=m'/\Nat.gcd x'.natAbs y'.natAbs=Nat.gcd a.natAbs b.natAbs,λ_ _ h=>h,?_⟩;refine⟨_,rfl,_,rfl,_,_,rfl,rfl,hp,?_⟩;refine⟨_,rfl,?_⟩;refine⟨_,rfl,?_⟩;have h1:=Int.emod_nonneg x (Int.ne_of_gt hp);have h2:=Int.emod_lt_of_pos x hp;exact⟨(x%y).natAbs,by omega,y,x%y,_,rfl,rfl,hy,h1,rfl,by rw[AY hx hp];exact hg⟩
   ·refine⟨_,rfl,?_⟩;have e:(y:Int)=0:=h0;subst e
    have e2:(x:Int)=((Nat.gcd a.natAbs b.natAbs:Nat):Int):=by rw[<- hg];show x=((Nat.gcd x.natAbs 0:Nat):Int);rw[Nat.gcd_zero_right];omega
    rw[e2];exact k
noncomputable def fJ(t b:Int):List (Str×V):=aL "bottom" (.int b) (aL "top" (.int t) [])
theorem vp:¬(("top":Str)="bottom"):=by decide +kernel
theorem oW(t b:Int):(fJ t b).lookup ("bottom":Str)=some (.int b):=by unfold fJ;rw[bg,if_pos rfl]
theorem tW(t b:Int):(fJ t b).lookup ("top":Str)=some (.int t):=by unfold fJ;rw[bg,if_neg vp,bg,if_pos rfl]
structure RCI(K:PySem.W.Frag)(mg:Str->Option Value)(C:Addr):Prop where
 cl:Cls K C
 nT:NoAttr K C "top"
 nB:NoAttr K C "bottom"
 mg:mg "Ratio"=some (.ref C)
 ha:PySem.W.findIn K (.ref C) "__class__"=some (some (.builtin "object.__class__"))
 hn:PySem.W.specialIn K (.builtin "object.__class__") "__get__"=some (some (.builtin "getset_descriptor.__get__"))
 ht:PySem.W.takesIn K (.builtin "object.__class__")=some true
 hm:PySem.W.mroIn K C (.type "object")=some true
def RA(C:Addr)(H:Hp)(p:Addr)(t b:Int):Prop:=∃dx,H p=some (.ins C dx (fJ t b))
theorem RA.same{C:Addr}{H H':Hp}{p:Addr}{t b:Int}(h:RA C H p t b)(s:Same H H'):RA C H' p t b:=let⟨dx,e⟩:=h;⟨dx,s _ _ e⟩
def lb(C:Addr):Sp:=λvs H Q _=>∃(p dx:Addr) (t b:Int),vs=[.ref p,.int t,.int b]/\H p=some (.ins C dx [])/\b≠0/\Bits 9000 b/\Q .non (upd H p (.ins C dx (fJ (rt t b) (rb t b))))
theorem ss{C:Addr}{H1:Hp}{q:Addr->Hp->Prop}{E:XK}{t b:Int}(hb:b≠0)(bb:Bits 9000 b)(h:∀(x:Addr) (H':Hp),Same H1 H'->H1 x=none->RA C H' x (rt t b) (rb t b)->q x H'):∀x dx:Addr,H1 x=none->H1 dx=none->dx≠x->lb C (.ref x::([.int t,.int b]++[])) (upd (upd H1 dx (.own x)) x (.ins C dx [])) (λv H2=>v=.non/\q x H2) E:=λx dx nx ndx ne=>by
 refine⟨x,dx,t,b,rfl,af,hb,bb,rfl,?_⟩;rw[cO]
 have s0:Same H1 (upd (upd H1 dx (.own x)) x (.ins C dx (fJ (rt t b) (rb t b)))):=λc o e=>by rw[upd_ne (aX e nx),upd_ne (aX e ndx)];exact e
 exact h x _ s0 nx ⟨dx,af⟩
theorem dv_bits{t b:Int}(hb:b≠0)(bb:Bits 9000 b):Bits 9000 (dv t b):=bb.of_le (by rw[kf];exact Nat.le_of_dvd (Int.natAbs_pos.mpr hb) (Nat.gcd_dvd_right _ _))
theorem yt{C f:Addr}{dV:Value}{fd:FuncData}(F:FunD K "__init__" "Ratio.__init__" ia dV f fd)(T:Txt K mg)(R:RCI K mg C){BB:Addr}{A9:FuncData}(DX:Cal P w K mg base 1 "shared_by_two" ["one","other"] sp2 BB A9):FnOk P w K mg base CX0 2 f fd ["self","top","bottom"] (lb C):=by
 obtain⟨Du,za,Ac,Cu⟩:=DX;refine F.ok sc_Ratio___init__ (λvs H Q E h=>?_) (λcdv A outer s H vs Q E hr h=>?_)
 ·obtain⟨p,dx,t,b,rfl,_⟩:=h;rfl
 ·obtain⟨p,dx,t,b,rfl,hp,hb,bb,k⟩:=h
  refine⟨_,(ae (aF (aI bS (pv 2) ac (aA _))
   (ai wT)
   aJ)
   (ae (am (i:=3) sc_Ratio___init__.nd rfl (Or.inl rfl) (aq Du (hr.mono) rfl za Ac Cu .nil ak (aa (pv 1) (aa (pv 2) ad))))
   (ae (aF (aI eU (pv 2) ac (aA _))
     (ai (am (i:=3) sc_Ratio___init__.nd rfl (Or.inl rfl) (cD cz (pv 3))))
     aJ)
   (ae (bi (pv 0) (ag rK (pv 1) (pv 3)) rfl)
   (ai (bi (pv 0) (ag rK (pv 2) (pv 3)) rfl)))))),?_⟩
  refine ax ⟨_,rfl,_,_,rfl,rfl,_,rfl,ap (λh=>absurd h hb) (λ_=>?_)⟩;refine ay ⟨_,rfl,_,rfl,t,b,rfl,?_⟩;refine rj (λσ' H'=>H=H'/\σ'=[some (.ref p),some (.int t),some (.int b),some (.int (dv t b))]) ?_ ?_
  ·rintro σ' H' ⟨rfl,rfl⟩;refine⟨_,rfl,_,rfl,_,_,rfl,rfl,⟨mf hb,dv_bits hb bb⟩,_,rfl,p,C,dx,_,rfl,hp,R.cl,R.nT,by show 0<1000;decide,?_⟩;refine⟨_,rfl,_,rfl,_,_,rfl,rfl,⟨mf hb,dv_bits hb bb⟩,_,rfl,p,C,dx,_,rfl,af,R.cl,R.nB,by show 1<1000;decide,?_⟩;show Q .non (upd (upd H p _) p _);rw[cO];exact k
  ·intro rest;refine⟨_,rfl,_,_,rfl,rfl,_,rfl,?_⟩;refine ap (λh=>?_) (λh=>?_)
   ·refine⟨_,rfl,_,rfl,rest _ _ ⟨rfl,?_⟩⟩;have e:dv t b = -((Nat.gcd t.natAbs b.natAbs:Nat):Int):=by unfold dv;rw[if_pos h]
    rw[e];rfl
   ·refine rest _ _ ⟨rfl,?_⟩;have e:dv t b=((Nat.gcd t.natAbs b.natAbs:Nat):Int):=by unfold dv;rw[if_neg h]
    rw[e];rfl
theorem yf{CWhole f:Addr}{fd:FuncData}(F:Fun K "__init__" "Whole.__init__" gT f fd)(T:Txt K mg)(R:PCI K mg CWhole "Whole" ["value"]):FnOk P w K mg base CX0 1 f fd ["self","value"] (cn CWhole "value"):=by
 refine F.ok v4 (λvs H Q E h=>?_) (λcdv A outer s H vs Q E hr h=>?_)
 ·obtain⟨x,dx,a,rfl,_⟩:=h;rfl
 ·obtain⟨x,dx,a,rfl,h1,k⟩:=h;refine⟨_,(ai (bi (pv 0) (pv 1) rfl)),?_⟩;exact⟨_,rfl,_,rfl,x,CWhole,dx,_,rfl,h1,R.cl,R.na _ (by simp),by show 0<1000;decide,k⟩
theorem yx{CNamed f:Addr}{fd:FuncData}(F:Fun K "__init__" "Named.__init__" ig f fd)(T:Txt K mg)(R:PCI K mg CNamed "Named" ["word"]):FnOk P w K mg base CX0 1 f fd ["self","word"] (cn CNamed "word"):=by
 refine F.ok wn (λvs H Q E h=>?_) (λcdv A outer s H vs Q E hr h=>?_)
 ·obtain⟨x,dx,a,rfl,_⟩:=h;rfl
 ·obtain⟨x,dx,a,rfl,h1,k⟩:=h;refine⟨_,(ai (bi (pv 0) (pv 1) rfl)),?_⟩;exact⟨_,rfl,_,rfl,x,CNamed,dx,_,rfl,h1,R.cl,R.na _ (by simp),by show 0<1000;decide,k⟩
structure GCI(K:PySem.W.Frag)(mg:Str->Option Value)(CGiven:Addr):Prop where
 cl:Cls K CGiven
 nP:NoAttr K CGiven "poly"
 nL:NoAttr K CGiven "low"
 nH:NoAttr K CGiven "high"
 mg:mg "Given"=some (.ref CGiven)
 ha:PySem.W.findIn K (.ref CGiven) "__class__"=some (some (.builtin "object.__class__"))
 hn:PySem.W.specialIn K (.builtin "object.__class__") "__get__"=some (some (.builtin "getset_descriptor.__get__"))
 ht:PySem.W.takesIn K (.builtin "object.__class__")=some true
 hm:PySem.W.mroIn K CGiven (.type "object")=some true
noncomputable def dh(p l h:Addr):List (Str×V):=aL "high" (.ref h) (aL "low" (.ref l) (aL "poly" (.ref p) []))
theorem xa:¬(("poly":Str)="high"):=by decide +kernel
theorem wX:¬(("poly":Str)="low"):=by decide +kernel
theorem zP:¬(("low":Str)="high"):=by decide +kernel
theorem A7(p l h:Addr):(dh p l h).lookup ("high":Str)=some (.ref h):=by unfold dh;rw[bg,if_pos rfl]
theorem A6(p l h:Addr):(dh p l h).lookup ("low":Str)=some (.ref l):=by unfold dh;rw[bg,if_neg zP,bg,if_pos rfl]
theorem oX(p l h:Addr):(dh p l h).lookup ("poly":Str)=some (.ref p):=by unfold dh;rw[bg,if_neg xa,bg,if_neg wX,bg,if_pos rfl]
def GA(CGiven:Addr)(H:Hp)(x p l h:Addr):Prop:=∃dx,H x=some (.ins CGiven dx (dh p l h))
theorem GA.same{CGiven:Addr}{H H':Hp}{x p l h:Addr}(n:GA CGiven H x p l h)(s:Same H H'):GA CGiven H' x p l h:=let⟨dx,e⟩:=n;⟨dx,s _ _ e⟩
def mT(CGiven:Addr):Sp:=λvs H Q _=>∃(x dx r l h:Addr) (ns:List V),vs=[.ref x,.ref r,.ref l,.ref h]/\H x=some (.ins CGiven dx [])/\H r=some (.lst ns)/\∀p,H p=none->Q .non (upd (upd H p (.lst ns)) x (.ins CGiven dx (dh p l h)))
theorem yA{CGiven f:Addr}{fd:FuncData}(F:Fun K "__init__" "Given.__init__" ik f fd)(T:Txt K mg)(RG:GCI K mg CGiven):FnOk P w K mg base CX0 1 f fd ["self","row","low","high"] (mT CGiven):=by
 refine F.ok wt (λvs H Q E h=>?_) (λcdv A outer s H vs Q E hr h=>?_)
 ·obtain⟨x,dx,r,l,h,ns,rfl,_⟩:=h;rfl
 ·obtain⟨x,dx,r,l,h,ns,rfl,hx,hR,k⟩:=h
  refine⟨_,(ae (bi (pv 0) (cv (Cp (K:=K) rfl) (by rfl) T.list_ PyProof.Rows.boot_list (aa (pv 1) ad)) rfl)
   (ae (bi (pv 0) (pv 2) rfl)
   (ai (bi (pv 0) (pv 3) rfl)))),?_⟩
  refine⟨_,rfl,r,_,rfl,.inl (SqL.of hR),λp hp=>?_⟩;have npx:x≠p:=aX hx hp;refine⟨_,rfl,x,CGiven,dx,_,rfl,by rw[upd_ne npx];exact hx,RG.cl,RG.nP,by show 0<1000;decide,?_⟩;refine⟨_,rfl,_,rfl,x,CGiven,dx,_,rfl,af,RG.cl,RG.nL,by show 1<1000;decide,?_⟩;refine⟨_,rfl,_,rfl,x,CGiven,dx,_,rfl,af,RG.cl,RG.nH,by show 2<1000;decide,?_⟩;show Q .non (upd (upd (upd (upd H p _) x _) x _) x _);rw[cO,cO];exact k p hp
theorem yy{CMinus f:Addr}{fd:FuncData}(F:Fun K "__init__" "Minus.__init__" ii f fd)(T:Txt K mg)(R:PCI K mg CMinus "Minus" ["one"]):FnOk P w K mg base CX0 1 f fd ["self","one"] (cn CMinus "one"):=by
 refine F.ok wo (λvs H Q E h=>?_) (λcdv A outer s H vs Q E hr h=>?_)
 ·obtain⟨x,dx,a,rfl,_⟩:=h;rfl
 ·obtain⟨x,dx,a,rfl,h1,k⟩:=h;refine⟨_,(ai (bi (pv 0) (pv 1) rfl)),?_⟩;exact⟨_,rfl,_,rfl,x,CMinus,dx,_,rfl,h1,R.cl,R.na _ (by simp),by show 0<1000;decide,k⟩
theorem yh{CSum f:Addr}{fd:FuncData}(F:Fun K "__init__" "Sum.__init__" gW f fd)(T:Txt K mg)(R:PCI K mg CSum "Sum" ["one","other"]):FnOk P w K mg base CX0 1 f fd ["self","one","other"] (aY CSum "one" "other"):=by
 refine F.ok v6 (λvs H Q E h=>?_) (λcdv A outer s H vs Q E hr h=>?_)
 ·obtain⟨x,dx,a,b,rfl,_⟩:=h;rfl
 ·obtain⟨x,dx,a,b,rfl,h1,k⟩:=h
  refine⟨_,(ae (bi (pv 0) (pv 1) rfl)
   (ai (bi (pv 0) (pv 2) rfl))),?_⟩
  refine⟨_,rfl,_,rfl,x,CSum,dx,_,rfl,h1,R.cl,R.na _ (by simp),by show 0<1000;decide,?_⟩;refine⟨_,rfl,_,rfl,x,CSum,dx,_,rfl,af,R.cl,R.na _ (by simp),by show 1<1000;decide,?_⟩;rw[cO];exact k
theorem yz{CLess f:Addr}{fd:FuncData}(F:Fun K "__init__" "Less.__init__" ij f fd)(T:Txt K mg)(R:PCI K mg CLess "Less" ["one","other"]):FnOk P w K mg base CX0 1 f fd ["self","one","other"] (aY CLess "one" "other"):=by
 refine F.ok wq (λvs H Q E h=>?_) (λcdv A outer s H vs Q E hr h=>?_)
 ·obtain⟨x,dx,a,b,rfl,_⟩:=h;rfl
 ·obtain⟨x,dx,a,b,rfl,h1,k⟩:=h
  refine⟨_,(ae (bi (pv 0) (pv 1) rfl)
   (ai (bi (pv 0) (pv 2) rfl))),?_⟩
  refine⟨_,rfl,_,rfl,x,CLess,dx,_,rfl,h1,R.cl,R.na _ (by simp),by show 0<1000;decide,?_⟩;refine⟨_,rfl,_,rfl,x,CLess,dx,_,rfl,af,R.cl,R.na _ (by simp),by show 1<1000;decide,?_⟩;rw[cO];exact k
theorem yg{CTimes f:Addr}{fd:FuncData}(F:Fun K "__init__" "Times.__init__" gU f fd)(T:Txt K mg)(R:PCI K mg CTimes "Times" ["one","other"]):FnOk P w K mg base CX0 1 f fd ["self","one","other"] (aY CTimes "one" "other"):=by
 refine F.ok v5 (λvs H Q E h=>?_) (λcdv A outer s H vs Q E hr h=>?_)
 ·obtain⟨x,dx,a,b,rfl,_⟩:=h;rfl
 ·obtain⟨x,dx,a,b,rfl,h1,k⟩:=h
  refine⟨_,(ae (bi (pv 0) (pv 1) rfl)
   (ai (bi (pv 0) (pv 2) rfl))),?_⟩
  refine⟨_,rfl,_,rfl,x,CTimes,dx,_,rfl,h1,R.cl,R.na _ (by simp),by show 0<1000;decide,?_⟩;refine⟨_,rfl,_,rfl,x,CTimes,dx,_,rfl,af,R.cl,R.na _ (by simp),by show 1<1000;decide,?_⟩;rw[cO];exact k
theorem yv{COver f:Addr}{fd:FuncData}(F:Fun K "__init__" "Over.__init__" ic f fd)(T:Txt K mg)(R:PCI K mg COver "Over" ["one","other"]):FnOk P w K mg base CX0 1 f fd ["self","one","other"] (aY COver "one" "other"):=by
 refine F.ok wk (λvs H Q E h=>?_) (λcdv A outer s H vs Q E hr h=>?_)
 ·obtain⟨x,dx,a,b,rfl,_⟩:=h;rfl
 ·obtain⟨x,dx,a,b,rfl,h1,k⟩:=h
  refine⟨_,(ae (bi (pv 0) (pv 1) rfl)
   (ai (bi (pv 0) (pv 2) rfl))),?_⟩
  refine⟨_,rfl,_,rfl,x,COver,dx,_,rfl,h1,R.cl,R.na _ (by simp),by show 0<1000;decide,?_⟩;refine⟨_,rfl,_,rfl,x,COver,dx,_,rfl,af,R.cl,R.na _ (by simp),by show 1<1000;decide,?_⟩;rw[cO];exact k
theorem yu{CPower f:Addr}{fd:FuncData}(F:Fun K "__init__" "Power.__init__" ib f fd)(T:Txt K mg)(R:PCI K mg CPower "Power" ["one","power"]):FnOk P w K mg base CX0 1 f fd ["self","one","exponent"] (aY CPower "one" "power"):=by
 refine F.ok wj (λvs H Q E h=>?_) (λcdv A outer s H vs Q E hr h=>?_)
 ·obtain⟨x,dx,a,b,rfl,_⟩:=h;rfl
 ·obtain⟨x,dx,a,b,rfl,h1,k⟩:=h
  refine⟨_,(ae (bi (pv 0) (pv 1) rfl)
   (ai (bi (pv 0) (pv 2) rfl))),?_⟩
  refine⟨_,rfl,_,rfl,x,CPower,dx,_,rfl,h1,R.cl,R.na _ (by simp),by show 0<1000;decide,?_⟩;refine⟨_,rfl,_,rfl,x,CPower,dx,_,rfl,af,R.cl,R.na _ (by simp),by show 1<1000;decide,?_⟩;rw[cO];exact k
theorem yi{CRooted f:Addr}{fd:FuncData}(F:Fun K "__init__" "Rooted.__init__" gX f fd)(T:Txt K mg)(R:PCI K mg CRooted "Rooted" ["one","power"]):FnOk P w K mg base CX0 1 f fd ["self","one","exponent"] (aY CRooted "one" "power"):=by
 refine F.ok v7 (λvs H Q E h=>?_) (λcdv A outer s H vs Q E hr h=>?_)
 ·obtain⟨x,dx,a,b,rfl,_⟩:=h;rfl
 ·obtain⟨x,dx,a,b,rfl,h1,k⟩:=h
  refine⟨_,(ae (bi (pv 0) (pv 1) rfl)
   (ai (bi (pv 0) (pv 2) rfl))),?_⟩
  refine⟨_,rfl,_,rfl,x,CRooted,dx,_,rfl,h1,R.cl,R.na _ (by simp),by show 0<1000;decide,?_⟩;refine⟨_,rfl,_,rfl,x,CRooted,dx,_,rfl,af,R.cl,R.na _ (by simp),by show 1<1000;decide,?_⟩;rw[cO];exact k
structure TC where
 wh:Addr
 na:Addr
 gi:Addr
 mi:Addr
 su:Addr
 le:Addr
 ti:Addr
 ov:Addr
 po:Addr
 ro:Addr
 ra:Addr
noncomputable def f1(a:Str)(x:V):List (Str×V):=aL a x []
noncomputable def f2(a b:Str)(x y:V):List (Str×V):=aL b y (aL a x [])
noncomputable def PtH(tc:TC)(av:Addr)(H:Hp):PT->Addr->Prop
 |.whole n,q=>q≠av/\∃dx,H q=some (.ins tc.wh dx (f1 "value" (.int (n:Int))))
 |.named w,q=>q≠av/\∃dx,H q=some (.ins tc.na dx (f1 "word" (.str (stL w))))
 |.given kp l h,q=>q≠av/\∃dx pk pl ph,H q=some (.ins tc.gi dx (dh pk pl ph))/\pk≠av/\H pk=some (.lst (kp.map V.int))/\pl≠av/\RA tc.ra H pl (rt l.1 l.2) (rb l.1 l.2)/\ph≠av/\RA tc.ra H ph (rt h.1 h.2) (rb h.1 h.2)
 |.minus t,q=>q≠av/\∃dx p,H q=some (.ins tc.mi dx (f1 "one" (.ref p)))/\PtH tc av H t p
 |.power t k,q=>q≠av/\∃dx p,H q=some (.ins tc.po dx (f2 "one" "power" (.ref p) (.int (k:Int))))/\PtH tc av H t p
 |.rooted t k,q=>q≠av/\∃dx p,H q=some (.ins tc.ro dx (f2 "one" "power" (.ref p) (.int (k:Int))))/\PtH tc av H t p
 |.sum a b,q=>q≠av/\∃dx p r,H q=some (.ins tc.su dx (f2 "one" "other" (.ref p) (.ref r)))/\PtH tc av H a p/\PtH tc av H b r
 |.less a b,q=>q≠av/\∃dx p r,H q=some (.ins tc.le dx (f2 "one" "other" (.ref p) (.ref r)))/\PtH tc av H a p/\PtH tc av H b r
 |.times a b,q=>q≠av/\∃dx p r,H q=some (.ins tc.ti dx (f2 "one" "other" (.ref p) (.ref r)))/\PtH tc av H a p/\PtH tc av H b r
 |.over a b,q=>q≠av/\∃dx p r,H q=some (.ins tc.ov dx (f2 "one" "other" (.ref p) (.ref r)))/\PtH tc av H a p/\PtH tc av H b r
theorem PtH.sb{tc:TC}{av:Addr}{H H':Hp}(s:SameB av H H'):∀{t:PT} {q:Addr},PtH tc av H t q->PtH tc av H' t q
 |.whole n,q,⟨a,dx,e⟩=>⟨a,dx,s _ _ a e⟩
 |.named w,q,⟨a,dx,e⟩=>⟨a,dx,s _ _ a e⟩
 |.given kp l h,q,⟨a,dx,pk,pl,ph,e,a1,e1,a2,⟨d2,e2⟩,a3,⟨d3,e3⟩⟩=>⟨a,dx,pk,pl,ph,s _ _ a e,a1,s _ _ a1 e1,a2,⟨d2,s _ _ a2 e2⟩,a3,⟨d3,s _ _ a3 e3⟩⟩
 |.minus t,q,⟨a,dx,p,e,h⟩=>⟨a,dx,p,s _ _ a e,PtH.sb s h⟩
 |.power t k,q,⟨a,dx,p,e,h⟩=>⟨a,dx,p,s _ _ a e,PtH.sb s h⟩
 |.rooted t k,q,⟨a,dx,p,e,h⟩=>⟨a,dx,p,s _ _ a e,PtH.sb s h⟩
 |.sum _ _,q,⟨a,dx,p,r,e,h1,h2⟩=>⟨a,dx,p,r,s _ _ a e,PtH.sb s h1,PtH.sb s h2⟩
 |.less _ _,q,⟨a,dx,p,r,e,h1,h2⟩=>⟨a,dx,p,r,s _ _ a e,PtH.sb s h1,PtH.sb s h2⟩
 |.times _ _,q,⟨a,dx,p,r,e,h1,h2⟩=>⟨a,dx,p,r,s _ _ a e,PtH.sb s h1,PtH.sb s h2⟩
 |.over _ _,q,⟨a,dx,p,r,e,h1,h2⟩=>⟨a,dx,p,r,s _ _ a e,PtH.sb s h1,PtH.sb s h2⟩
theorem PtH.same{tc:TC}{av:Addr}{H H':Hp}{t:PT}{q:Addr}(h:PtH tc av H t q)(s:Same H H'):PtH tc av H' t q:=h.sb s.toB
def spP(C CN:Addr)(tc:TC)(p:List Mk->Res PT)(n:Nat):Sp:=λvs H Q E=>∃(pr:Addr) (e:Nat×Nat) (us:List Mk),vs=[.ref pr]/\RdA C H pr e us/\e.2+n=10/\(∀t r,p us=.inr (t,r)->∀(q:Addr) (H':Hp),SameB pr H H'->RdA C H' pr e r->PtH tc pr H' t q->H q=none->Q (.ref q) H')/\(∀r,p us=.inl r->XAt CN pr E H (mbg e.1 r))
def qT:Sp:=λ_ _ _ _=>False
noncomputable def spS(C CN:Addr)(tc:TC):Nat->Sp
 |0=>qT
 |n+1=>spP C CN tc (pS n) n
theorem oY(pm:Addr)(e:Nat×Nat)(d:Int):(fdl pm e d).lookup ("depth":Str)=some (.int (e.2:Nat)):=by unfold fdl;rw[bg,if_pos rfl]
theorem t3(pm:Addr)(e:Nat×Nat)(d:Int)(q:Nat):aL "depth" (.int (q:Nat)) (fdl pm e d)=fdl pm (e.1,q) d:=by rw[jz,jz];show(if("marks":Str)="depth" then _ else _::(if("end":Str)="depth" then _ else _::(if("done":Str)="depth" then _ else _::(if("depth":Str)="depth" then _ else _))))=_;rw[if_neg nO,if_neg nR,if_neg nU,if_pos rfl]
theorem RdA.dep{C:Addr}{H:Hp}{p pm dx:Addr}{e:Nat×Nat}{qs:List Addr}{ts us:List Mk}{d q:Nat}(h1:H p=some (.ins C dx (fdl pm e d)))(h2:H pm=some (.lst (qs.map V.ref)))(h3:MkH H qs ts)(h4:ts.drop d=us)(h5:d<=ts.length)(h6:∀u∈ts,u.1≠[]/\u.1.length<=300/\∀c∈u.1,c<128):SameB p H (upd H p (.ins C dx (fdl pm (e.1,q) d)))/\RdA C (upd H p (.ins C dx (fdl pm (e.1,q) d))) p (e.1,q) us:=by
 have np:pm≠p:=λz=>by rw[z,h1]at h2;cases h2
 exact⟨λb o hb eo=>by rw[upd_ne hb];exact eo,dx,pm,qs,ts,d,af,by rw[upd_ne np];exact h2,h3.upd_ins h1,h4,h5,h6⟩
theorem sM:(Str.ofString "(":Str)=stL [40]:=by decide +kernel
theorem sO:(Str.ofString ")":Str)=stL [41]:=by decide +kernel
theorem sN:(Str.ofString ",":Str)=stL [44]:=by decide +kernel
theorem oy:(Str.ofString "/":Str)=stL [47]:=by decide +kernel
theorem ot:(Str.ofString "sqrt":Str)=stL cM:=by decide +kernel
theorem oH:(Str.ofString "cbrt":Str)=stL cN:=by decide +kernel
theorem oz:(Str.ofString "root":Str)=stL bP:=by decide +kernel
theorem nN:¬(("enter":Str)="marks")/\¬(("enter":Str)="end")/\¬(("enter":Str)="done")/\¬(("enter":Str)="depth"):=by decide +kernel
theorem rP:¬(("leave":Str)="marks")/\¬(("leave":Str)="end")/\¬(("leave":Str)="done")/\¬(("leave":Str)="depth"):=by decide +kernel
def gf(C CN:Addr):Sp:=λvs H Q E=>∃(p:Addr) (e:Nat×Nat) (us:List Mk),vs=[.ref p]/\RdA C H p e us/\e.2<=10/\(e.2<10->mhd us=[40]->∀H',SameB p H H'->RdA C H' p (e.1,e.2+1) us.tail->Q .non H')/\(e.2<10->mhd us≠[40]->XAt CN p E H (mbg e.1 us))/\(e.2=10->XAt CN p E H (mbg e.1 us))
theorem yo{C CNoText f:Addr}{fd:FuncData}(F:Fun K "enter" "Reading.enter" hJ f fd)(T:Txt K mg)(R:QC K mg C){fT:Addr}{fP:FuncData}(fX:MCalV P w K mg base 3 C "demand" ["self","mark"] (gg C CNoText) fT fP){dk:Addr}{di:FuncData}(dr:MCal P w K mg base 1 C "begin" ["self"] (eI C) dk di){dl:Addr}{dj:FuncData}(C_NoText:XCal P w K mg base 1 CNoText "NoText" "at" ["self","at"] dl dj):FnOk P w K mg base (CXV P w) 4 f fd ["self"] (gf C CNoText):=by
 obtain⟨fv,eW,fq⟩:=fX;obtain⟨dn,de,dm⟩:=dr;obtain⟨tD,hDEEPEST⟩:=T.DEEPEST_;refine F.okV wc (λvs H Q E h=>?_) (λcdv A outer s H vs Q E hr h=>?_)
 ·obtain⟨p,e,us,rfl,_⟩:=h;rfl
 ·obtain⟨p,e,us,rfl,hA,he,k1,k2,k3⟩:=h;obtain⟨dx,pm,qs,ts,d,h1,h2,h3,h4,h5,h6⟩:=id hA
  refine⟨_,(ae (aF (aI bS (aN (K:=K) rfl (pv 0) rfl) (bR (v:=.int 10) rfl hDEEPEST ⟨_,rfl⟩) (aA _))
   (ai (ip (C:=CNoText) rfl C_NoText.ow PySem.F.excBase_ValueError C_NoText.ok (hr.mono) C_NoText.bd C_NoText.kp (aa (ba (pv 0) R.cl de dn (hr.mono) dm .nil ak) ad)))
   aJ)
   (ae (cR (cp (pv 0) R.cl eW fv (hr.mono) fq .nil (aV (λ_ _ _ z=>z)) (aa al ad)))
   (ai (bi (pv 0) (ag bG (aN (K:=K) rfl (pv 0) rfl) ac) rfl)))),?_⟩
  refine ax ⟨_,rfl,p,C,dx,_,_,rfl,h1,R.cl,R.n4,oY _ _ _,_,_,rfl,rfl,_,rfl,ap (λh=>?_) (λh=>?_)⟩
  ·have h':((e.2:Nat):Int)=10:=h;exact⟨_,rfl,p,dx,_,rfl,h1,bL _ _ _ bZ.1 bZ.2.1 bZ.2.2.1 bZ.2.2.2,p,e,us,rfl,hA,_,rfl,λd' hd=>k3 (by omega) _ d' (SameB.new hd) af⟩
  ·have h':¬((e.2:Nat):Int)=10:=h;have he':e.2<10:=by omega
   refine c0 ⟨_,rfl,p,dx,_,rfl,h1,bL _ _ _ cG.1 cG.2.1 cG.2.2.1 cG.2.2.2,p,e,us,[40],by rw[<- sM];rfl,hA,by decide,λu r eu em H1 sb1 ra1=>?_,λz=>k2 he' z⟩;subst eu;obtain⟨dx1,pm1,qs1,ts1,d1,g1,g2,g3,g4,g5,g6⟩:=id ra1;refine⟨_,rfl,p,C,dx1,_,_,rfl,g1,R.cl,R.n4,oY _ _ _,_,_,rfl,rfl,_,rfl,p,C,dx1,_,rfl,g1,R.cl,R.n4,l0 _ _ _,?_⟩;obtain⟨sb,ra⟩:=RdA.dep (q:=e.2+1) g1 g2 g3 g4 g5 g6;have e2:aL "depth" (V.int (((e.2:Nat):Int)+1)) (fdl pm1 e d1)=fdl pm1 (e.1,e.2+1) d1:=t3 _ _ _ _;rw[e2];exact k1 he' em _ (sb1.trans sb) ra
def gc(C CN:Addr):Sp:=λvs H Q E=>∃(p:Addr) (e:Nat×Nat) (us:List Mk),vs=[.ref p]/\RdA C H p (e.1,e.2+1) us/\(mhd us=[41]->∀H',SameB p H H'->RdA C H' p e us.tail->Q .non H')/\(mhd us≠[41]->XAt CN p E H (mbg e.1 us))
theorem ym{C CNoText f:Addr}{fd:FuncData}(F:Fun K "leave" "Reading.leave" g8 f fd)(T:Txt K mg)(R:QC K mg C){fT:Addr}{fP:FuncData}(fX:MCalV P w K mg base 3 C "demand" ["self","mark"] (gg C CNoText) fT fP):FnOk P w K mg base (CXV P w) 4 f fd ["self"] (gc C CNoText):=by
 obtain⟨fv,eW,fq⟩:=fX;refine F.okV wa (λvs H Q E h=>?_) (λcdv A outer s H vs Q E hr h=>?_)
 ·obtain⟨p,e,us,rfl,_⟩:=h;rfl
 ·obtain⟨p,e,us,rfl,hA,k1,k2⟩:=h;obtain⟨dx,pm,qs,ts,d,h1,h2,h3,h4,h5,h6⟩:=id hA
  refine⟨_,(ae (cR (cp (pv 0) R.cl eW fv (hr.mono) fq .nil (aV (λ_ _ _ z=>z)) (aa al ad)))
   (ai (bi (pv 0) (ag iw (aN (K:=K) rfl (pv 0) rfl) ac) rfl))),?_⟩
  refine c0 ⟨_,rfl,p,dx,_,rfl,h1,bL _ _ _ cG.1 cG.2.1 cG.2.2.1 cG.2.2.2,p,_,us,[41],by rw[<- sO];rfl,hA,by decide,λu r eu em H1 sb1 ra1=>?_,λz=>k2 z⟩;subst eu;obtain⟨dx1,pm1,qs1,ts1,d1,g1,g2,g3,g4,g5,g6⟩:=id ra1;refine⟨_,rfl,p,C,dx1,_,_,rfl,g1,R.cl,R.n4,oY _ _ _,_,_,rfl,rfl,_,rfl,p,C,dx1,_,rfl,g1,R.cl,R.n4,l0 _ _ _,?_⟩;obtain⟨sb,ra⟩:=RdA.dep (q:=e.2) g1 g2 g3 g4 g5 g6
  have e2:aL "depth" (V.int (((e.2+1:Nat):Int)-1)) (fdl pm1 (e.1,e.2+1) d1)=fdl pm1 (e.1,e.2) d1:=by rw[show((e.2+1:Nat):Int)-1=(e.2:Nat) by omega];exact t3 _ _ _ _
  rw[e2];exact k1 em _ (sb1.trans sb) ra
theorem fno{pm:Addr}{e:Nat×Nat}{d:Int}{m:Str}(h:¬m="marks"/\¬m="end"/\¬m="done"/\¬m="depth"):(fdl pm e d).lookup m=none:=bL _ _ _ h.1 h.2.1 h.2.2.1 h.2.2.2
theorem RdA.mh{C:Addr}{H:Hp}{p:Addr}{e:Nat×Nat}{us:List Mk}(h:RdA C H p e us):(∀c∈mhd us,c<128)/\(mhd us).length<=300:=by
 cases us with
 |nil=>exact⟨λc hc=>(nomatch hc),by decide⟩
 |cons u r=>obtain⟨_,a,b⟩:=h.is u (by simp);exact⟨b,a⟩
theorem tG(m:List Nat):inV (.str (stL m)) [.str (Str.ofString "x"),.str (Str.ofString "sqrt"),.str (Str.ofString "cbrt"),.str (Str.ofString "root")]=decide (m∈[[120],cM,cN,bP]):=by
 rw[om,ot,oH,oz];show(eqV (.str (stL [120])) (.str (stL m)) || (eqV (.str (stL cM)) (.str (stL m)) || (eqV (.str (stL cN)) (.str (stL m)) || (eqV (.str (stL bP)) (.str (stL m)) ||false))))=_;rw[cm,cm,cm,cm,Bool.or_false,Fj];simp only[Bool.or_eq_true,decide_eq_true_eq,EQ,E2,or_false];constructor
 ·rintro(h |h |h |h)
  ·exact .inl h.symm
  ·exact .inr (.inl h.symm)
  ·exact .inr (.inr (.inl h.symm))
  ·exact .inr (.inr (.inr h.symm))
 ·rintro(h |h |h |h)
  ·exact .inl h.symm
  ·exact .inr (.inl h.symm)
  ·exact .inr (.inr (.inl h.symm))
  ·exact .inr (.inr (.inr h.symm))
def iR:Sp:=λvs H Q _=>∃l:List Nat,vs=[.str (stL l)]/\(∀c∈l,c<128)/\l.length<=1000/\∀H',Same H H'->Q (.bl (cI l)) H'
theorem xR{f:Addr}{fd:FuncData}(F:Fun K "is_name" "is_name" gD f fd)(T:Txt K mg){o7:Addr}{o0:FuncData}(qe:Cal P w K mg base 1 "made_of" ["word","signs"] kZ o7 o0):FnOk P w K mg base CX0 2 f fd ["word"] iR:=by
 obtain⟨pY,oj,oT,pJ⟩:=qe;obtain⟨tF,hLETTERS⟩:=T.LETTERS_;obtain⟨tL,hLONGEST⟩:=T.LONGEST_;obtain⟨aWORDS,hWORDS,sWORDS⟩:=T.WORDS_;refine F.ok vX (λvs H Q E h=>?_) (λcdv A outer s H vs Q E hr h=>?_)
 ·obtain⟨l,rfl,_⟩:=h;rfl
 ·obtain⟨l,rfl,ha,hl,k⟩:=h;have big:=sizeLine_eq;refine⟨_,(ai (ar (bp (aq pY (hr.mono) rfl oj oT pJ .nil ak (aa (pv 0) (aa (bR (v:=.str "abcdefghijklmnopqrstuvwxyz") rfl hLETTERS ⟨_,rfl⟩) ad))) (bp (bH nJ (aO ku (by rfl) T.len_ PySem.boot_len (aa (pv 0) ad)) (bR (v:=.int 8) rfl hLONGEST ⟨_,rfl⟩) (aA _)) (bB (bH (rJ (K:=K) rfl) (pv 0) (bR (v:=.ref aWORDS) rfl hWORDS rfl) (by rfl))))))),?_⟩;refine aM (aP ⟨_,rfl,l,_,isA,rfl,ha,hl,sQ,λz=>⟨_,rfl,aE ?_⟩,λhn H1 s1=>⟨_,rfl,?_⟩⟩)
  ·subst z;exact k H (Same.refl _)
  have hk:=k H1 s1;cases h0:l.all isA with
  |false =>refine aE ?_;rw[show cI l=false by unfold cI;rw[h0];simp]at hk;exact hk
  |true =>
   refine aB (aP ⟨_,rfl,_,rfl,by rw[aU];omega,_,_,rfl,rfl,_,rfl,ap (λh8=>?_) (λh8=>?_)⟩)
   ·rw[aU]at h8;have h8':l.length<=8:=by have:(l.length:Int)<=8:=h8;omega
    refine⟨_,rfl,aWORDS,_,rfl,.inr (sWORDS _),rfl,by decide,?_⟩;show Q (.bl (!(inV (.str (stL l)) [.str (Str.ofString "x"),.str (Str.ofString "sqrt"),.str (Str.ofString "cbrt"),.str (Str.ofString "root")]))) H1;rw[tG];unfold cI at hk
    rw[decide_eq_true hn,h0,decide_eq_true h8']at hk;exact hk
   ·rw[aU]at h8;have h8':¬l.length<=8:=by have:¬(l.length:Int)<=8:=h8;omega
    unfold cI at hk
    rw[decide_eq_false h8']at hk;simp at hk
    exact hk
def mI(C CN:Addr):Sp:=λvs H Q E=>∃(p:Addr) (e:Nat×Nat) (us:List Mk),vs=[.ref p]/\RdA C H p e us/\(∀n r,cU us=.inr (n,r)->n<2^1000->∀H',SameB p H H'->RdA C H' p e r->Q (.int (n:Nat)) H')/\(∀r,cU us=.inl r->XAt CN p E H (mbg e.1 r))
theorem xx{C CNoText f:Addr}{fd:FuncData}(F:Fun K "read_whole" "read_whole" gp f fd)(T:Txt K mg)(R:QC K mg C){d9:Addr}{d7:FuncData}(eD:Cal P w K mg base 2 "is_whole" ["word"] fC d9 d7){bF:Addr}{bE:FuncData}(bA:MCal P w K mg base 1 C "seen" ["self"] (cA C) bF bE){dk:Addr}{di:FuncData}(dr:MCal P w K mg base 1 C "begin" ["self"] (eI C) dk di){ck:Addr}{cj:FuncData}(bW:MCal P w K mg base 2 C "step" ["self"] (cZ C) ck cj){dl:Addr}{dj:FuncData}(C_NoText:XCal P w K mg base 1 CNoText "NoText" "at" ["self","at"] dl dj):FnOk P w K mg base (CXV P w) 3 f fd ["reading"] (mI C CNoText):=by
 obtain⟨kE,jm,jw,kx⟩:=eD;obtain⟨bO,bK,bM⟩:=bA;obtain⟨dn,de,dm⟩:=dr;obtain⟨cL,cH,cK⟩:=bW;refine F.okV vP (λvs H Q E h=>?_) (λcdv A outer s H vs Q E hr h=>?_)
 ·obtain⟨p,e,us,rfl,_⟩:=h;rfl
 ·obtain⟨p,e,us,rfl,hA,k1,k2⟩:=h;have big:=sizeLine_eq;obtain⟨dx,pm,d,h1⟩:=hA.ins;obtain⟨ma,ml⟩:=hA.mh
  refine⟨_,(ae (aF (dy (bu (aq kE (hr.mono) rfl jm jw kx .nil ak (aa (ba (pv 0) R.cl bK bO (hr.mono) bM .nil ak) ad))))
   (ai (ip (C:=CNoText) rfl C_NoText.ow PySem.F.excBase_ValueError C_NoText.ok (hr.mono) C_NoText.bd C_NoText.kp (aa (ba (pv 0) R.cl de dn (hr.mono) dm .nil ak) ad)))
   aJ)
   (ai (ar (cv mn (by rfl) T.int_ PyProof.Rows.boot_int (aa (ba (pv 0) R.cl cH cL (hr.mono) cK .nil ak) ad))))),?_⟩
  refine ax (dR ⟨_,rfl,p,dx,_,rfl,h1,fno br,p,e,us,rfl,hA,mhd us,rfl,ma,by omega,λH1 s1=>⟨_,rfl,?_⟩⟩);have hA1:=hA.same s1;obtain⟨dx1,pm1,d1,h11⟩:=hA1.ins;cases hN:isN (mhd us)with
  |false =>refine aB ?_;exact⟨_,rfl,p,dx1,_,rfl,h11,fno bZ,p,e,us,rfl,hA1,_,rfl,λd hd=>k2 us (by unfold cU;rw[hN];rfl) _ d (s1.toB.trans (SameB.new hd)) af⟩
  |true =>
   refine aE ?_;cases us with
   |nil=>exact absurd hN (by decide)
   |cons u r =>have hN':isN u.1=true:=hN;have hu:=hA.is u (by simp);have hD':=lS (m:=u.1) hN';refine aM ⟨_,rfl,p,dx1,_,rfl,h11,fno ci,p,e,u,r,rfl,hA1,λH2 sb2 ra2=>?_⟩;exact⟨_,((NumText.digitsVal u.1:Nat):Int),rfl,by rw[aU];omega,kt hD' hu.1 (by omega),k1 (NumText.digitsVal u.1) r (by unfold cU;rw[hN];rfl) (RM.dv_bits hD' hu.2.1) H2 (s1.toB.trans sb2) ra2⟩
theorem Ax{m:List Nat}(h:isN m=true)(h0:m≠[48]):NumText.digitsVal m≠0:=by
 unfold isN at h
 simp only[EZ,Bool.or_eq_true,decide_eq_true_eq]at h;obtain⟨⟨hn,hd⟩,hz |hz⟩:=h
 ·exact absurd hz h0
 ·obtain⟨c,r,rfl⟩:=Fd hn;have hc:isD c=true:=Fg.mp hd c (by simp);have hc0:c≠48:=λz=>hz (by rw[z];rfl)
  have hcp:0<c-48:=by
   unfold isD at hc
   simp only[EZ,decide_eq_true_eq]at hc;exact Nat.sub_pos_of_lt (Nat.lt_of_le_of_ne hc.1 (Ne.symm hc0))
  have mono:∀(l:List Nat) (a:Nat),0<a->0<l.foldl (λacc c=>acc*10+(c-48)) a:=λl=>by
   induction l with
   |nil=>exactλa ha=>ha
   |cons x l ih=>exactλa ha=>ih _ (ET (Nat.mul_pos ha (by decide)) (FG _ _))
  show(List.foldl (λacc c=>acc*10+(c-48)) 0 (c::r))≠0;have:=mono r (0*10+(c-48)) (by rw[Nat.zero_mul,Nat.zero_add];exact hcp);rw[List.foldl_cons];exact Nat.ne_of_gt this
def mV(C CN CR:Addr):Sp:=λvs H Q E=>∃(p:Addr) (e:Nat×Nat) (us:List Mk),vs=[.ref p]/\RdA C H p e us/\(∀x r,bv us=.inr (x,r)->x.2≠0->∀(q:Addr) (H':Hp),SameB p H H'->RdA C H' p e r->RA CR H' q (rt x.1 x.2) (rb x.1 x.2)->H q=none->Q (.ref q) H')/\(∀r,bv us=.inl r->XAt CN p E H (mbg e.1 r))
theorem xF{C CRatio CNoText f:Addr}{fd:FuncData}(F:Fun K "read_fraction" "read_fraction" gv f fd)(T:Txt K mg)(R:QC K mg C){bV:Addr}{bU:FuncData}(bJ:MCal P w K mg base 2 C "passes" ["self","mark"] (cT C) bV bU){BD:Addr}{Bb:FuncData}(DZ:CalV P w K mg base 3 "read_whole" ["reading"] (mI C CNoText) BD Bb){BY:Addr}{By:FuncData}{B8:List Value}(Ek:KCal P w K mg base 2 CRatio "Ratio" ["self","top","bottom"] (lb CRatio) BY By B8 [.int 1]){bF:Addr}{bE:FuncData}(bA:MCal P w K mg base 1 C "seen" ["self"] (cA C) bF bE){dk:Addr}{di:FuncData}(dr:MCal P w K mg base 1 C "begin" ["self"] (eI C) dk di){dl:Addr}{dj:FuncData}(C_NoText:XCal P w K mg base 1 CNoText "NoText" "at" ["self","at"] dl dj):FnOk P w K mg base (CXV P w) 4 f fd ["reading"] (mV C CNoText CRatio):=by
 obtain⟨cc,b0,ca⟩:=bJ;obtain⟨uK,sv,sU,ux⟩:=DZ;obtain⟨uU,uJ,sI,CV,C5,Ca⟩:=Ek;obtain⟨bO,bK,bM⟩:=bA;obtain⟨dn,de,dm⟩:=dr;refine F.okV sc_read_fraction (λvs H Q E h=>?_) (λcdv A outer s H vs Q E hr h=>?_)
 ·obtain⟨p,e,us,rfl,_⟩:=h;rfl
 ·obtain⟨p,e,us,rfl,hA,k1,k2⟩:=h;have big:=sizeLine_eq;obtain⟨dx,pm,d,h1⟩:=hA.ins
  refine⟨_,(ae (am (i:=1) sc_read_fraction.nd rfl (Or.inl rfl) (nD (bu (cp (pv 0) R.cl b0 cc (hr.mono) ca .nil ak (aa al ad))) (cD cz ac) ac))
   (ae (am (i:=2) sc_read_fraction.nd rfl (Or.inl rfl) (ag dA (pv 1) (aq uK (hr.mono) rfl sv sU ux .nil (aV (λ_ _ _ z=>z)) (aa (pv 0) ad))))
   (ae (aF (dy (bu (cp (pv 0) R.cl b0 cc (hr.mono) ca .nil ak (aa al ad))))
     (ai (ar (cE uJ uU (hr.mono) rfl sI C5 Ca ak (aa (pv 2) ad))))
     aJ)
   (ae (aF (aI cq (ba (pv 0) R.cl bK bO (hr.mono) bM .nil ak) al (aA _))
     (ai (ip (C:=CNoText) rfl C_NoText.ow PySem.F.excBase_ValueError C_NoText.ok (hr.mono) C_NoText.bd C_NoText.kp (aa (ba (pv 0) R.cl de dn (hr.mono) dm .nil ak) ad)))
     aJ)
   (ai (ar (cE uJ uU (hr.mono) rfl sI CV .nil ak (aa (pv 2) (aa (aq uK (hr.mono) rfl sv sU ux .nil (aV (λ_ _ _ z=>z)) (aa (pv 0) ad)) ad))))))))),?_⟩
  refine eM (λσ' H'=>∃(sg:Int) (us1:List Mk),σ'=[some (.ref p),some (.int sg),none]/\SameB p H H'/\RdA C H' p e us1/\bv us=dc sg us1/\(sg=1\/sg = -1)) ?_ (λrest=>?_)
  rotate_left
  ·refine cg ⟨_,rfl,p,dx,_,rfl,h1,fno bD,p,e,us,[45],by rw[<- jq];rfl,hA,by decide,λu r eu em H1 sb ra=>⟨_,rfl,aB ⟨_,rfl,?_⟩⟩,λh4=>⟨_,rfl,aE ?_⟩⟩
   ·subst eu;exact rest _ _ ⟨-1,r,rfl,sb,ra,by unfold bv;rw[if_pos (show mhd (u::r)=[45]from em)];rfl,.inr rfl⟩
   ·exact rest _ _ ⟨1,us,rfl,SameB.refl _ _,hA,by unfold bv;rw[if_neg h4],.inl rfl⟩
  rintro σ' H1 ⟨sg,us1,rfl,sb1,ra1,eF,hsg⟩
  have bs:Bits 2 sg:=by show sg.natAbs<2^2;rcases hsg with rfl |rfl<;>decide
  refine ay ⟨_,rfl,_,rfl,p,e,us1,rfl,ra1,λn r hw hb H2 sb2 ra2=>⟨_,_,rfl,rfl,⟨bs.mono,(ly hb).mono⟩,?_⟩,λr hw=>XAt.step (k2 r (by rw[eF];unfold dc;rw[hw])) sb1⟩;have eF2:bv us=cV (sg*(n:Int)) r:=by rw[eF];unfold dc;rw[hw]
  have sb12:=sb1.trans sb2;obtain⟨dx2,pm2,d2,h12⟩:=ra2.ins;have bt:Bits 2000 (sg*(n:Int)):=(bs.mul (ly hb)).mono;refine ax (dR ⟨_,rfl,p,dx2,_,rfl,h12,fno bD,p,e,r,[47],by rw[<- oy];rfl,ra2,by decide,λu r2 eu em H3 sb3 ra3=>⟨_,rfl,aE ?_⟩,λh4=>⟨_,rfl,aB ?_⟩⟩)
  rotate_left
  ·refine aM ⟨_,rfl,ss (t:=sg*(n:Int)) (b:=1) (by decide) (Bits.mono (j:=1) (by show(1:Int).natAbs<2^1;decide) (by decide)) λq H4 s4 hq hR=>?_⟩;exact k1 (sg*(n:Int),1) r (by rw[eF2];unfold cV;rw[if_neg h4]) (show(1:Int)≠0 by decide) q H4 (sb12.trans s4.toB) (ra2.same s4) hR (sb12.free hA.isS hq ra2.isS)
  subst eu
  have eF3:bv us=if mhd r2=[48]then .inl r2 else match cU r2 with
   |.inl r=>.inl r
   |.inr (m,r)=>.inr ((sg*(n:Int),(m:Int)),r):=by
   rw[eF2];unfold cV;rw[if_pos (show mhd (u::r2)=[47]from em)];rfl
  have sb13:=sb12.trans sb3;obtain⟨dx3,pm3,d3,h13⟩:=ra3.ins;refine ax ⟨_,rfl,p,dx3,_,rfl,h13,fno br,p,e,r2,rfl,ra3,rfl,_,rfl,ap (λh0=>?_) (λh0=>?_)⟩
  ·have h0':mhd r2=[48]:=stL_inj.mp ((V.str.inj h0).trans jr);exact⟨_,rfl,p,dx3,_,rfl,h13,fno bZ,p,e,r2,rfl,ra3,_,rfl,λd hd=>(XAt.step (k2 r2 (by rw[eF3,if_pos h0'])) sb13) _ d (SameB.new hd) af⟩
  ·have h0':mhd r2≠[48]:=λz=>h0 (by rw[z,<- jr])
   refine aM ⟨_,rfl,_,rfl,p,e,r2,rfl,ra3,λm r3 hw3 hb3 H4 sb4 ra4=>?_,λr3 hw3=>XAt.step (k2 r3 (by rw[eF3,if_neg h0',hw3])) sb13⟩;have sb14:=sb13.trans sb4
   have hm0:(m:Int)≠0:=by
    unfold cU at hw3
    split at hw3
    ·rename_i hN
     cases hw3;have:=Ax hN h0';omega
    ·cases hw3
   refine ss (t:=sg*(n:Int)) (b:=(m:Int)) hm0 ((ly hb3).mono) λq H5 s5 hq hR=>?_
   exact k1 (sg*(n:Int),(m:Int)) r3 (by rw[eF3,if_neg h0',hw3]) hm0 q H5 (sb14.trans s5.toB) (ra4.same s5) hR (sb14.free hA.isS hq ra4.isS)
theorem lL:(Str.ofString "..":Str)=stL [46,46]:=by decide +kernel
theorem wx{row:List Int}{c:Cfg}(h1:Tr row)(h2:row.length<=9)(h3:∀n,cf row n=c.fin n):row=cQ c:=by
 refine t7 h1 (fY _) λk=>?_
 unfold cQ;rw[mj,pz];split
 ·exact h3 k
 ·exact ef (by omega)
def GtH(CG CR av:Addr)(H:Hp)(kp:List Int)(l h:Int×Int)(q:Addr):Prop:=q≠av/\∃dx pk pl ph,H q=some (.ins CG dx (dh pk pl ph))/\pk≠av/\H pk=some (.lst (kp.map V.int))/\pl≠av/\RA CR H pl (rt l.1 l.2) (rb l.1 l.2)/\ph≠av/\RA CR H ph (rt h.1 h.2) (rb h.1 h.2)
def iS(C CN CG CR:Addr):Sp:=λvs H Q E=>∃(pr:Addr) (e:Nat×Nat) (us:List Mk),vs=[.ref pr]/\RdA C H pr e us/\e.2<=10/\(∀kp l h r,bC (decide (e.2<10)) us=.inr (.given kp l h,r)->∀(q:Addr) (H':Hp),SameB pr H H'->RdA C H' pr e r->GtH CG CR pr H' kp l h q->H q=none->Q (.ref q) H')/\(∀r,bC (decide (e.2<10)) us=.inl r->XAt CN pr E H (mbg e.1 r))
theorem RdA.nn{C:Addr}{H:Hp}{p q:Addr}{e:Nat×Nat}{us:List Mk}(h:RdA C H p e us)(hq:H q=none):q≠p:=λz=>by obtain⟨dx,pm,d,h1⟩:=h.ins;rw[z,h1]at hq;cases hq
theorem RA.sb{C p0:Addr}{H H':Hp}{p:Addr}{t b:Int}(h:RA C H p t b)(s:SameB p0 H H')(n:p≠p0):RA C H' p t b:=let⟨dx,e⟩:=h;⟨dx,s _ _ n e⟩
theorem ir{α:Type}{m:List Nat}{us:List Mk}{k:List Mk->Res α}(h:mhd us=m):bc m us k=k us.tail:=if_pos h
theorem iu{α:Type}{m:List Nat}{us:List Mk}{k:List Mk->Res α}(h:mhd us≠m):bc m us k=.inl us:=if_neg h
theorem xE{C CRatio CGiven CNoText f:Addr}{fd:FuncData}(F:Fun K "read_given" "read_given" gu f fd)(T:Txt K mg)(R:QC K mg C){fS:Addr}{fO:FuncData}(fW:MCalV P w K mg base 4 C "enter" ["self"] (gf C CNoText) fS fO){BE:Addr}{Bc:FuncData}(D0:CalV P w K mg base 6 "read_terms" ["reading"] (mG C CNoText) BE Bc){fT:Addr}{fP:FuncData}(fX:MCalV P w K mg base 3 C "demand" ["self","mark"] (gg C CNoText) fT fP){BH:Addr}{Bf:FuncData}(D3:CalV P w K mg base 4 "read_fraction" ["reading"] (mV C CNoText CRatio) BH Bf){fR:Addr}{fN:FuncData}(fV:MCalV P w K mg base 4 C "leave" ["self"] (gc C CNoText) fR fN){BZ:Addr}{Bz:FuncData}{B9:List Value}(El:KCal P w K mg base 1 CGiven "Given" ["self","row","low","high"] (mT CGiven) BZ Bz B9 []):FnOk P w K mg base (CXV P w) 7 f fd ["reading"] (iS C CNoText CGiven CRatio):=by
 obtain⟨qc,nW,pM⟩:=fW;obtain⟨Dw,zc,Ae,Cw⟩:=D0;obtain⟨fv,eW,fq⟩:=fX;obtain⟨uO,sC,sY,uB⟩:=D3;obtain⟨qa,nV,pL⟩:=fV;obtain⟨DV,Ds,zC,C4,EM,EB⟩:=El;refine F.okV sc_read_given (λvs H Q E h=>?_) (λcdv A outer s H vs Q E hr h=>?_)
 ·obtain⟨p,e,us,rfl,_⟩:=h;rfl
 ·obtain⟨p,e,us,rfl,hA,he,k1,k2⟩:=h;obtain⟨dx,pm,d,h1⟩:=hA.ins
  refine⟨_,(ae (cR (ba (pv 0) R.cl nW qc (hr.mono) pM .nil (aV (λ_ _ _ z=>z))))
   (ae (am (i:=1) sc_read_given.nd rfl (Or.inl rfl) (aq Dw (hr.mono) rfl zc Ae Cw .nil (aV (λ_ _ _ z=>z)) (aa (pv 0) ad)))
   (ae (cR (cp (pv 0) R.cl eW fv (hr.mono) fq .nil (aV (λ_ _ _ z=>z)) (aa al ad)))
   (ae (am (i:=2) sc_read_given.nd rfl (Or.inl rfl) (aq uO (hr.mono) rfl sC sY uB .nil (aV (λ_ _ _ z=>z)) (aa (pv 0) ad)))
   (ae (cR (cp (pv 0) R.cl eW fv (hr.mono) fq .nil (aV (λ_ _ _ z=>z)) (aa al ad)))
   (ae (am (i:=3) sc_read_given.nd rfl (Or.inl rfl) (aq uO (hr.mono) rfl sC sY uB .nil (aV (λ_ _ _ z=>z)) (aa (pv 0) ad)))
   (ae (cR (ba (pv 0) R.cl nV qa (hr.mono) pL .nil (aV (λ_ _ _ z=>z))))
   (ai (ar (cE Ds DV (hr.mono) rfl zC C4 .nil ak (aa (pv 1) (aa (pv 2) (aa (pv 3) ad))))))))))))),?_⟩
  refine c0 ⟨_,rfl,p,dx,_,rfl,h1,fno nN,p,e,us,rfl,hA,he,λlt em H1 sb1 ra1=>?_,λlt em=>k2 us (by unfold bC;rw[decide_eq_true lt,if_pos rfl];exact iu em),λeq=>k2 us (by unfold bC;rw[decide_eq_false (by omega),if_neg (by decide)])⟩
  have eG:bC (decide (e.2<10)) us=aG (eR us.tail) λkp u2=>bc [44] u2 λu3=>aG (bv u3) λl u4=>bc [46,46] u4 λu5=>aG (bv u5) λh u6=>bc [41] u6 λu7=>.inr (.given kp l h,u7):=by unfold bC;rw[decide_eq_true lt,if_pos rfl];exact ir em
  have bad:∀{H':Hp} {r:List Mk},SameB p H H'->bC (decide (e.2<10)) us=.inl r->XAt CNoText p E H' (mbg e.1 r):=λs z=>XAt.step (k2 _ z) s
  refine ay ⟨_,rfl,p,(e.1,e.2+1),us.tail,rfl,ra1,λc r hgo hop q H2 row sb2 ra2 hq eq trr h9 hcf=>?_,λc r hgo hop=>bad sb1 (by rw[eG];unfold eR;rw[hgo,if_pos hop];rfl)⟩;have hrow:=wx trr h9 hcf;subst hrow
  have e2:bC (decide (e.2<10)) us=bc [44] r λu3=>aG (bv u3) λl u4=>bc [46,46] u4 λu5=>aG (bv u5) λh u6=>bc [41] u6 λu7=>.inr (.given (cQ c) l h,u7):=by rw[eG];unfold eR;rw[hgo,if_neg (by rw[hop];decide)];rfl
  have sb12:=sb1.trans sb2;obtain⟨dx2,pm2,d2,h12⟩:=ra2.ins;refine c0 ⟨_,rfl,p,dx2,_,rfl,h12,fno cG,p,_,r,[44],by rw[<- sN];rfl,ra2,by decide,λu r3 eu em3 H3 sb3 ra3=>?_,λz=>bad sb12 (by rw[e2];exact iu z)⟩
  have e3:bC (decide (e.2<10)) us=aG (bv r3) λl u4=>bc [46,46] u4 λu5=>aG (bv u5) λh u6=>bc [41] u6 λu7=>.inr (.given (cQ c) l h,u7):=by rw[e2];rw[ir (by rw[eu];exact em3)];rw[eu];rfl
  have sb13:=sb12.trans sb3;have eq3:=sb3 _ _ (ra2.lst_ne eq) eq;refine ay ⟨_,rfl,p,_,r3,rfl,ra3,λx r4 hx x0 pl H4 sb4 ra4 hR4 hpl=>?_,λr4 hx=>bad sb13 (by rw[e3,hx];rfl)⟩
  have e4:bC (decide (e.2<10)) us=bc [46,46] r4 λu5=>aG (bv u5) λh u6=>bc [41] u6 λu7=>.inr (.given (cQ c) x h,u7):=by rw[e3,hx];rfl
  have npl:=ra3.nn hpl;have sb14:=sb13.trans sb4;have eq4:=sb4 _ _ (ra3.lst_ne eq3) eq3;obtain⟨dx4,pm4,d4,h14⟩:=ra4.ins;refine c0 ⟨_,rfl,p,dx4,_,rfl,h14,fno cG,p,_,r4,[46,46],by rw[<- lL];rfl,ra4,by decide,λu5 r5 eu5 em5 H5 sb5 ra5=>?_,λz=>bad sb14 (by rw[e4];exact iu z)⟩
  have e5:bC (decide (e.2<10)) us=aG (bv r5) λh u6=>bc [41] u6 λu7=>.inr (.given (cQ c) x h,u7):=by rw[e4];rw[ir (by rw[eu5];exact em5)];rw[eu5];rfl
  have sb15:=sb14.trans sb5;have eq5:=sb5 _ _ (ra4.lst_ne eq4) eq4;have hR5:=hR4.sb sb5 npl;refine ay ⟨_,rfl,p,_,r5,rfl,ra5,λy r6 hy y0 ph H6 sb6 ra6 hR6 hph=>?_,λr6 hy=>bad sb15 (by rw[e5,hy];rfl)⟩
  have e6:bC (decide (e.2<10)) us=bc [41] r6 λu7=>.inr (.given (cQ c) x y,u7):=by rw[e5,hy];rfl
  have nph:=ra5.nn hph;have sb16:=sb15.trans sb6;have eq6:=sb6 _ _ (ra5.lst_ne eq5) eq5;have hR6':=hR5.sb sb6 npl;obtain⟨dx6,pm6,d6,h16⟩:=ra6.ins;refine c0 ⟨_,rfl,p,dx6,_,rfl,h16,fno rP,p,e,r6,rfl,ra6,λem7 H7 sb7 ra7=>?_,λz=>bad sb16 (by rw[e6];exact iu z)⟩
  have e7:bC (decide (e.2<10)) us=.inr (.given (cQ c) x y,r6.tail):=by rw[e6];exact ir em7
  have sb17:=sb16.trans sb7;have eq7:=sb7 _ _ (ra6.lst_ne eq6) eq6;have hR7:=hR6'.sb sb7 npl;have hS7:=hR6.sb sb7 nph;refine aM ⟨_,rfl,_,rfl,_,rfl,λz dz hz hdz nez=>?_⟩
  have s8:Same H7 (upd (upd H7 dz (.own z)) z (.ins CGiven dz [])):=λb o e=>by rw[upd_ne (aX e hz),upd_ne (aX e hdz)];exact e
  refine⟨z,dz,q,pl,ph,_,rfl,af,s8 _ _ eq7,λpk hpk=>⟨rfl,?_⟩⟩;have s9:=Same.upd_new (o:=.lst ((cQ c).map V.int)) hpk;have nzk:pk≠z:=λe=>by rw[e,af]at hpk;cases hpk
  have s10:Same H7 (upd (upd (upd (upd H7 dz (.own z)) z (.ins CGiven dz [])) pk (.lst ((cQ c).map V.int))) z (.ins CGiven dz (dh pk pl ph))):=λb o e=>by rw[upd_ne (aX e hz)];exact(s8.trans s9) _ _ e
  have nk:pk≠p:=λe=>by obtain⟨_,_,_,h17⟩:=ra7.ins;rw[e,s8 _ _ h17]at hpk;cases hpk
  exact k1 _ _ _ _ e7 z _ (sb17.trans s10.toB) (ra7.same s10) ⟨ra7.nn hz,dz,pk,pl,ph,af,nk,by rw[upd_ne nzk];exact af,npl,hR7.same s10,nph,hS7.same s10⟩ (sb17.free hA.isS hz ra7.isS)
theorem yK{f:Addr}{fd:FuncData}(F:Fun K "read_sum" "read_sum" dw f fd){k:Nat}:FnOk P w K mg base (CXV P w) (k+1) f fd ["reading"] qT:=F.okV sc_read_sum (λ_ _ _ _ h=>h.elim) (λ_ _ _ _ _ _ _ _ _ h=>h.elim)
theorem rG(m:Nat)(us:List Mk):pBr (So (m+1)) us=bc [40] us λu1=>aG (pS m u1) λt u2=>bc [41] u2 λu3=>.inr (t,u3):=rfl
theorem xI{tc:TC}{n:Nat}{C CNoText f:Addr}{fd:FuncData}(F:Fun K "read_brackets" "read_brackets" dN f fd)(T:Txt K mg)(R:QC K mg C){fS:Addr}{fO:FuncData}(fW:MCalV P w K mg base 4 C "enter" ["self"] (gf C CNoText) fS fO){fR:Addr}{fN:FuncData}(fV:MCalV P w K mg base 4 C "leave" ["self"] (gc C CNoText) fR fN){fh:Addr}{fg:FuncData}(C_read_sum:CalV P w K mg base (6*n+6) "read_sum" ["reading"] (spS C CNoText tc n) fh fg):FnOk P w K mg base (CXV P w) (6*n+7) f fd ["reading"] (spP C CNoText tc (pBr (So n)) n):=by
 obtain⟨qc,nW,pM⟩:=fW;obtain⟨qa,nV,pL⟩:=fV;obtain⟨pT,n9,oO,pE⟩:=C_read_sum;refine F.okV sc_read_brackets (λvs H Q E h=>?_) (λcdv A outer s H vs Q E hr h=>?_)
 ·obtain⟨p,e,us,rfl,_⟩:=h;rfl
 ·obtain⟨p,e,us,rfl,hA,he,k1,k2⟩:=h;obtain⟨dx,pm,d,h1⟩:=hA.ins
  refine⟨_,(ae (cR (ba (pv 0) R.cl nW qc (hr.mono (by omega)) pM .nil (aV (λ_ _ _ z=>z))))
   (ae (am (i:=1) sc_read_brackets.nd rfl (Or.inl rfl) (aq pT (hr.mono (by omega)) rfl n9 oO pE .nil (aV (λ_ _ _ z=>z)) (aa (pv 0) ad)))
   (ae (cR (ba (pv 0) R.cl nV qa (hr.mono (by omega)) pL .nil (aV (λ_ _ _ z=>z))))
   (ai (ar (pv 1)))))),?_⟩
  cases n with
  |zero=>exact c0 ⟨_,rfl,p,dx,_,rfl,h1,fno nN,p,e,us,rfl,hA,by omega,λlt=>absurd lt (by omega),λlt=>absurd lt (by omega),λ_=>k2 us rfl⟩
  |succ m =>
   refine c0 ⟨_,rfl,p,dx,_,rfl,h1,fno nN,p,e,us,rfl,hA,by omega,λlt em H1 sb1 ra1=>?_,λlt em=>k2 us (by rw[rG];exact iu em),λz=>absurd z (by omega)⟩;have eB:pBr (So (m+1)) us=aG (pS m us.tail) λt u2=>bc [41] u2 λu3=>.inr (t,u3):=by rw[rG];exact ir em
   refine ay ⟨_,rfl,p,(e.1,e.2+1),us.tail,rfl,ra1,by show e.2+1+m=10;omega,λt r ht q H2 sb2 ra2 hT hq=>?_,λr ht=>XAt.step (k2 r (by rw[eB,ht];rfl)) sb1⟩;obtain⟨dx2,pm2,d2,h12⟩:=ra2.ins;have e2:pBr (So (m+1)) us=bc [41] r λu3=>.inr (t,u3):=by rw[eB,ht];rfl
   refine c0 ⟨_,rfl,p,dx2,_,rfl,h12,fno rP,p,e,r,rfl,ra2,λem3 H3 sb3 ra3=>?_,λz=>XAt.step (k2 r (by rw[e2];exact iu z)) (sb1.trans sb2)⟩;exact⟨_,rfl,k1 t r.tail (by rw[e2];exact ir em3) q H3 ((sb1.trans sb2).trans sb3) ra3 (hT.sb sb3) (sb1.free hA.isS hq ra1.isS)⟩
theorem xJ{tc:TC}{n:Nat}{C CWhole CNamed CRooted CGiven CRatio CNoText f:Addr}{fd:FuncData}(F:Fun K "read_atom" "read_atom" dO f fd)(T:Txt K mg)(R:QC K mg C)(ew:tc.wh=CWhole)(en:tc.na=CNamed)(er:tc.ro=CRooted)(eg:tc.gi=CGiven)(ea:tc.ra=CRatio){d9:Addr}{d7:FuncData}(eD:Cal P w K mg base 2 "is_whole" ["word"] fC d9 d7){bF:Addr}{bE:FuncData}(bA:MCal P w K mg base 1 C "seen" ["self"] (cA C) bF bE){jZ:Addr}{jI:FuncData}{kg:List Value}(kI:KCal P w K mg base 1 CWhole "Whole" ["self","value"] (cn CWhole "value") jZ jI kg []){ck:Addr}{cj:FuncData}(bW:MCal P w K mg base 2 C "step" ["self"] (cZ C) ck cj){jX:Addr}{jG:FuncData}(kH:Cal P w K mg base 2 "is_name" ["word"] iR jX jG){j7:Addr}{jO:FuncData}{kn:List Value}(kP:KCal P w K mg base 1 CNamed "Named" ["self","word"] (cn CNamed "word") j7 jO kn []){bV:Addr}{bU:FuncData}(bJ:MCal P w K mg base 2 C "passes" ["self","mark"] (cT C) bV bU){j4:Addr}{jL:FuncData}{kj:List Value}(kM:KCal P w K mg base 1 CRooted "Rooted" ["self","one","exponent"] (aY CRooted "one" "power") j4 jL kj []){jT:Addr}{jC:FuncData}(kG:CalV P w K mg base 7 "read_given" ["reading"] (iS C CNoText CGiven CRatio) jT jC){jV:Addr}{jE:FuncData}(C_read_brackets:CalV P w K mg base (6*n+7) "read_brackets" ["reading"] (spP C CNoText tc (pBr (So n)) n) jV jE):FnOk P w K mg base (CXV P w) (6*n+8) f fd ["reading"] (spP C CNoText tc (bo (So n)) n):=by
 obtain⟨kE,jm,jw,kx⟩:=eD;obtain⟨bO,bK,bM⟩:=bA;obtain⟨DL,Dj,zt,CP,EC,Er⟩:=kI;obtain⟨cL,cH,cK⟩:=bW;obtain⟨DB,zi,Aj,CC⟩:=kH;obtain⟨DS,Dp,zz,CZ,EJ,Ey⟩:=kP;obtain⟨cc,b0,ca⟩:=bJ;obtain⟨uT,uI,sH,uG,EF,Eu⟩:=kM;obtain⟨Dx,zd,Af,Cy⟩:=kG;obtain⟨pX,oi,oS,pI⟩:=C_read_brackets;subst ew en er eg ea;refine F.okV vU (λvs H Q E h=>?_) (λcdv A outer s H vs Q E hr h=>?_)
 ·obtain⟨p,e,us,rfl,_⟩:=h;rfl
 ·obtain⟨p,e,us,rfl,hA,he,k1,k2⟩:=h;have big:=sizeLine_eq;obtain⟨dx,pm,d,h1⟩:=hA.ins;obtain⟨ma,ml⟩:=hA.mh
  refine⟨_,(ae (aF (bu (aq kE (hr.mono (by omega)) rfl jm jw kx .nil ak (aa (ba (pv 0) R.cl bK bO (hr.mono (by omega)) bM .nil ak) ad)))
   (ai (ar (cE Dj DL (hr.mono (by omega)) rfl zt CP .nil ak (aa (cv mn (by rfl) T.int_ PyProof.Rows.boot_int (aa (ba (pv 0) R.cl cH cL (hr.mono (by omega)) cK .nil ak) ad)) ad))))
   aJ)
   (ae (aF (bu (aq DB (hr.mono (by omega)) rfl zi Aj CC .nil ak (aa (ba (pv 0) R.cl bK bO (hr.mono (by omega)) bM .nil ak) ad)))
     (ai (ar (cE Dp DS (hr.mono (by omega)) rfl zz CZ .nil ak (aa (ba (pv 0) R.cl cH cL (hr.mono (by omega)) cK .nil ak) ad))))
     aJ)
   (ae (aF (bu (cp (pv 0) R.cl b0 cc (hr.mono (by omega)) ca .nil ak (aa al ad)))
     (ai (ar (cE uI uT (hr.mono (by omega)) rfl sH uG .nil ak (aa (aq pX (hr.mono (by omega)) rfl oi oS pI .nil (aV (λ_ _ _ z=>z)) (aa (pv 0) ad)) (aa ac ad)))))
     aJ)
   (ae (aF (bu (cp (pv 0) R.cl b0 cc (hr.mono (by omega)) ca .nil ak (aa al ad)))
     (ai (ar (cE uI uT (hr.mono (by omega)) rfl sH uG .nil ak (aa (aq pX (hr.mono (by omega)) rfl oi oS pI .nil (aV (λ_ _ _ z=>z)) (aa (pv 0) ad)) (aa ac ad)))))
     aJ)
   (ae (aF (bu (cp (pv 0) R.cl b0 cc (hr.mono (by omega)) ca .nil ak (aa al ad)))
     (ai (ar (aq Dx (hr.mono (by omega)) rfl zd Af Cy .nil (aV (λ_ _ _ z=>z)) (aa (pv 0) ad))))
     aJ)
   (ai (ar (aq pX (hr.mono (by omega)) rfl oi oS pI .nil (aV (λ_ _ _ z=>z)) (aa (pv 0) ad))))))))),?_⟩
  refine ax ⟨_,rfl,p,dx,_,rfl,h1,fno br,p,e,us,rfl,hA,mhd us,rfl,ma,by omega,λH1 s1=>⟨_,rfl,?_⟩⟩;have hA1:=hA.same s1;obtain⟨dx1,pm1,d1,h11⟩:=hA1.ins;cases hN:isN (mhd us)with
  |true =>
   refine aB ?_;cases us with
   |nil=>exact absurd hN (by decide)
   |cons u r =>have hN':isN u.1=true:=hN;have hu:=hA.is u (by simp);have hD':=lS (m:=u.1) hN';refine⟨_,rfl,p,dx1,_,rfl,h11,fno ci,p,e,u,r,rfl,hA1,λH2 sb2 ra2=>?_⟩;refine⟨_,((NumText.digitsVal u.1:Nat):Int),rfl,by rw[aU];omega,kt hD' hu.1 (by omega),n6 (a:=.int ((NumText.digitsVal u.1:Nat):Int)) λx H3 dx3 s3 hx ex=>?_⟩;have sb:=(s1.toB.trans sb2);exact k1 (.whole (NumText.digitsVal u.1)) r (by unfold bo;rw[hN];rfl) x H3 (sb.trans s3.toB) (ra2.same s3) ⟨ra2.nn hx,dx3,ex⟩ (sb.free hA.isS hx ra2.isS)
  |false =>
  refine aE ?_;refine ax ⟨_,rfl,p,dx1,_,rfl,h11,fno br,p,e,us,rfl,hA1,mhd us,rfl,ma,by omega,λH2 s2=>⟨_,rfl,?_⟩⟩;have hA2:=hA1.same s2;have s12:=s1.trans s2;obtain⟨dx2,pm2,d2,h12⟩:=hA2.ins;cases hM:cI (mhd us)with
  |true =>
   refine aB ?_;cases us with
   |nil=>exact absurd hM (by decide)
   |cons u r =>
    refine⟨_,rfl,p,dx2,_,rfl,h12,fno ci,p,e,u,r,rfl,hA2,λH3 sb3 ra3=>?_⟩;refine n6 (a:=.str (stL u.1)) λx H4 dx4 s4 hx ex=>?_
    have sb:=(s12.toB.trans sb3);exact k1 (.named u.1) r (by unfold bo;rw[hN,hM];rfl) x H4 (sb.trans s4.toB) (ra3.same s4) ⟨ra3.nn hx,dx4,ex⟩ (sb.free hA.isS hx ra3.isS)
  |false =>
  refine aE ?_
  have eA:bo (So n) us=if mhd us=cM then aG (pBr (So n) us.tail) λt r=>.inr (.rooted t 2,r)
   else if mhd us=cN then aG (pBr (So n) us.tail) λt r=>.inr (.rooted t 3,r)
   else if mhd us=bP then bC (So n).isSome us.tail
   else pBr (So n) us:=by
   unfold bo;rw[hN,hM];rfl
  have rooted:∀(k:Nat) (H3:Hp) (r:List Mk),SameB p H H3->RdA C H3 p e r->bo (So n) us=aG (pBr (So n) r) (λt r=>.inr (.rooted t k,r))->spP C CNoText tc (pBr (So n)) n [.ref p] H3 (λv H4=>∃a,v=.ref a/\∀x dx:Addr,H4 x=none->H4 dx=none->dx≠x->aY tc.ro "one" "power" (.ref x::([.ref a,.int (k:Nat)]++[])) (upd (upd H4 dx (.own x)) x (.ins tc.ro dx [])) (λv H5=>v=.non/\Q (.ref x) H5) E) E:=λk H3 r sb3 ra3 eK=>by refine⟨p,e,r,rfl,ra3,he,λt r4 ht q H4 sb4 ra4 hT hq=>⟨q,rfl,iC (a:=.ref q) (b:=.int (k:Nat)) λx H5 dx5 s5 hx ex=>?_⟩,λr4 ht=>XAt.step (k2 r4 (by rw[eK,ht];rfl)) sb3⟩;have sb:=sb3.trans sb4;exact k1 (.rooted t k) r4 (by rw[eK,ht];rfl) x H5 (sb.trans s5.toB) (ra4.same s5) ⟨ra4.nn hx,dx5,q,ex,hT.same s5⟩ (sb.free hA.isS hx ra4.isS)
  refine ax ⟨_,rfl,p,dx2,_,rfl,h12,fno bD,p,e,us,cM,by rw[<- ot];rfl,hA2,by decide,λu r eu em H3 sb3 ra3=>⟨_,rfl,aB ?_⟩,λh4=>⟨_,rfl,aE ?_⟩⟩
  ·subst eu;have sb:=s12.toB.trans sb3;obtain⟨p',e',us',z1,z2,z3,z4,z5⟩:=rooted 2 H3 r sb ra3 (by rw[eA,if_pos (show mhd (u::r)=cM from em)];rfl);refine⟨_,rfl,p',e',us',z1,z2,z3,λt r4 ht q H4 a b c d=>?_,z5⟩;obtain⟨_,z,w⟩:=z4 t r4 ht q H4 a b c d;cases z;exact w
  refine ax ⟨_,rfl,p,dx2,_,rfl,h12,fno bD,p,e,us,cN,by rw[<- oH];rfl,hA2,by decide,λu r eu em H3 sb3 ra3=>⟨_,rfl,aB ?_⟩,λh5=>⟨_,rfl,aE ?_⟩⟩
  ·subst eu;have sb:=s12.toB.trans sb3;obtain⟨p',e',us',z1,z2,z3,z4,z5⟩:=rooted 3 H3 r sb ra3 (by rw[eA,if_neg h4,if_pos (show mhd (u::r)=cN from em)];rfl);refine⟨_,rfl,p',e',us',z1,z2,z3,λt r4 ht q H4 a b c d=>?_,z5⟩;obtain⟨_,z,w⟩:=z4 t r4 ht q H4 a b c d;cases z;exact w
  refine ax ⟨_,rfl,p,dx2,_,rfl,h12,fno bD,p,e,us,bP,by rw[<- oz];rfl,hA2,by decide,λu r eu em H3 sb3 ra3=>⟨_,rfl,aB ?_⟩,λh6=>⟨_,rfl,aE ?_⟩⟩
  ·subst eu;have sb:=s12.toB.trans sb3
   have eG:bo (So n) (u::r)=bC (decide (e.2<10)) r:=by
    rw[eA,if_neg h4,if_neg h5,if_pos (show mhd (u::r)=bP from em)];show bC (So n).isSome r=_
    congr 1
    cases n with
    |zero=>rw[decide_eq_false (by omega)];rfl
    |succ m=>rw[decide_eq_true (by omega)];rfl
   refine⟨_,rfl,p,e,r,rfl,ra3,by omega,λkp l h r4 hg q H4 sb4 ra4 hT hq=>k1 (.given kp l h) r4 (by rw[eG,hg]) q H4 (sb.trans sb4) ra4 hT (sb.free hA.isS hq ra3.isS),λr4 hg=>XAt.step (k2 r4 (by rw[eG,hg])) sb⟩
  ·have eB:bo (So n) us=pBr (So n) us:=by rw[eA,if_neg h4,if_neg h5,if_neg h6]
   exact⟨_,rfl,p,e,us,rfl,hA2,he,λt r ht q H4 sb4 ra4 hT hq=>k1 t r (by rw[eB,ht]) q H4 (s12.toB.trans sb4) ra4 hT (s12.toB.free hA.isS hq hA2.isS),λr ht=>XAt.step (k2 r (by rw[eB,ht])) s12.toB⟩
theorem xC{tc:TC}{n:Nat}{C CPower CNoText f:Addr}{fd:FuncData}(F:Fun K "read_power" "read_power" dL f fd)(T:Txt K mg)(R:QC K mg C)(ew:tc.po=CPower){jW:Addr}{jF:FuncData}(C_read_atom:CalV P w K mg base (6*n+8) "read_atom" ["reading"] (spP C CNoText tc (bo (So n)) n) jW jF){bV:Addr}{bU:FuncData}(bJ:MCal P w K mg base 2 C "passes" ["self","mark"] (cT C) bV bU){fQ:Addr}{fM:FuncData}(fU:CalV P w K mg base 3 "read_exponent" ["reading"] (gd C CNoText) fQ fM){j5:Addr}{jM:FuncData}{kl:List Value}(kN:KCal P w K mg base 1 CPower "Power" ["self","one","exponent"] (aY CPower "one" "power") j5 jM kl []):FnOk P w K mg base (CXV P w) (6*n+9) f fd ["reading"] (spP C CNoText tc (bY (So n)) n):=by
 obtain⟨Dy,ze,Ag,Cz⟩:=C_read_atom;obtain⟨cc,b0,ca⟩:=bJ;obtain⟨pW,oh,oR,pH⟩:=fU;obtain⟨DQ,Dn,zx,CW,EH,Ew⟩:=kN;subst ew;refine F.okV sc_read_power (λvs H Q E h=>?_) (λcdv A outer s H vs Q E hr h=>?_)
 ·obtain⟨p,e,us,rfl,_⟩:=h;rfl
 ·obtain⟨p,e,us,rfl,hA,he,k1,k2⟩:=h
  refine⟨_,(ae (am (i:=1) sc_read_power.nd rfl (Or.inl rfl) (aq Dy (hr.mono (by omega)) rfl ze Ag Cz .nil (aV (λ_ _ _ z=>z)) (aa (pv 0) ad)))
   (ae (aF (bu (cp (pv 0) R.cl b0 cc (hr.mono (by omega)) ca .nil ak (aa al ad)))
     (ai (ar (cE Dn DQ (hr.mono (by omega)) rfl zx CW .nil ak (aa (pv 1) (aa (aq pW (hr.mono (by omega)) rfl oh oR pH .nil (aV (λ_ _ _ z=>z)) (aa (pv 0) ad)) ad)))))
     aJ)
   (ai (ar (pv 1))))),?_⟩
  refine ay ⟨_,rfl,p,e,us,rfl,hA,he,λt r ht q H1 sb1 ra1 hT hq=>?_,λr ht=>k2 r (by unfold bY;rw[ht];rfl)⟩;have eP:bY (So n) us=dU t r:=by unfold bY;rw[ht];rfl
  obtain⟨dx1,pm1,d1,h11⟩:=ra1.ins;refine ax ⟨_,rfl,p,dx1,_,rfl,h11,fno bD,p,e,r,[94],by rw[<- oF];rfl,ra1,by decide,λu r2 eu em H2 sb2 ra2=>⟨_,rfl,aB ?_⟩,λh4=>⟨_,rfl,aE ?_⟩⟩
  ·subst eu;have sb:=sb1.trans sb2
   have eL:bY (So n) us=if isE (mhd r2)then .inr (.power t (NumText.digitsVal (mhd r2)),r2.tail)else .inl r2:=by rw[eP];unfold dU;rw[if_pos (show mhd (u::r2)=[94]from em)];rfl
   refine⟨_,rfl,_,rfl,p,e,r2,rfl,ra2,λu3 r3 eu3 hE H3 sb3 ra3=>iC (a:=.ref q) (b:=.int (NumText.digitsVal u3.1:Nat)) λx H4 dx4 s4 hx ex=>?_,λhE=>XAt.step (k2 r2 (by rw[eL,hE];rfl)) sb⟩;subst eu3;have sbb:=sb.trans sb3;exact k1 (.power t (NumText.digitsVal u3.1)) r3 (by rw[eL,show isE (mhd (u3::r3))=true from hE];rfl) x H4 (sbb.trans s4.toB) (ra3.same s4) ⟨ra3.nn hx,dx4,q,ex,((hT.sb sb2).sb sb3).same s4⟩ (sbb.free hA.isS hx ra3.isS)
  ·exact⟨_,rfl,k1 t r (by rw[eP];unfold dU;rw[if_neg h4]) q H1 sb1 ra1 hT hq⟩
theorem xG{tc:TC}{n:Nat}{C CMinus CNoText f:Addr}{fd:FuncData}(F:Fun K "read_factor" "read_factor" dM f fd)(T:Txt K mg)(R:QC K mg C)(ew:tc.mi=CMinus){bV:Addr}{bU:FuncData}(bJ:MCal P w K mg base 2 C "passes" ["self","mark"] (cT C) bV bU){j8:Addr}{jP:FuncData}{ko:List Value}(kQ:KCal P w K mg base 1 CMinus "Minus" ["self","one"] (cn CMinus "one") j8 jP ko []){jS:Addr}{jB:FuncData}(C_read_power:CalV P w K mg base (6*n+9) "read_power" ["reading"] (spP C CNoText tc (bY (So n)) n) jS jB):FnOk P w K mg base (CXV P w) (6*n+10) f fd ["reading"] (spP C CNoText tc (aW (So n)) n):=by
 obtain⟨cc,b0,ca⟩:=bJ;obtain⟨DT,Dq,zA,C2,EK,Ez⟩:=kQ;obtain⟨uM,sx,sW,uz⟩:=C_read_power;subst ew;refine F.okV vR (λvs H Q E h=>?_) (λcdv A outer s H vs Q E hr h=>?_)
 ·obtain⟨p,e,us,rfl,_⟩:=h;rfl
 ·obtain⟨p,e,us,rfl,hA,he,k1,k2⟩:=h;obtain⟨dx,pm,d,h1⟩:=hA.ins
  refine⟨_,(ae (aF (bu (cp (pv 0) R.cl b0 cc (hr.mono (by omega)) ca .nil ak (aa al ad)))
   (ai (ar (cE Dq DT (hr.mono (by omega)) rfl zA C2 .nil ak (aa (aq uM (hr.mono (by omega)) rfl sx sW uz .nil (aV (λ_ _ _ z=>z)) (aa (pv 0) ad)) ad))))
   aJ)
   (ai (ar (aq uM (hr.mono (by omega)) rfl sx sW uz .nil (aV (λ_ _ _ z=>z)) (aa (pv 0) ad))))),?_⟩
  refine ax ⟨_,rfl,p,dx,_,rfl,h1,fno bD,p,e,us,[45],by rw[<- jq];rfl,hA,by decide,λu r eu em H1 sb1 ra1=>⟨_,rfl,aB ?_⟩,λh4=>⟨_,rfl,aE ?_⟩⟩
  ·subst eu
   have eF:aW (So n) (u::r)=aG (bY (So n) r) λt r=>.inr (.minus t,r):=by unfold aW;rw[if_pos (show mhd (u::r)=[45]from em)];rfl
   refine⟨_,rfl,p,e,r,rfl,ra1,he,λt r2 ht q H2 sb2 ra2 hT hq=>n6 (a:=.ref q) λx H3 dx3 s3 hx ex=>?_,λr2 ht=>XAt.step (k2 r2 (by rw[eF,ht];rfl)) sb1⟩;have sb:=sb1.trans sb2;exact k1 (.minus t) r2 (by rw[eF,ht];rfl) x H3 (sb.trans s3.toB) (ra2.same s3) ⟨ra2.nn hx,dx3,q,ex,hT.same s3⟩ (sb.free hA.isS hx ra2.isS)
  ·have eF:aW (So n) us=bY (So n) us:=by unfold aW;rw[if_neg h4]
   exact⟨_,rfl,p,e,us,rfl,hA,he,λt r ht q H4 sb4 ra4 hT hq=>k1 t r (by rw[eF,ht]) q H4 sb4 ra4 hT hq,λr ht=>k2 r (by rw[eF,ht])⟩
theorem AG:∀m:List Nat,inV (.str (stL m)) [.str (Str.ofString "*"),.str (Str.ofString "/")]=(decide (m=[42]) ||decide (m=[47])):=λm=>by
 rw[jp,oy];show(eqV (.str (stL [42])) (.str (stL m)) || (eqV (.str (stL [47])) (.str (stL m)) ||false))=_;rw[cm,cm,Bool.or_false];have h1:decide ([42]=m)=decide (m=[42]):=by rw[decide_eq_decide];exact eq_comm
 have h2:decide ([47]=m)=decide (m=[47]):=by rw[decide_eq_decide];exact eq_comm
 rw[h1,h2]
def LpI(C:Addr)(tc:TC)(p:Addr)(e:Nat×Nat)(res:Res PT)(F:List Mk->Res PT)(a b:List Nat)(f g:PT->PT->PT)(H:Hp)(m:Nat)(σ':St)(H':Hp):Prop:=∃(q:Addr) (t:PT) (us:List Mk),m=us.length/\σ'=[some (.ref p),some (.ref q)]/\SameB p H H'/\RdA C H' p e us/\H q=none/\PtH tc p H' t q/\res=aT F a b f g us.length t us
theorem xB{tc:TC}{n:Nat}{C CTimes COver CNoText f:Addr}{fd:FuncData}(F:Fun K "read_product" "read_product" dJ f fd)(T:Txt K mg)(R:QC K mg C)(ew:tc.ti=CTimes)(en:tc.ov=COver){jU:Addr}{jD:FuncData}(C_read_factor:CalV P w K mg base (6*n+10) "read_factor" ["reading"] (spP C CNoText tc (aW (So n)) n) jU jD){bF:Addr}{bE:FuncData}(bA:MCal P w K mg base 1 C "seen" ["self"] (cA C) bF bE){ck:Addr}{cj:FuncData}(bW:MCal P w K mg base 2 C "step" ["self"] (cZ C) ck cj){j0:Addr}{jJ:FuncData}{kh:List Value}(kJ:KCal P w K mg base 1 CTimes "Times" ["self","one","other"] (aY CTimes "one" "other") j0 jJ kh []){j6:Addr}{jN:FuncData}{km:List Value}(kO:KCal P w K mg base 1 COver "Over" ["self","one","other"] (aY COver "one" "other") j6 jN km []):FnOk P w K mg base (CXV P w) (6*n+10+1) f fd ["reading"] (spP C CNoText tc (aS (So n)) n):=by
 obtain⟨pV,og,oQ,pG⟩:=C_read_factor;obtain⟨bO,bK,bM⟩:=bA;obtain⟨cL,cH,cK⟩:=bW;obtain⟨DM,Dk,zu,CQ,ED,Es⟩:=kJ;obtain⟨DR,Do,zy,CY,EI,Ex⟩:=kO;subst ew en;refine F.okV sc_read_product (λvs H Q E h=>?_) (λcdv A outer s H vs Q E hr h=>?_)
 ·obtain⟨p,e,us,rfl,_⟩:=h;rfl
 ·obtain⟨p,e,us0,rfl,hA,he,k1,k2⟩:=h
  refine⟨_,(ae (am (i:=1) sc_read_product.nd rfl (Or.inl rfl) (aq pV (hr.mono (by omega)) rfl og oQ pG .nil (aV (λ_ _ _ z=>z)) (aa (pv 0) ad)))
   (ae (eO PassesOwn.leaving (aI (jg (K:=K) rfl) (ba (pv 0) R.cl bK bO (hr.mono (by omega)) bM .nil ak) (bj (aa al (aa al ad))) (by rfl))
     (ai (aF (aI cq (ba (pv 0) R.cl cH cL (hr.mono (by omega)) cK .nil ak) al (aA _))
       (ai (am (i:=1) sc_read_product.nd rfl (Or.inl rfl) (cE Dk DM (hr.mono (by omega)) rfl zu CQ .nil ak (aa (pv 1) (aa (aq pV (hr.mono (by omega)) rfl og oQ pG .nil (aV (λ_ _ _ z=>z)) (aa (pv 0) ad)) ad)))))
       (ai (am (i:=1) sc_read_product.nd rfl (Or.inl rfl) (cE Do DR (hr.mono (by omega)) rfl zy CY .nil ak (aa (pv 1) (aa (aq pV (hr.mono (by omega)) rfl og oQ pG .nil (aV (λ_ _ _ z=>z)) (aa (pv 0) ad)) ad))))))))
   (ai (ar (pv 1))))),?_⟩
  refine eM (λσ' H'=>∃m,LpI C tc p e (aS (So n) us0) (aW (So n)) [42] [47] .times .over H m σ' H') ?_ (λrest=>?_)
  rotate_left
  ·exact cg ⟨_,rfl,p,e,us0,rfl,hA,he,λt r ht q H1 sb1 ra1 hT hq=>rest _ _ ⟨_,q,t,r,rfl,rfl,sb1,ra1,hq,hT,by unfold aS;rw[ht];rfl⟩,λr ht=>k2 r (by unfold aS;rw[ht];rfl)⟩
  rintro σ' H1 ⟨m0,hI⟩;refine⟨λm σ' H'=>LpI C tc p e (aS (So n) us0) (aW (So n)) [42] [47] .times .over H m σ' H',⟨m0,hI⟩,?_⟩;clear hI;rintro m σ' H2 ⟨q,t,us,rfl,rfl,sb2,ra2,hq,hT,eq⟩;obtain⟨dx2,pm2,d2,h12⟩:=ra2.ins;refine⟨_,rfl,p,dx2,_,rfl,h12,fno br,p,e,us,rfl,ra2,by show 2<=sizeLine;decide,λpt hpt=>?_⟩;have u3:=Same.upd_new (o:=.tup [V.str (Str.ofString "*"),V.str (Str.ofString "/")]) hpt;refine⟨pt,_,rfl,.inr (SqT.of af),rfl,by decide,_,rfl,?_⟩;generalize upd H2 pt (.tup [V.str (Str.ofString "*"),V.str (Str.ofString "/")])=H3 at u3 ⊢
  have ra3:=ra2.same u3;have sb3:SameB p H H3:=sb2.trans u3.toB;have hT3:=hT.same u3;show if(inV (.str (stL (mhd us))) [.str (Str.ofString "*"),.str (Str.ofString "/")])=true then _ else _
  rw[AG];by_cases hs:mhd us=[42]\/mhd us=[47]
  rotate_left
  ·have hs1:mhd us≠[42]:=λz=>hs (.inl z)
   have hs2:mhd us≠[47]:=λz=>hs (.inr z)
   rw[decide_eq_false hs1,decide_eq_false hs2];refine aE ?_;exact⟨_,rfl,k1 t us (by rw[eq];exact jo hs1 hs2) q H3 sb3 ra3 hT3 hq⟩
  rw[show(decide (mhd us=[42]) ||decide (mhd us=[47]))=true by rcases hs with z |z<;>simp[z]];refine aB ?_;cases us with
  |nil=>rcases hs with z |z<;>cases z
  |cons u us =>
  refine⟨λσ'' H''=>∃m',m'<(u::us).length/\LpI C tc p e (aS (So n) us0) (aW (So n)) [42] [47] .times .over H m' σ'' H'',λ_ _ h=>h,?_⟩;obtain⟨dx3,pm3,d3,h13⟩:=ra3.ins;refine⟨_,rfl,p,dx3,_,rfl,h13,fno ci,p,e,u,us,rfl,ra3,λH4 sb4 ra4=>⟨rfl,_,rfl,?_⟩⟩;have sbb:=sb3.trans sb4;have hT4:=hT3.sb sb4
  have go:∀(h:PT->PT->PT),aS (So n) us0=aG (aW (So n) us) (λt2 r=>aT (aW (So n)) [42] [47] .times .over us.length (h t t2) r)->∀t2 r,aW (So n) us=.inr (t2,r)->aS (So n) us0=aT (aW (So n)) [42] [47] .times .over r.length (h t t2) r/\r.length<(u::us).length:=λh e1 t2 r e2=>by have l1:=iV (iL n) us t2 r e2;refine⟨?_,by rw[E1];omega⟩;rw[e1,e2];exact jn (iV (iL n)) _ _ _ _ (by decide) (by decide) _ _ _ _ (by omega) (EO _)
  by_cases hp:u.1=[42]
  ·rw[hp];refine ap (λ_=>?_) (λz=>absurd (by rw[<- jp]) z)
   have e1:aS (So n) us0=aG (aW (So n) us) (λt2 r=>aT (aW (So n)) [42] [47] .times .over us.length (PT.times t t2) r):=by rw[eq];exact if_pos (show mhd (u::us)=[42]from hp)
   refine cg ⟨_,rfl,_,rfl,p,e,us,rfl,ra4,he,λt2 r2 ht2 q2 H5 sb5 ra5 hT5 hq2=>iC (a:=.ref q) (b:=.ref q2) λx H6 dx6 s6 hx ex=>?_,λr2 ht2=>XAt.step (k2 r2 (by rw[e1,ht2];rfl)) sbb⟩;obtain⟨e3,lt⟩:=go _ e1 t2 r2 ht2;exact⟨_,lt,x,.times t t2,r2,rfl,rfl,(sbb.trans sb5).trans s6.toB,ra5.same s6,(sbb.trans sb5).free hA.isS hx ra5.isS,⟨ra5.nn hx,dx6,q,q2,ex,(hT4.sb sb5).same s6,hT5.same s6⟩,e3⟩
  ·have hb:=hs.resolve_left hp;have hb':u.1=[47]:=hb;rw[hb'];refine ap (λz=>absurd (stL_inj.mp ((V.str.inj z).trans jp)) (by decide)) (λ_=>?_)
   have e1:aS (So n) us0=aG (aW (So n) us) (λt2 r=>aT (aW (So n)) [42] [47] .times .over us.length (PT.over t t2) r):=by rw[eq];exact(if_neg (show ¬mhd (u::us)=[42]from hp)).trans (if_pos hb)
   refine cg ⟨_,rfl,_,rfl,p,e,us,rfl,ra4,he,λt2 r2 ht2 q2 H5 sb5 ra5 hT5 hq2=>iC (a:=.ref q) (b:=.ref q2) λx H6 dx6 s6 hx ex=>?_,λr2 ht2=>XAt.step (k2 r2 (by rw[e1,ht2];rfl)) sbb⟩;obtain⟨e3,lt⟩:=go _ e1 t2 r2 ht2;exact⟨_,lt,x,.over t t2,r2,rfl,rfl,(sbb.trans sb5).trans s6.toB,ra5.same s6,(sbb.trans sb5).free hA.isS hx ra5.isS,⟨ra5.nn hx,dx6,q,q2,ex,(hT4.sb sb5).same s6,hT5.same s6⟩,e3⟩
theorem xA{tc:TC}{n:Nat}{C CSum CLess CNoText f:Addr}{fd:FuncData}(F:Fun K "read_sum" "read_sum" dw f fd)(T:Txt K mg)(R:QC K mg C)(ew:tc.su=CSum)(en:tc.le=CLess){jR:Addr}{jA:FuncData}(C_read_product:CalV P w K mg base (6*n+11) "read_product" ["reading"] (spP C CNoText tc (aS (So n)) n) jR jA){bF:Addr}{bE:FuncData}(bA:MCal P w K mg base 1 C "seen" ["self"] (cA C) bF bE){ck:Addr}{cj:FuncData}(bW:MCal P w K mg base 2 C "step" ["self"] (cZ C) ck cj){j3:Addr}{jK:FuncData}{ki:List Value}(kL:KCal P w K mg base 1 CSum "Sum" ["self","one","other"] (aY CSum "one" "other") j3 jK ki []){j9:Addr}{jQ:FuncData}{kq:List Value}(kR:KCal P w K mg base 1 CLess "Less" ["self","one","other"] (aY CLess "one" "other") j9 jQ kq []):FnOk P w K mg base (CXV P w) (6*n+11+1) f fd ["reading"] (spP C CNoText tc (bX (So n)) n):=by
 obtain⟨pU,oa,oP,pF⟩:=C_read_product;obtain⟨bO,bK,bM⟩:=bA;obtain⟨cL,cH,cK⟩:=bW;obtain⟨DN,Dl,zv,CS,EE,Et⟩:=kL;obtain⟨DU,Dr,zB,C3,EL,EA⟩:=kR;subst ew en;refine F.okV sc_read_sum (λvs H Q E h=>?_) (λcdv A outer s H vs Q E hr h=>?_)
 ·obtain⟨p,e,us,rfl,_⟩:=h;rfl
 ·obtain⟨p,e,us0,rfl,hA,he,k1,k2⟩:=h
  refine⟨_,(ae (am (i:=1) sc_read_sum.nd rfl (Or.inl rfl) (aq pU (hr.mono (by omega)) rfl oa oP pF .nil (aV (λ_ _ _ z=>z)) (aa (pv 0) ad)))
   (ae (eO PassesOwn.leaving (aI (jg (K:=K) rfl) (ba (pv 0) R.cl bK bO (hr.mono (by omega)) bM .nil ak) (bj (aa al (aa al ad))) (by rfl))
     (ai (aF (aI cq (ba (pv 0) R.cl cH cL (hr.mono (by omega)) cK .nil ak) al (aA _))
       (ai (am (i:=1) sc_read_sum.nd rfl (Or.inl rfl) (cE Dl DN (hr.mono (by omega)) rfl zv CS .nil ak (aa (pv 1) (aa (aq pU (hr.mono (by omega)) rfl oa oP pF .nil (aV (λ_ _ _ z=>z)) (aa (pv 0) ad)) ad)))))
       (ai (am (i:=1) sc_read_sum.nd rfl (Or.inl rfl) (cE Dr DU (hr.mono (by omega)) rfl zB C3 .nil ak (aa (pv 1) (aa (aq pU (hr.mono (by omega)) rfl oa oP pF .nil (aV (λ_ _ _ z=>z)) (aa (pv 0) ad)) ad))))))))
   (ai (ar (pv 1))))),?_⟩
  refine eM (λσ' H'=>∃m,LpI C tc p e (bX (So n) us0) (aS (So n)) [43] [45] .sum .less H m σ' H') ?_ (λrest=>?_)
  rotate_left
  ·exact cg ⟨_,rfl,p,e,us0,rfl,hA,he,λt r ht q H1 sb1 ra1 hT hq=>rest _ _ ⟨_,q,t,r,rfl,rfl,sb1,ra1,hq,hT,by unfold bX;rw[ht];rfl⟩,λr ht=>k2 r (by unfold bX;rw[ht];rfl)⟩
  rintro σ' H1 ⟨m0,hI⟩;refine⟨λm σ' H'=>LpI C tc p e (bX (So n) us0) (aS (So n)) [43] [45] .sum .less H m σ' H',⟨m0,hI⟩,?_⟩;clear hI;rintro m σ' H2 ⟨q,t,us,rfl,rfl,sb2,ra2,hq,hT,eq⟩;obtain⟨dx2,pm2,d2,h12⟩:=ra2.ins;refine⟨_,rfl,p,dx2,_,rfl,h12,fno br,p,e,us,rfl,ra2,by show 2<=sizeLine;decide,λpt hpt=>?_⟩;have u3:=Same.upd_new (o:=.tup [V.str (Str.ofString "+"),V.str (Str.ofString "-")]) hpt;refine⟨pt,_,rfl,.inr (SqT.of af),rfl,by decide,_,rfl,?_⟩;generalize upd H2 pt (.tup [V.str (Str.ofString "+"),V.str (Str.ofString "-")])=H3 at u3 ⊢
  have ra3:=ra2.same u3;have sb3:SameB p H H3:=sb2.trans u3.toB;have hT3:=hT.same u3;show if(inV (.str (stL (mhd us))) [.str (Str.ofString "+"),.str (Str.ofString "-")])=true then _ else _
  rw[tH];by_cases hs:mhd us=[43]\/mhd us=[45]
  rotate_left
  ·have hs1:mhd us≠[43]:=λz=>hs (.inl z)
   have hs2:mhd us≠[45]:=λz=>hs (.inr z)
   rw[decide_eq_false hs1,decide_eq_false hs2];refine aE ?_;exact⟨_,rfl,k1 t us (by rw[eq];exact jo hs1 hs2) q H3 sb3 ra3 hT3 hq⟩
  rw[show(decide (mhd us=[43]) ||decide (mhd us=[45]))=true by rcases hs with z |z<;>simp[z]];refine aB ?_;cases us with
  |nil=>rcases hs with z |z<;>cases z
  |cons u us =>
  refine⟨λσ'' H''=>∃m',m'<(u::us).length/\LpI C tc p e (bX (So n) us0) (aS (So n)) [43] [45] .sum .less H m' σ'' H'',λ_ _ h=>h,?_⟩;obtain⟨dx3,pm3,d3,h13⟩:=ra3.ins;refine⟨_,rfl,p,dx3,_,rfl,h13,fno ci,p,e,u,us,rfl,ra3,λH4 sb4 ra4=>⟨rfl,_,rfl,?_⟩⟩;have sbb:=sb3.trans sb4;have hT4:=hT3.sb sb4
  have go:∀(h:PT->PT->PT),bX (So n) us0=aG (aS (So n) us) (λt2 r=>aT (aS (So n)) [43] [45] .sum .less us.length (h t t2) r)->∀t2 r,aS (So n) us=.inr (t2,r)->bX (So n) us0=aT (aS (So n)) [43] [45] .sum .less r.length (h t t2) r/\r.length<(u::us).length:=λh e1 t2 r e2=>by have l1:=iU (iL n) us t2 r e2;refine⟨?_,by rw[E1];omega⟩;rw[e1,e2];exact jn (iU (iL n)) _ _ _ _ (by decide) (by decide) _ _ _ _ (by omega) (EO _)
  by_cases hp:u.1=[43]
  ·rw[hp];refine ap (λ_=>?_) (λz=>absurd (by rw[<- iE]) z)
   have e1:bX (So n) us0=aG (aS (So n) us) (λt2 r=>aT (aS (So n)) [43] [45] .sum .less us.length (PT.sum t t2) r):=by rw[eq];exact if_pos (show mhd (u::us)=[43]from hp)
   refine cg ⟨_,rfl,_,rfl,p,e,us,rfl,ra4,he,λt2 r2 ht2 q2 H5 sb5 ra5 hT5 hq2=>iC (a:=.ref q) (b:=.ref q2) λx H6 dx6 s6 hx ex=>?_,λr2 ht2=>XAt.step (k2 r2 (by rw[e1,ht2];rfl)) sbb⟩;obtain⟨e3,lt⟩:=go _ e1 t2 r2 ht2;exact⟨_,lt,x,.sum t t2,r2,rfl,rfl,(sbb.trans sb5).trans s6.toB,ra5.same s6,(sbb.trans sb5).free hA.isS hx ra5.isS,⟨ra5.nn hx,dx6,q,q2,ex,(hT4.sb sb5).same s6,hT5.same s6⟩,e3⟩
  ·have hb:=hs.resolve_left hp;have hb':u.1=[45]:=hb;rw[hb'];refine ap (λz=>absurd (stL_inj.mp ((V.str.inj z).trans iE)) (by decide)) (λ_=>?_)
   have e1:bX (So n) us0=aG (aS (So n) us) (λt2 r=>aT (aS (So n)) [43] [45] .sum .less us.length (PT.less t t2) r):=by rw[eq];exact(if_neg (show ¬mhd (u::us)=[43]from hp)).trans (if_pos hb)
   refine cg ⟨_,rfl,_,rfl,p,e,us,rfl,ra4,he,λt2 r2 ht2 q2 H5 sb5 ra5 hT5 hq2=>iC (a:=.ref q) (b:=.ref q2) λx H6 dx6 s6 hx ex=>?_,λr2 ht2=>XAt.step (k2 r2 (by rw[e1,ht2];rfl)) sbb⟩;obtain⟨e3,lt⟩:=go _ e1 t2 r2 ht2;exact⟨_,lt,x,.less t t2,r2,rfl,rfl,(sbb.trans sb5).trans s6.toB,ra5.same s6,(sbb.trans sb5).free hA.isS hx ra5.isS,⟨ra5.nn hx,dx6,q,q2,ex,(hT4.sb sb5).same s6,hT5.same s6⟩,e3⟩
theorem vD{C CWhole CNamed CGiven CMinus CSum CLess CTimes COver CPower CRooted CRatio CNoText:Addr}(T:Txt K mg)(R:QC K mg C){fS:Addr}{fO:FuncData}(fW:MCalV P w K mg base 4 C "enter" ["self"] (gf C CNoText) fS fO){fR:Addr}{fN:FuncData}(fV:MCalV P w K mg base 4 C "leave" ["self"] (gc C CNoText) fR fN){d9:Addr}{d7:FuncData}(eD:Cal P w K mg base 2 "is_whole" ["word"] fC d9 d7){bF:Addr}{bE:FuncData}(bA:MCal P w K mg base 1 C "seen" ["self"] (cA C) bF bE){jZ:Addr}{jI:FuncData}{kg:List Value}(kI:KCal P w K mg base 1 CWhole "Whole" ["self","value"] (cn CWhole "value") jZ jI kg []){ck:Addr}{cj:FuncData}(bW:MCal P w K mg base 2 C "step" ["self"] (cZ C) ck cj){jX:Addr}{jG:FuncData}(kH:Cal P w K mg base 2 "is_name" ["word"] iR jX jG){j7:Addr}{jO:FuncData}{kn:List Value}(kP:KCal P w K mg base 1 CNamed "Named" ["self","word"] (cn CNamed "word") j7 jO kn []){bV:Addr}{bU:FuncData}(bJ:MCal P w K mg base 2 C "passes" ["self","mark"] (cT C) bV bU){j4:Addr}{jL:FuncData}{kj:List Value}(kM:KCal P w K mg base 1 CRooted "Rooted" ["self","one","exponent"] (aY CRooted "one" "power") j4 jL kj []){jT:Addr}{jC:FuncData}(kG:CalV P w K mg base 7 "read_given" ["reading"] (iS C CNoText CGiven CRatio) jT jC){fQ:Addr}{fM:FuncData}(fU:CalV P w K mg base 3 "read_exponent" ["reading"] (gd C CNoText) fQ fM){j5:Addr}{jM:FuncData}{kl:List Value}(kN:KCal P w K mg base 1 CPower "Power" ["self","one","exponent"] (aY CPower "one" "power") j5 jM kl []){j8:Addr}{jP:FuncData}{ko:List Value}(kQ:KCal P w K mg base 1 CMinus "Minus" ["self","one"] (cn CMinus "one") j8 jP ko []){j0:Addr}{jJ:FuncData}{kh:List Value}(kJ:KCal P w K mg base 1 CTimes "Times" ["self","one","other"] (aY CTimes "one" "other") j0 jJ kh []){j6:Addr}{jN:FuncData}{km:List Value}(kO:KCal P w K mg base 1 COver "Over" ["self","one","other"] (aY COver "one" "other") j6 jN km []){j3:Addr}{jK:FuncData}{ki:List Value}(kL:KCal P w K mg base 1 CSum "Sum" ["self","one","other"] (aY CSum "one" "other") j3 jK ki []){j9:Addr}{jQ:FuncData}{kq:List Value}(kR:KCal P w K mg base 1 CLess "Less" ["self","one","other"] (aY CLess "one" "other") j9 jQ kq []){jV:Addr}{jE:FuncData}(C_read_brackets:RawC K mg "read_brackets" dN ["reading"] jV jE){jW:Addr}{jF:FuncData}(C_read_atom:RawC K mg "read_atom" dO ["reading"] jW jF){jS:Addr}{jB:FuncData}(C_read_power:RawC K mg "read_power" dL ["reading"] jS jB){jU:Addr}{jD:FuncData}(C_read_factor:RawC K mg "read_factor" dM ["reading"] jU jD){jR:Addr}{jA:FuncData}(C_read_product:RawC K mg "read_product" dJ ["reading"] jR jA){fh:Addr}{fg:FuncData}(C_read_sum:RawC K mg "read_sum" dw ["reading"] fh fg):∀n,CalV P w K mg base (6*n+12) "read_sum" ["reading"] (spP C CNoText ⟨CWhole,CNamed,CGiven,CMinus,CSum,CLess,CTimes,COver,CPower,CRooted,CRatio⟩ (pS n) n) fh fg:=by
 obtain⟨tc,htc⟩:∃tc:TC,tc=⟨CWhole,CNamed,CGiven,CMinus,CSum,CLess,CTimes,COver,CPower,CRooted,CRatio⟩:=⟨_,rfl⟩;rw[<- htc]
 have step:∀n,CalV P w K mg base (6*n+6) "read_sum" ["reading"] (spS C CNoText tc n) fh fg->CalV P w K mg base (6*n+12) "read_sum" ["reading"] (spP C CNoText tc (pS n) n) fh fg:=λn h=>by have B:=C_read_brackets.calV (xI C_read_brackets.fn T R fW fV h);have A:=C_read_atom.calV (xJ C_read_atom.fn T R (by rw[htc]) (by rw[htc]) (by rw[htc]) (by rw[htc]) (by rw[htc]) eD bA kI bW kH kP bJ kM kG B);have Po:=C_read_power.calV (xC C_read_power.fn T R (by rw[htc]) A bJ fU kN);have Fa:=C_read_factor.calV (xG C_read_factor.fn T R (by rw[htc]) bJ kQ Po);have Pr:=C_read_product.calV (xB C_read_product.fn T R (by rw[htc]) (by rw[htc]) Fa bA bW kJ kO);have Su:=C_read_sum.calV (xA C_read_sum.fn T R (by rw[htc]) (by rw[htc]) Pr bA bW kL kR);rw[nF];exact Su
 intro n
 induction n with
 |zero=>exact step 0 (C_read_sum.calV (yK C_read_sum.fn (k:=5)))
 |succ n ih=>exact step (n+1) ih
noncomputable def eS(us:List Mk):Res PT:=aG (pS 10 us) λt r=>if r=[]then .inr (t,[])else .inl r
def mL(CN:Addr)(tc:TC):Sp:=λvs H Q E=>∃l:List Nat,vs=[.str (stL l)]/\Pla l/\(∀t,eS (mks 0 l)=.inr (t,[])->∀(q av:Addr) (H':Hp),Same H H'->PtH tc av H' t q->H q=none->Q (.ref q) H')/\(∀r,eS (mks 0 l)=.inl r->∀(H':Hp) (d:Addr),Same H H'->H' d=some (.xd [(("at":Str),V.int (mbg l.length r:Nat))])->E (.ref CN) (some d) H')
theorem xK{C CWhole CNamed CGiven CMinus CSum CLess CTimes COver CPower CRooted CRatio CNoText f:Addr}{fd:FuncData}(F:Fun K "read" "read" gx f fd)(T:Txt K mg)(R:QC K mg C){BX:Addr}{Bx:FuncData}{B7:List Value}(Ej:KCal P w K mg base 4 C "Reading" ["self","text"] (mJ C) BX Bx B7 []){BW:Addr}{Bw:FuncData}(Ei:MCalV P w K mg base 3 C "finish" ["self"] (mW C CNoText) BW Bw){fS:Addr}{fO:FuncData}(fW:MCalV P w K mg base 4 C "enter" ["self"] (gf C CNoText) fS fO){fR:Addr}{fN:FuncData}(fV:MCalV P w K mg base 4 C "leave" ["self"] (gc C CNoText) fR fN){d9:Addr}{d7:FuncData}(eD:Cal P w K mg base 2 "is_whole" ["word"] fC d9 d7){bF:Addr}{bE:FuncData}(bA:MCal P w K mg base 1 C "seen" ["self"] (cA C) bF bE){jZ:Addr}{jI:FuncData}{kg:List Value}(kI:KCal P w K mg base 1 CWhole "Whole" ["self","value"] (cn CWhole "value") jZ jI kg []){ck:Addr}{cj:FuncData}(bW:MCal P w K mg base 2 C "step" ["self"] (cZ C) ck cj){jX:Addr}{jG:FuncData}(kH:Cal P w K mg base 2 "is_name" ["word"] iR jX jG){j7:Addr}{jO:FuncData}{kn:List Value}(kP:KCal P w K mg base 1 CNamed "Named" ["self","word"] (cn CNamed "word") j7 jO kn []){bV:Addr}{bU:FuncData}(bJ:MCal P w K mg base 2 C "passes" ["self","mark"] (cT C) bV bU){j4:Addr}{jL:FuncData}{kj:List Value}(kM:KCal P w K mg base 1 CRooted "Rooted" ["self","one","exponent"] (aY CRooted "one" "power") j4 jL kj []){jT:Addr}{jC:FuncData}(kG:CalV P w K mg base 7 "read_given" ["reading"] (iS C CNoText CGiven CRatio) jT jC){fQ:Addr}{fM:FuncData}(fU:CalV P w K mg base 3 "read_exponent" ["reading"] (gd C CNoText) fQ fM){j5:Addr}{jM:FuncData}{kl:List Value}(kN:KCal P w K mg base 1 CPower "Power" ["self","one","exponent"] (aY CPower "one" "power") j5 jM kl []){j8:Addr}{jP:FuncData}{ko:List Value}(kQ:KCal P w K mg base 1 CMinus "Minus" ["self","one"] (cn CMinus "one") j8 jP ko []){j0:Addr}{jJ:FuncData}{kh:List Value}(kJ:KCal P w K mg base 1 CTimes "Times" ["self","one","other"] (aY CTimes "one" "other") j0 jJ kh []){j6:Addr}{jN:FuncData}{km:List Value}(kO:KCal P w K mg base 1 COver "Over" ["self","one","other"] (aY COver "one" "other") j6 jN km []){j3:Addr}{jK:FuncData}{ki:List Value}(kL:KCal P w K mg base 1 CSum "Sum" ["self","one","other"] (aY CSum "one" "other") j3 jK ki []){j9:Addr}{jQ:FuncData}{kq:List Value}(kR:KCal P w K mg base 1 CLess "Less" ["self","one","other"] (aY CLess "one" "other") j9 jQ kq []){jV:Addr}{jE:FuncData}(C_read_brackets:RawC K mg "read_brackets" dN ["reading"] jV jE){jW:Addr}{jF:FuncData}(C_read_atom:RawC K mg "read_atom" dO ["reading"] jW jF){jS:Addr}{jB:FuncData}(C_read_power:RawC K mg "read_power" dL ["reading"] jS jB){jU:Addr}{jD:FuncData}(C_read_factor:RawC K mg "read_factor" dM ["reading"] jU jD){jR:Addr}{jA:FuncData}(C_read_product:RawC K mg "read_product" dJ ["reading"] jR jA){fh:Addr}{fg:FuncData}(C_read_sum:RawC K mg "read_sum" dw ["reading"] fh fg):FnOk P w K mg base (CXV P w) 73 f fd ["text"] (mL CNoText ⟨CWhole,CNamed,CGiven,CMinus,CSum,CLess,CTimes,COver,CPower,CRooted,CRatio⟩):=by
 have C_read_sum:=vD T R fW fV eD bA kI bW kH kP bJ kM kG fU kN kQ kJ kO kL kR C_read_brackets C_read_atom C_read_power C_read_factor C_read_product C_read_sum 10;obtain⟨DP,Dm,zw,CU,EG,Ev⟩:=Ej;obtain⟨DO,yN,CT⟩:=Ei;obtain⟨pT,n9,oO,pE⟩:=C_read_sum;refine F.okV sc_read (λvs H Q E h=>?_) (λcdv A outer s H vs Q E hr h=>?_)
 ·obtain⟨l,rfl,_⟩:=h;rfl
 ·obtain⟨l,rfl,hl,k1,k2⟩:=h
  refine⟨_,(ae (am (i:=1) sc_read.nd rfl (Or.inl rfl) (cE Dm DP (hr.mono) rfl zw CU .nil ak (aa (pv 0) ad)))
   (ae (am (i:=2) sc_read.nd rfl (Or.inl rfl) (aq pT (hr.mono) rfl n9 oO pE .nil (aV (λ_ _ _ z=>z)) (aa (pv 1) ad)))
   (ae (cR (ba (pv 1) R.cl yN DO (hr.mono) CT .nil (aV (λ_ _ _ z=>z))))
   (ai (ar (pv 2)))))),?_⟩
  refine ay ⟨_,rfl,λx dx hx hdx hne=>⟨x,dx,l,rfl,af,hl,λH2 sb ra=>⟨rfl,?_⟩⟩⟩;have s2:Same H H2:=λb o e=>sb b o (aX e hx) (by rw[upd_ne (aX e hx),upd_ne (aX e hdx)];exact e)
  have toS:∀{H3:Hp},SameB x H2 H3->Same H H3:=λsb3 b o e=>sb3 b o (aX e hx) (s2 b o e)
  refine ay ⟨_,rfl,x,(l.length,0),mks 0 l,rfl,ra,rfl,λt r ht q H3 sb3 ra3 hT hq=>?_,λr ht H' d sb' ed=>k2 r (by unfold eS;rw[ht];rfl) H' d (toS sb') ed⟩;have eA:eS (mks 0 l)=if r=[]then .inr (t,[])else .inl r:=by unfold eS;rw[ht];rfl
  obtain⟨dx3,pm3,d3,h13⟩:=ra3.ins;refine c0 ⟨_,rfl,x,dx3,_,rfl,h13,fno yL,x,(l.length,0),r,rfl,ra3,λz=>?_,λz H' d sb' ed=>k2 r (by rw[eA,if_neg z]) H' d (toS (sb3.trans sb')) ed⟩;exact⟨_,rfl,k1 t (by rw[eA,if_pos z]) q x H3 (toS sb3) hT (s2.free hq)⟩
abbrev vS(m:List Nat):V:=.str (stL m)
def Keep(av:Addr)(H H':Hp):Prop:=∀b o,H b=some o->(b≠av\/∀xs,o≠.lst xs)->H' b=some o
theorem aR{av:Addr}{H H':Hp}(s:Same H H'):Keep av H H':=λb o e _=>s b o e
theorem oN{av:Addr}{H:Hp}{xs:List V}{o:HO}(h:H av=some (.lst xs)):Keep av H (upd H av o):=λb p e h1=>by
 rcases h1 with h1 |h1
 ·rw[upd_ne h1];exact e
 ·by_cases z:b=av
  ·subst z;rw[h]at e;cases e;exact absurd rfl (h1 xs)
  ·rw[upd_ne z];exact e
theorem Keep.trans{av:Addr}{H H1 H2:Hp}(a:Keep av H H1)(b:Keep av H1 H2):Keep av H H2:=λp o e h=>b p o (a p o e h) h
noncomputable def LtH(av:Addr)(H:Hp):PT->Addr->Prop
 |.whole n,q=>H q=some (.tup [.str (Str.ofString "whole"),.int (n:Int)])
 |.named w,q=>H q=some (.tup [.str (Str.ofString "named"),vS w])
 |.given kp l h,q=>∃pk pl ph,H q=some (.tup [.str (Str.ofString "given"),.ref pk,.ref pl,.ref ph])/\pk≠av/\H pk=some (.lst (kp.map V.int))/\H pl=some (.tup [.int l.1,.int l.2])/\H ph=some (.tup [.int h.1,.int h.2])
 |.minus t,q=>∃p,H q=some (.tup [.str (Str.ofString "minus"),.ref p])/\LtH av H t p
 |.power t k,q=>∃p,H q=some (.tup [.str (Str.ofString "power"),.ref p,.int (k:Int)])/\LtH av H t p
 |.rooted t k,q=>∃p,H q=some (.tup [.str (Str.ofString "rooted"),.ref p,.int (k:Int)])/\LtH av H t p
 |.sum a b,q=>∃p r,H q=some (.tup [.str (Str.ofString "sum"),.ref p,.ref r])/\LtH av H a p/\LtH av H b r
 |.less a b,q=>∃p r,H q=some (.tup [.str (Str.ofString "less"),.ref p,.ref r])/\LtH av H a p/\LtH av H b r
 |.times a b,q=>∃p r,H q=some (.tup [.str (Str.ofString "times"),.ref p,.ref r])/\LtH av H a p/\LtH av H b r
 |.over a b,q=>∃p r,H q=some (.tup [.str (Str.ofString "over"),.ref p,.ref r])/\LtH av H a p/\LtH av H b r
theorem cP{ys:List V}:∀xs,HO.tup ys≠.lst xs:=λ_ h=>by cases h
theorem LtH.kp{av:Addr}{H H':Hp}(s:Keep av H H'):∀{t:PT} {q:Addr},LtH av H t q->LtH av H' t q
 |.whole _,q,e=>s _ _ e (.inr cP)
 |.named _,q,e=>s _ _ e (.inr cP)
 |.given _ _ _,q,⟨pk,pl,ph,e,n,e1,e2,e3⟩=>⟨pk,pl,ph,s _ _ e (.inr cP),n,s _ _ e1 (.inl n),s _ _ e2 (.inr cP),s _ _ e3 (.inr cP)⟩
 |.minus _,q,⟨p,e,h⟩=>⟨p,s _ _ e (.inr cP),LtH.kp s h⟩
 |.power _ _,q,⟨p,e,h⟩=>⟨p,s _ _ e (.inr cP),LtH.kp s h⟩
 |.rooted _ _,q,⟨p,e,h⟩=>⟨p,s _ _ e (.inr cP),LtH.kp s h⟩
 |.sum _ _,q,⟨p,r,e,h1,h2⟩=>⟨p,r,s _ _ e (.inr cP),LtH.kp s h1,LtH.kp s h2⟩
 |.less _ _,q,⟨p,r,e,h1,h2⟩=>⟨p,r,s _ _ e (.inr cP),LtH.kp s h1,LtH.kp s h2⟩
 |.times _ _,q,⟨p,r,e,h1,h2⟩=>⟨p,r,s _ _ e (.inr cP),LtH.kp s h1,LtH.kp s h2⟩
 |.over _ _,q,⟨p,r,e,h1,h2⟩=>⟨p,r,s _ _ e (.inr cP),LtH.kp s h1,LtH.kp s h2⟩
theorem LtH.mv{av av2:Addr}{H:Hp}(n:H av2=none):∀{t:PT} {q:Addr},LtH av H t q->LtH av2 H t q
 |.whole _,q,e=>e
 |.named _,q,e=>e
 |.given _ _ _,q,⟨pk,pl,ph,e,_,e1,e2,e3⟩=>⟨pk,pl,ph,e,(λz=>by rw[z,n]at e1;cases e1),e1,e2,e3⟩
 |.minus _,q,⟨p,e,h⟩=>⟨p,e,LtH.mv n h⟩
 |.power _ _,q,⟨p,e,h⟩=>⟨p,e,LtH.mv n h⟩
 |.rooted _ _,q,⟨p,e,h⟩=>⟨p,e,LtH.mv n h⟩
 |.sum _ _,q,⟨p,r,e,h1,h2⟩=>⟨p,r,e,LtH.mv n h1,LtH.mv n h2⟩
 |.less _ _,q,⟨p,r,e,h1,h2⟩=>⟨p,r,e,LtH.mv n h1,LtH.mv n h2⟩
 |.times _ _,q,⟨p,r,e,h1,h2⟩=>⟨p,r,e,LtH.mv n h1,LtH.mv n h2⟩
 |.over _ _,q,⟨p,r,e,h1,h2⟩=>⟨p,r,e,LtH.mv n h1,LtH.mv n h2⟩
def MsH(av:Addr)(H:Hp)(ms:List (List Nat))(p:Addr):Prop:=p≠av/\H p=some (.lst (ms.map vS))
theorem MsH.kp{av:Addr}{H H':Hp}{ms:List (List Nat)}{p:Addr}(h:MsH av H ms p)(s:Keep av H H'):MsH av H' ms p:=⟨h.1,s _ _ h.2 (.inl h.1)⟩
theorem MsH.mv{av av2:Addr}{H:Hp}{ms:List (List Nat)}{p:Addr}(h:MsH av H ms p)(n:H av2=none):MsH av2 H ms p:=⟨λz=>(by have e:=h.2;rw[z,n]at e;cases e),h.2⟩
def ItH(av:Addr)(H:Hp)(t:PT)(ms:List (List Nat))(d rk:Nat)(q:Addr):Prop:=∃pt pm,H q=some (.tup [.ref pt,.ref pm,.int (d:Int),.int (rk:Int)])/\LtH av H t pt/\MsH av H ms pm
theorem ItH.kp{av:Addr}{H H':Hp}{t:PT}{ms:List (List Nat)}{d rk:Nat}{q:Addr}(h:ItH av H t ms d rk q)(s:Keep av H H'):ItH av H' t ms d rk q:=let⟨pt,pm,e,a,b⟩:=h;⟨pt,pm,s _ _ e (.inr cP),a.kp s,b.kp s⟩
theorem ItH.mv{av av2:Addr}{H:Hp}{t:PT}{ms:List (List Nat)}{d rk:Nat}{q:Addr}(h:ItH av H t ms d rk q)(n:H av2=none):ItH av2 H t ms d rk q:=let⟨pt,pm,e,a,b⟩:=h;⟨pt,pm,e,a.mv n,b.mv n⟩
def kW:Sp:=λvs H Q _=>∃(av q:Addr) (t:PT) (ms:List (List Nat)) (d rk k:Nat) (b:Bool),vs=[.ref q,.int (k:Int),.bl b]/\ItH av H t ms d rk q/\H av≠none/\Gr rk d ms t/\k<=4/\ms.length<=1000/\∀(p pm:Addr) (ms':List (List Nat)) (d' rk':Nat) (H':Hp),Gr rk' d' ms' t->k<=rk'->ms'.length<=ms.length+2->Same H H'->H' p=some (.tup [.ref pm,.int (d':Int)])->MsH av H' ms' pm->Q (.ref p) H'
theorem dW{H:Hp}{a b:Addr}(h:H a≠none)(n:H b=none):b≠a:=λz=>h (by rw[<- z];exact n)
theorem oB:V.str (Str.ofString "(")=vS [40]:=by rw[sM]
theorem oG:V.str (Str.ofString ")")=vS [41]:=by rw[sO]
theorem xV{f:Addr}{fd:FuncData}(F:Fun K "_law_within" "_law_within" gH f fd)(T:Txt K mg):FnOk P w K mg base CX0 1 f fd ["_law_one","_law_rank","_law_loose"] kW:=by
 refine F.ok vZ (λvs H Q E h=>?_) (λcdv A outer s H vs Q E hr h=>?_)
 ·obtain⟨av,q,t,ms,d,rk,k,b,rfl,_⟩:=h;rfl
 ·obtain⟨av,q,t,ms,d,rk,k,b,rfl,⟨pt,pm,eq,hT,hM⟩,hav,hG,hk,hl,kk⟩:=h;have big:=sizeLine_eq
  refine⟨_,(ae (aF (PW.pt (iZ (aI eU (ao (aC (K:=K) rfl) (pv 0) ac (λ_ _=>rfl)) (pv 1) (aA _)) (nz (bu (pv 2)))))
   (ai (ar (bj (aa (ag cw (ag cw (bf (aa al ad)) (ao (aC (K:=K) rfl) (pv 0) ac (λ_ _=>rfl))) (bf (aa al ad))) (aa (ag bG (ao (aC (K:=K) rfl) (pv 0) ac (λ_ _=>rfl)) ac) ad)))))
   aJ)
   (ai (ar (bj (aa (ao (aC (K:=K) rfl) (pv 0) ac (λ_ _=>rfl)) (aa (ao (aC (K:=K) rfl) (pv 0) ac (λ_ _=>rfl)) ad)))))),?_⟩
  have loose:qC (fz (tOp ny (tOp ny (mD (fz (tC (.str (Str.ofString "("))) fZ)) (tOp (lf K) (kT 0) (tC (.int 1)))) (mD (fz (tC (.str (Str.ofString ")"))) fZ))) (fz (tOp (rI0 λi j=>.int (i+j)) (tOp (lf K) (kT 0) (tC (.int 2))) (tC (.int 1))) fZ)) [some (.ref q),some (.int (k:Int)),some (.bl b)] H Q:=by
   refine⟨by show 1<=sizeLine;omega,λp1 h1=>?_⟩;have s1:=Same.upd_new (o:=.lst [V.str (Str.ofString "(")]) h1;refine⟨_,rfl,q,_,_,_,rfl,rfl,SqT.of (s1 _ _ eq),rfl,p1,pm,_,_,rfl,rfl,af,s1 _ _ hM.2,by rw[EN];show 1+ms.length<=sizeLine;omega,λp2 h2=>?_⟩;have s2:=s1.then_new (o:=.lst ([V.str (Str.ofString "(")]++ms.map vS)) h2;refine⟨by show 1<=sizeLine;omega,λp3 h3=>?_⟩;have s3:=s2.then_new (o:=.lst [V.str (Str.ofString ")")]) h3;refine⟨p2,p3,_,_,rfl,rfl,(Same.upd_new h3) _ _ af,af,by rw[ER,EN];show 1+ms.length+1<=sizeLine;omega,λp4 h4=>?_⟩;have s4:=s3.then_new (o:=.lst ([V.str (Str.ofString "(")]++ms.map vS++[V.str (Str.ofString ")")])) h4;refine⟨_,rfl,q,_,_,_,rfl,rfl,SqT.of (s4 _ _ eq),rfl,_,_,rfl,rfl,by show 2<=sizeLine;omega,λp5 h5=>?_⟩;have s5:=s4.then_new (o:=.tup [.ref p4,.int ((d:Int)+1)]) h5;refine kk p5 p4 ([40]::(ms++[[41]])) (d+1) 4 _ (.brk hG) hk (by simp) s5 af ⟨dW hav ?_,?_⟩
   ·cases e:H p4 with
    |none=>rfl
    |some o=>rw[s3 _ _ e]at h4;cases h4
   ·rw[upd_ne (λz=>by rw[<- z,af]at h5;cases h5),af,oB,oG,Fh,EV];rfl
  refine ax (iX ⟨_,rfl,q,_,_,_,rfl,rfl,SqT.of eq,rfl,_,rfl,_,_,rfl,rfl,_,rfl,ap (λh=>aB ?_) (λh=>?_)⟩)
  ·exact aM loose
  ·refine⟨_,rfl,b,rfl,?_⟩;cases b with
   |true=>exact aB (aM loose)
   |false =>refine aE ?_;refine aM ⟨_,rfl,q,_,_,_,rfl,rfl,SqT.of eq,rfl,_,rfl,q,_,_,_,rfl,rfl,SqT.of eq,rfl,by show 2<=sizeLine;omega,λp hp=>?_⟩;exact kk p pm ms d rk _ hG (by omega) (by omega) (Same.upd_new hp) af (hM.kp (aR (Same.upd_new hp)))
theorem cF{H H1:Hp}{p:Addr}(s:Same H H1)(h:H1 p=none):H p=none:=by
 cases e:H p with
 |none=>rfl
 |some o=>rw[s _ _ e]at h;cases h
theorem iz{H:Hp}{a b:Addr}{o:HO}(h:(upd H a o) b=none):a≠b:=λz=>by rw[<- z,af]at h;cases h
theorem lJ:V.str (Str.ofString "-")=vS [45]:=by rw[jq]
theorem oE:V.str (Str.ofString "^")=vS [94]:=by rw[oF]
theorem zK:V.str (Str.ofString "sqrt")=vS cM:=by rw[ot]
theorem zO:V.str (Str.ofString "cbrt")=vS cN:=by rw[oH]
theorem AF{i:Int}(h:0<=i):∃n:Nat,i=(n:Int):=⟨i.toNat,(Int.toNat_of_nonneg h).symm⟩
theorem bw(i j:Int)(h:0<j):∃n:Nat,i%j=(n:Int)/\(n:Int)<j:=by obtain⟨n,e⟩:=AF (Int.emod_nonneg i (Int.ne_of_gt h));exact⟨n,e,by rw[<- e];exact Int.emod_lt_of_pos i h⟩
theorem pos{j:Int}(h:0<j:=by decide):0<j:=h
theorem cdp{i j:Int}(h:0<j:=by decide)(h2:j.natAbs<2^64:=by decide):uV i j:=⟨h,Bits.mono (j:=64) h2 (by decide)⟩
theorem fD{n:Nat}(h:n<2^1000):((n:Int)).natAbs.log2<1920:=by
 rw[FL];by_cases h0:n=0
 ·subst h0;decide
 ·exact(Nat.log2_lt h0).mpr (ET h (Fv (by decide) (by decide)))
theorem iT{n m:Nat}(h:(n:Int)<(m:Int))(hm:m<=2^100:=by decide):n<2^1000:=ET (Int.ofNat_lt.mp h) (ES hm (Fv (by decide) (by decide)))
theorem Gr.le4{r d:Nat}{ms:List (List Nat)}{t:PT}(h:Gr r d ms t):r<=4:=by cases h<;>decide
def mZ:Sp:=λvs H Q _=>∃(av q:Addr) (t:PT) (ms:List (List Nat)) (d rk:Nat) (c:Int),vs=[.ref q,.int c]/\ItH av H t ms d rk q/\H av≠none/\Gr rk d ms t/\ms.length<=500/\∀(p:Addr) (t':PT) (ms':List (List Nat)) (d' rk':Nat) (H':Hp),Gr rk' d' ms' t'->ms'.length<=ms.length+10->Same H H'->ItH av H' t' ms' d' rk' p->Q (.ref p) H'
theorem ye{f:Addr}{fd:FuncData}(F:Fun K "_law_alone" "_law_alone" gS f fd)(T:Txt K mg){o8:Addr}{o4:FuncData}(qf:Cal P w K mg base 1 "_law_within" ["_law_one","_law_rank","_law_loose"] kW o8 o4):FnOk P w K mg base CX0 2 f fd ["_law_one","_law_cell_here"] mZ:=by
 obtain⟨iM,iD,iH,iJ⟩:=qf;refine F.ok sc__law_alone (λvs H Q E h=>?_) (λcdv A outer s H vs Q E hr h=>?_)
 ·obtain⟨av,q,t,ms,d,rk,c,rfl,_⟩:=h;rfl
 ·obtain⟨av,q,t,ms,d,rk,c,rfl,hI,hav,hG,hl,kk⟩:=h;obtain⟨pt,pm,eq,hT,hM⟩:=id hI;have big:=sizeLine_eq
  refine⟨_,(ae (am (i:=2) sc__law_alone.nd rfl (Or.inl rfl) (bH bS (ag aH (ag aH (ag nI (pv 1) ac) ac) ac) ac (aA _)))
   (ae (aF (aI bS (ag aH (pv 1) ac) ac (aA _))
     (ae (am (i:=3) sc__law_alone.nd rfl (Or.inl rfl) (aq iM (hr.mono) rfl iD iH iJ .nil ak (aa (pv 0) (aa ac (aa (pv 2) ad)))))
       (ai (ar (bj (aa (bj (aa al (aa (ao (aC (K:=K) rfl) (pv 0) ac (λ_ _=>rfl)) ad))) (aa (ag cw (bf (aa al ad)) (ao (aC (K:=K) rfl) (pv 3) ac (λ_ _=>rfl))) (aa (ao (aC (K:=K) rfl) (pv 3) ac (λ_ _=>rfl)) (aa ac ad))))))))
     aJ)
   (ae (aF (aI bS (ag aH (pv 1) ac) ac (aA _))
     (ae (am (i:=3) sc__law_alone.nd rfl (Or.inl rfl) (aq iM (hr.mono) rfl iD iH iJ .nil ak (aa (pv 0) (aa ac (aa (pv 2) ad)))))
       (ai (ar (bj (aa (bj (aa al (aa (ao (aC (K:=K) rfl) (pv 0) ac (λ_ _=>rfl)) (aa (ag aH (ag bq (pv 1) ac) ac) ad)))) (aa (ag cw (ao (aC (K:=K) rfl) (pv 3) ac (λ_ _=>rfl)) (bf (aa al (aa (cv dF (by rfl) T.str_ PyProof.Rows.boot_str (aa (ag aH (ag bq (pv 1) ac) ac) ad)) ad)))) (aa (ao (aC (K:=K) rfl) (pv 3) ac (λ_ _=>rfl)) (aa ac ad))))))))
     aJ)
   (ae (am (i:=3) sc__law_alone.nd rfl (Or.inl rfl) (aq iM (hr.mono) rfl iD iH iJ .nil ak (aa (pv 0) (aa ac (aa (pv 2) ad)))))
   (ae (am (i:=4) sc__law_alone.nd rfl (Or.inl rfl) (ao (bT (K:=K) rfl) (bf (aa al (aa al ad))) (ag aH (ag bq (pv 1) ac) ac) (λ_ _=>rfl)))
   (ai (ar (bj (aa (bj (aa al (aa (ao (aC (K:=K) rfl) (pv 0) ac (λ_ _=>rfl)) (aa (ag bG ac (ag aH (ag bq (pv 1) ac) ac)) ad)))) (aa (ag cw (ag cw (bf (aa (pv 4) (aa al ad))) (ao (aC (K:=K) rfl) (pv 3) ac (λ_ _=>rfl))) (bf (aa al ad))) (aa (ag bG (ao (aC (K:=K) rfl) (pv 3) ac (λ_ _=>rfl)) ac) (aa ac ad)))))))))))),?_⟩
  refine ay ⟨_,rfl,_,_,rfl,rfl,.inr ⟨by decide,by decide⟩,_,_,rfl,rfl,pos,_,_,rfl,rfl,pos,_,_,rfl,rfl,?_⟩;refine ax ⟨_,rfl,_,_,rfl,rfl,pos,_,_,rfl,rfl,_,rfl,ap (λh3=>?_) (λh3=>?_)⟩
  ·refine ay ⟨_,rfl,_,rfl,av,q,t,ms,d,rk,3,_,rfl,hI,hav,hG,by decide,by omega,λp pm' ms' d' rk' H1 g1 hk g2 s1 ep hM'=>?_⟩;have eq1:=s1 _ _ eq;refine aM ⟨_,rfl,q,_,_,_,rfl,rfl,SqT.of eq1,rfl,by show 2<=sizeLine;omega,λp1 h1=>?_⟩;have s2:=Same.upd_new (o:=.tup [.str (Str.ofString "minus"),.ref pt]) h1;refine⟨by show 1<=sizeLine;omega,λp2 h2=>?_⟩;have s3:=s2.then_new (o:=.lst [.str (Str.ofString "-")]) h2;refine⟨_,rfl,p,_,_,_,rfl,rfl,SqT.of (s3 _ _ ep),rfl,p2,pm',_,_,rfl,rfl,af,s3 _ _ hM'.2,by rw[EN];show 1+ms'.length<=sizeLine;omega,λp3 h3'=>?_⟩;have s4:=s3.then_new (o:=.lst ([.str (Str.ofString "-")]++ms'.map vS)) h3';refine⟨_,rfl,p,_,_,_,rfl,rfl,SqT.of (s4 _ _ ep),rfl,by show 4<=sizeLine;omega,λp4 h4=>?_⟩;have s5:=s4.then_new (o:=.tup [.ref p1,.ref p3,.int (d':Int),.int 2]) h4;have s2':=(Same.upd_new (o:=.lst [.str (Str.ofString "-")]) h2).then_new (o:=.lst ([.str (Str.ofString "-")]++ms'.map vS)) h3';refine kk p4 (.minus t) ([45]::ms') d' 2 _ (.minus g1 hk) (by rw[E1];omega) (s1.trans s5) ⟨p1,p3,af,⟨pt,?_,(hT.kp (aR (s1.trans s5)))⟩,⟨dW hav (cF (s1.trans s3) h3'),?_⟩⟩
   ·exact(Same.upd_new h4) _ _ (s2' _ _ af)
   ·rw[upd_ne (iz h4),af,lJ];rfl
  refine ax ⟨_,rfl,_,_,rfl,rfl,pos,_,_,rfl,rfl,_,rfl,ap (λh4=>?_) (λh4=>?_)⟩
  ·obtain⟨k,ek,hk9⟩:=bw (c/3) 9 (by decide);refine ay ⟨_,rfl,_,rfl,av,q,t,ms,d,rk,4,_,rfl,hI,hav,hG,by decide,by omega,λp pm' ms' d' rk' H1 g1 hk g2 s1 ep hM'=>?_⟩;have eq1:=s1 _ _ eq;refine aM ⟨_,rfl,q,_,_,_,rfl,rfl,SqT.of eq1,rfl,_,rfl,_,_,rfl,rfl,cdp,_,_,rfl,rfl,pos,by show 3<=sizeLine;omega,λp1 h1=>?_⟩;have s2:=Same.upd_new (o:=.tup [.str (Str.ofString "power"),.ref pt,.int (c/3%9)]) h1;refine⟨_,rfl,p,_,_,_,rfl,rfl,SqT.of (s2 _ _ ep),rfl,_,rfl,_,_,rfl,rfl,cdp,_,_,rfl,rfl,pos,_,rfl,by rw[ek];exact fD (iT (m:=9) hk9),by show 2<=sizeLine;omega,λp2 h2=>?_⟩;have s3:=s2.then_new (o:=.lst [.str (Str.ofString "^"),.str (Str.ofString (toString (c/3%9)))]) h2;refine⟨pm',p2,_,_,rfl,rfl,s3 _ _ hM'.2,af,by rw[EN];show ms'.length+2<=sizeLine;omega,λp3 h3'=>?_⟩;have s4:=s3.then_new (o:=.lst (ms'.map vS++[.str (Str.ofString "^"),.str (Str.ofString (toString (c/3%9)))])) h3';refine⟨_,rfl,p,_,_,_,rfl,rfl,SqT.of (s4 _ _ ep),rfl,by show 4<=sizeLine;omega,λp4 h4=>?_⟩;have s5:=s4.then_new (o:=.tup [.ref p1,.ref p3,.int (d':Int),.int 3]) h4;have s2':=(Same.upd_new (o:=.lst [.str (Str.ofString "^"),.str (Str.ofString (toString (c/3%9)))]) h2).then_new (o:=.lst (ms'.map vS++[.str (Str.ofString "^"),.str (Str.ofString (toString (c/3%9)))])) h3';have er:rk'=4:=Nat.le_antisymm (Gr.le4 g1) hk;subst er;refine kk p4 (.power t k) (ms'++[[94],aj k]) d' 3 _ (.power g1 (by omega)) (by rw[ER];show ms'.length+2<=_;omega) (s1.trans s5) ⟨p1,p3,af,⟨pt,?_,(hT.kp (aR (s1.trans s5)))⟩,⟨dW hav (cF (s1.trans s3) h3'),?_⟩⟩
   ·rw[<- ek];exact(Same.upd_new h4) _ _ (s2' _ _ af)
   ·rw[upd_ne (iz h4),af,oE,ek,qr,EV];rfl
  obtain⟨k,ek,hk2⟩:=bw (c/3) 2 (by decide);refine ay ⟨_,rfl,_,rfl,av,q,t,ms,d,rk,0,_,rfl,hI,hav,hG,by decide,by omega,λp pm' ms' d' rk' H1 g1 hk g2 s1 ep hM'=>?_⟩;have eq1:=s1 _ _ eq
  obtain⟨m,tt,hm⟩:∃(m:List Nat),atI [V.str (Str.ofString "sqrt"),V.str (Str.ofString "cbrt")] (c/3%2)=some (vS m)/\∀{r d:Nat} {ms:List (List Nat)},Gr r d ms t->Gr 4 (d+1) (m::[40]::(ms++[[41]])) (.rooted t (2+k)):=by
   rw[ek,zK,zO];rcases Nat.lt_or_ge k 1 with h |h
   ·have:k=0:=by omega
    subst this;exact⟨cM,rfl,λg=>.sq g⟩
   ·have:k=1:=by omega
    subst this;exact⟨cN,rfl,λg=>.cb g⟩
  refine ay ⟨by show 2<=sizeLine;omega,λp0 h0=>?_⟩;have s1':=s1.then_new (o:=.lst [V.str (Str.ofString "sqrt"),V.str (Str.ofString "cbrt")]) h0;refine⟨_,rfl,_,_,rfl,rfl,cdp,_,_,rfl,rfl,pos,p0,_,_,_,rfl,rfl,SqL.of af,tt,?_⟩;refine aM ⟨_,rfl,q,_,_,_,rfl,rfl,SqT.of (s1' _ _ eq),rfl,_,rfl,_,_,rfl,rfl,cdp,_,_,rfl,rfl,pos,_,_,rfl,rfl,by show 3<=sizeLine;omega,λp1 h1=>?_⟩;have t0:=Same.upd_new (o:=.lst [V.str (Str.ofString "sqrt"),V.str (Str.ofString "cbrt")]) h0;have s2:=t0.then_new (o:=.tup [.str (Str.ofString "rooted"),.ref pt,.int (2+c/3%2)]) h1;refine⟨_,rfl,by show 2<=sizeLine;omega,λp2 h2=>?_⟩;have s3:=s2.then_new (o:=.lst [vS m,.str (Str.ofString "(")]) h2;refine⟨_,rfl,p,_,_,_,rfl,rfl,SqT.of (s3 _ _ ep),rfl,p2,pm',_,_,rfl,rfl,af,s3 _ _ hM'.2,by rw[EN];show 2+ms'.length<=sizeLine;omega,λp3 h3'=>?_⟩;have s4:=s3.then_new (o:=.lst ([vS m,.str (Str.ofString "(")]++ms'.map vS)) h3';refine⟨by show 1<=sizeLine;omega,λp4 h4=>?_⟩;have s5:=s4.then_new (o:=.lst [.str (Str.ofString ")")]) h4;refine⟨p3,p4,_,_,rfl,rfl,(Same.upd_new h4) _ _ af,af,by rw[ER,EN];show 2+ms'.length+1<=sizeLine;omega,λp5 h5=>?_⟩;have s6:=s5.then_new (o:=.lst ([vS m,.str (Str.ofString "(")]++ms'.map vS++[.str (Str.ofString ")")])) h5;refine⟨_,rfl,p,_,_,_,rfl,rfl,SqT.of (s6 _ _ ep),rfl,_,_,rfl,rfl,by show 4<=sizeLine;omega,λp6 h6=>?_⟩;have s7:=s6.then_new (o:=.tup [.ref p1,.ref p5,.int ((d':Int)+1),.int 4]) h6;have s2':=((((Same.upd_new (o:=.lst [vS m,.str (Str.ofString "(")]) h2).then_new (o:=.lst ([vS m,.str (Str.ofString "(")]++ms'.map vS)) h3').then_new (o:=.lst [.str (Str.ofString ")")]) h4).then_new (o:=.lst ([vS m,.str (Str.ofString "(")]++ms'.map vS++[.str (Str.ofString ")")])) h5).then_new (o:=.tup [.ref p1,.ref p5,.int ((d':Int)+1),.int 4]) h6;refine kk p6 (.rooted t (2+k)) (m::[40]::(ms'++[[41]])) (d'+1) 4 _ (hm g1) (by simp;omega) (s1.trans s7) ⟨p1,p5,af,⟨pt,?_,(hT.kp (aR (s1.trans s7)))⟩,⟨dW hav (cF (s1.trans s5) h5),?_⟩⟩
  ·rw[show((2+k:Nat):Int)=2+c/3%2 by rw[ek];rfl];exact s2' _ _ af
  ·rw[upd_ne (iz h6),af,oB,oG,Fh,Fh,EV];rfl
theorem oA:V.str (Str.ofString "+")=vS [43]:=by rw[iE]
theorem oq:V.str (Str.ofString "*")=vS [42]:=by rw[jp]
theorem ou:V.str (Str.ofString "/")=vS [47]:=by rw[oy]
theorem AI(a b:Nat):(if(b:Int)>(a:Int)then(b:Int)else(a:Int))=((max a b:Nat):Int):=by split<;>omega
abbrev opM:List V:=[V.str (Str.ofString "+"),V.str (Str.ofString "-"),V.str (Str.ofString "*"),V.str (Str.ofString "/")]
abbrev opN:List V:=[V.str (Str.ofString "sum"),V.str (Str.ofString "less"),V.str (Str.ofString "times"),V.str (Str.ofString "over")]
theorem Ct(av:Addr)(t1 t2:PT){o:Nat}(h:o<4):∃(m:List Nat) (nm:Str) (f:PT->PT->PT),atI opM (o:Int)=some (vS m)/\atI opN (o:Int)=some (.str nm)/\(∀{r1 d1 r2 d2:Nat} {a b:List (List Nat)},Gr r1 d1 a t1->o/2<=r1->Gr r2 d2 b t2->o/2+1<=r2->Gr (o/2) (max d1 d2) (a++m::b) (f t1 t2))/\∀{H:Hp} {p pa pb:Addr},H p=some (.tup [.str nm,.ref pa,.ref pb])->LtH av H t1 pa->LtH av H t2 pb->LtH av H (f t1 t2) p:=by
 unfold opM;rw[oA,lJ,oq,ou];have:o=0\/o=1\/o=2\/o=3:=by omega
 rcases this with rfl |rfl |rfl |rfl
 ·exact⟨[43],_,.sum,rfl,rfl,λg1 _ g2 h2=>.add (.inl ⟨rfl,rfl⟩) g1 g2 h2,λe a b=>⟨_,_,e,a,b⟩⟩
 ·exact⟨[45],_,.less,rfl,rfl,λg1 _ g2 h2=>.add (.inr ⟨rfl,rfl⟩) g1 g2 h2,λe a b=>⟨_,_,e,a,b⟩⟩
 ·exact⟨[42],_,.times,rfl,rfl,λg1 h1 g2 h2=>.mul (.inl ⟨rfl,rfl⟩) g1 h1 g2 h2,λe a b=>⟨_,_,e,a,b⟩⟩
 ·exact⟨[47],_,.over,rfl,rfl,λg1 h1 g2 h2=>.mul (.inr ⟨rfl,rfl⟩) g1 h1 g2 h2,λe a b=>⟨_,_,e,a,b⟩⟩
theorem rQ{H H1:Hp}{a:Addr}(s:Same H H1)(h:H a≠none):H1 a≠none:=by
 cases e:H a with
 |none=>exact absurd e h
 |some x=>rw[s _ _ e];exactλz=>by cases z
def mY:Sp:=λvs H Q _=>∃(av q1 q2:Addr) (t1 t2:PT) (ms1 ms2:List (List Nat)) (d1 rk1 d2 rk2:Nat) (c:Int),vs=[.ref q1,.ref q2,.int c]/\ItH av H t1 ms1 d1 rk1 q1/\ItH av H t2 ms2 d2 rk2 q2/\H av≠none/\Gr rk1 d1 ms1 t1/\Gr rk2 d2 ms2 t2/\ms1.length<=500/\ms2.length<=500/\∀(p:Addr) (t':PT) (ms':List (List Nat)) (d' rk':Nat) (H':Hp),Gr rk' d' ms' t'->ms'.length<=1010->Same H H'->ItH av H' t' ms' d' rk' p->Q (.ref p) H'
theorem yc{f:Addr}{fd:FuncData}(F:Fun K "_law_both" "_law_both" gQ f fd)(T:Txt K mg){o8:Addr}{o4:FuncData}(qf:Cal P w K mg base 1 "_law_within" ["_law_one","_law_rank","_law_loose"] kW o8 o4):FnOk P w K mg base CX0 2 f fd ["_law_one","_law_other","_law_cell_here"] mY:=by
 obtain⟨iM,iD,iH,iJ⟩:=qf;refine F.ok sc__law_both (λvs H Q E h=>?_) (λcdv A outer s H vs Q E hr h=>?_)
 ·obtain⟨av,q1,q2,t1,t2,ms1,ms2,d1,rk1,d2,rk2,c,rfl,_⟩:=h;rfl
 ·obtain⟨av,q1,q2,t1,t2,ms1,ms2,d1,rk1,d2,rk2,c,rfl,hI1,hI2,hav,hG1,hG2,hl1,hl2,kk⟩:=h;have big:=sizeLine_eq;obtain⟨o,eo,ho⟩:=bw c 4 (by decide);have e2:c%4/2=((o/2:Nat):Int):=by rw[eo];rfl
  obtain⟨m,nm,f0,a1,a2,gr,lt⟩:=Ct av t1 t2 (o:=o) (by omega);rw[<- eo]at a1 a2
  refine⟨_,(ae (am (i:=3) sc__law_both.nd rfl (Or.inl rfl) (ag aH (pv 2) ac))
   (ae (am (i:=4) sc__law_both.nd rfl (Or.inl rfl) (aq iM (hr.mono) rfl iD iH iJ .nil ak (aa (pv 0) (aa (ag bq (pv 3) ac) (aa (bH bS (ag aH (ag aH (ag nI (pv 2) ac) ac) ac) ac (aA _)) ad)))))
   (ae (am (i:=5) sc__law_both.nd rfl (Or.inl rfl) (aq iM (hr.mono) rfl iD iH iJ .nil ak (aa (pv 1) (aa (ag bG (ag bq (pv 3) ac) ac) (aa (bH bS (ag aH (ag aH (ag nI (pv 2) ac) ac) ac) ac (aA _)) ad)))))
   (ae (am (i:=6) sc__law_both.nd rfl (Or.inl rfl) (ag cw (ag cw (ao (aC (K:=K) rfl) (pv 4) ac (λ_ _=>rfl)) (bf (aa (ao (bT (K:=K) rfl) (bf (aa al (aa al (aa al (aa al ad))))) (pv 3) (λ_ _=>rfl)) ad))) (ao (aC (K:=K) rfl) (pv 5) ac (λ_ _=>rfl))))
   (ai (ar (bj (aa (bj (aa (ao (bT (K:=K) rfl) (bf (aa al (aa al (aa al (aa al ad))))) (pv 3) (λ_ _=>rfl)) (aa (ao (aC (K:=K) rfl) (pv 0) ac (λ_ _=>rfl)) (aa (ao (aC (K:=K) rfl) (pv 1) ac (λ_ _=>rfl)) ad)))) (aa (pv 6) (aa (aO (pC rfl) (by rfl) T.max_ PyProof.Rows.boot_max (aa (ao (aC (K:=K) rfl) (pv 4) ac (λ_ _=>rfl)) (aa (ao (aC (K:=K) rfl) (pv 5) ac (λ_ _=>rfl)) ad))) (aa (ag bq (pv 3) ac) ad))))))))))),?_⟩
  refine ay ⟨_,rfl,_,_,rfl,rfl,pos,?_⟩;refine ay ⟨_,rfl,_,rfl,_,_,rfl,rfl,cdp,_,rfl,_,_,rfl,rfl,.inr ⟨by decide,by decide⟩,_,_,rfl,rfl,pos,_,_,rfl,rfl,pos,_,_,rfl,rfl,av,q1,t1,ms1,d1,rk1,o/2,decide (c*48271%65537%3=1),by rw[<- e2];rfl,hI1,hav,hG1,by omega,by omega,λp1 pm1 ns1 b1 j1 H1 g1 k1 l1 s1 ep1 hM1=>?_⟩;have hI2':=hI2.kp (aR s1);refine ay ⟨_,rfl,_,rfl,_,_,rfl,rfl,cdp,_,_,rfl,rfl,_,rfl,_,_,rfl,rfl,.inr ⟨by decide,by decide⟩,_,_,rfl,rfl,pos,_,_,rfl,rfl,pos,_,_,rfl,rfl,av,q2,t2,ms2,d2,rk2,o/2+1,decide (c*69621%65539%3=1),by rw[Int.natCast_add,<- e2];rfl,hI2',rQ s1 hav,hG2,by omega,by omega,λp2 pm2 ns2 b2 j2 H2 g2 k2 l2 s2 ep2 hM2=>?_⟩;have ep1':=s2 _ _ ep1;have hM1':=hM1.kp (aR s2);have s02:=s1.trans s2;obtain⟨pt1,pm1',eq1,hT1,_⟩:=hI1.kp (aR s02);obtain⟨pt2,pm2',eq2,hT2,_⟩:=hI2'.kp (aR s2);refine ay ⟨_,rfl,p1,_,_,_,rfl,rfl,SqT.of ep1',rfl,by show 4<=sizeLine;omega,λp3 h3=>⟨_,rfl,p3,_,_,_,rfl,rfl,SqL.of af,a1,by show 1<=sizeLine;omega,λp4 h4=>?_⟩⟩;have r4:=(Same.upd_new (o:=.lst opM) h3).then_new (o:=.lst [vS m]) h4;refine⟨pm1,p4,_,_,rfl,rfl,r4 _ _ hM1'.2,af,by rw[EN];show ns1.length+1<=sizeLine;omega,λp5 h5=>?_⟩;have r5:=r4.then_new (o:=.lst (ns1.map vS++[vS m])) h5;refine⟨_,rfl,p2,_,_,_,rfl,rfl,SqT.of (r5 _ _ ep2),rfl,p5,pm2,_,_,rfl,rfl,af,r5 _ _ hM2.2,by rw[ER,EN,EN];show ns1.length+1+ns2.length<=sizeLine;omega,λp6 h6=>?_⟩;have r6:=r5.then_new (o:=.lst (ns1.map vS++[vS m]++ns2.map vS)) h6;refine aM ⟨by show 4<=sizeLine;omega,λp7 h7=>?_⟩;have r7:=r6.then_new (o:=.lst opN) h7;refine⟨_,rfl,p7,_,_,_,rfl,rfl,SqL.of af,a2,_,rfl,q1,_,_,_,rfl,rfl,SqT.of (r7 _ _ eq1),rfl,_,rfl,q2,_,_,_,rfl,rfl,SqT.of (r7 _ _ eq2),rfl,by show 3<=sizeLine;omega,λp8 h8=>?_⟩;have r8:=r7.then_new (o:=.tup [.str nm,.ref pt1,.ref pt2]) h8;refine⟨_,rfl,_,rfl,p1,_,_,_,rfl,rfl,SqT.of (r8 _ _ ep1'),rfl,_,rfl,p2,_,_,_,rfl,rfl,SqT.of (r8 _ _ ep2),rfl,_,_,rfl,_,rfl,_,_,rfl,rfl,cdp,by show 4<=sizeLine;omega,λp9 h9=>?_⟩;have r9:=r8.then_new (o:=.tup [.ref p8,.ref p6,.int (if(b2:Int)>(b1:Int)then(b2:Int)else(b1:Int)),.int (c%4/2)]) h9;have u6:=((Same.upd_new (o:=.lst opN) h7).then_new (o:=.tup [.str nm,.ref pt1,.ref pt2]) h8).then_new (o:=.tup [.ref p8,.ref p6,.int (if(b2:Int)>(b1:Int)then(b2:Int)else(b1:Int)),.int (c%4/2)]) h9;refine kk p9 (f0 t1 t2) (ns1++m::ns2) (max b1 b2) (o/2) _ (gr g1 k1 g2 k2) (by rw[ER,E1];omega) (s02.trans r9) ⟨p8,p6,?_,lt ((Same.upd_new h9) _ _ af) (hT1.kp (aR r9)) (hT2.kp (aR r9)),⟨dW hav (cF (s02.trans r5) h6),?_⟩⟩
  ·rw[<- AI,<- e2];exact af
  ·rw[EV,Fh,show ns1.map vS++vS m::ns2.map vS=ns1.map vS++[vS m]++ns2.map vS by rw[E7];rfl];exact u6 _ _ af
theorem ji:∀n:Nat,n<=2->Txt.mul (Str.ofString " ") (n:Int)=stL (List.replicate n 32)
 |0,_=>by decide +kernel
 |1,_=>by decide +kernel
 |2,_=>by decide +kernel
 |n+3,h=>absurd h (by omega)
noncomputable def szs(ms:List (List Nat)):Nat:=(ms.map λm=>m.length+2).sum
theorem qN(ms:List (List Nat))(m:List Nat):szs (ms++[m])=szs ms+(m.length+2):=by unfold szs;rw[EV,List.sum_append];rfl
theorem qO:∀(ms:List (List Nat)),2*ms.length<=szs ms
 | []=>EO _
 |m::ms=>by have:=qO ms;show 2*(ms.length+1)<=(m.length+2)+szs ms;omega
theorem qP:∀(ms:List (List Nat)),((ms.map λm=>((m.length+2:Nat):Int))).sum=((szs ms:Nat):Int)
 | []=>rfl
 |m::ms=>by have:=qP ms;rw[Fh,List.sum_cons,this];exact(Int.natCast_add (m.length+2) (szs ms)).symm
theorem qM(ms:List (List Nat))(i:Nat):szs (ms.take i)<=szs ms:=by
 have e:szs ms=szs (ms.take i)+szs (ms.drop i):=by unfold szs;rw[<- List.sum_append,<- EV,List.take_append_drop]
 omega
theorem tQ{l:List (List Nat)}{i:Nat}{x:V}(h:(l.map vS)[i]?=some x):∃m,l[i]?=some m/\x=vS m/\m∈l/\l.take (i+1)=l.take i++[m]:=by
 rw[List.getElem?_map]at h;cases e:l[i]? with
 |none=>rw[e]at h;cases h
 |some m =>rw[e]at h;cases h;exact⟨m,rfl,rfl,List.mem_of_getElem? e,by rw[Fw,e];rfl⟩
def mU:Sp:=λvs H Q _=>∃(av q:Addr) (t:PT) (ms:List (List Nat)) (d rk:Nat),vs=[.ref q]/\ItH av H t ms d rk q/\Gr rk d ms t/\ms.length<=2000/\∀H',Same H H'->Q (.bl (decide (szs ms<=196)&&decide (d<=10))) H'
theorem x9{f:Addr}{fd:FuncData}(F:Fun K "_law_fits" "_law_fits" gN f fd)(T:Txt K mg):FnOk P w K mg base CX0 1 f fd ["_law_one"] mU:=by
 refine F.ok v2 (λvs H Q E h=>?_) (λcdv A outer s H vs Q E hr h=>?_)
 ·obtain⟨av,q,t,ms,d,rk,rfl,_⟩:=h;rfl
 ·obtain⟨av,q,t,ms,d,rk,rfl,⟨pt,pm,eq,hT,hM⟩,hG,hl,k⟩:=h;have big:=sizeLine_eq;refine⟨_,(ai (ar (bp (bH nJ (aO (Cn (K:=K) rfl rfl) (by rfl) T.sum_ PyProof.Rows.boot_sum (aa (nE (own:=["_law_mark"]) (fr:=[]) (js:=[]) (by walk_at "comp_ok") rfl (lp (K:=K) rfl (ao (aC (K:=K) rfl) (pv 0) ac (λ_ _=>rfl))) (λ_ _ _ _=>(dS (i:=0) (show List.Nodup (["_law_mark"]:List Str)from by decide +kernel) rfl (Or.inl rfl))) (λ_ _ _ _=>(ag bG (aO ku (by rfl) T.len_ PySem.boot_len (aa (pv 0) ad)) ac))) ad)) ac (aA _)) (bB (bH nJ (ao (aC (K:=K) rfl) (pv 0) ac (λ_ _=>rfl)) ac (aA _)))))),?_⟩;refine aM (aP ⟨_,rfl,q,_,_,_,rfl,rfl,SqT.of eq,rfl,pm,rfl,⟨_,SqL.of hM.2⟩,Cf (K:=K) (a:=pm) (xs:=ms.map vS) (λi ys σ' H'=>∃(z0:Option V),σ'=[z0]/\ys=((ms.take i).map λm=>((m.length+2:Nat):Int)).map V.int/\H=H') (by rw[EN];omega) ⟨none,rfl,rfl,rfl⟩ ?_ ?_ ?_⟩)
  ·rintro i ys σ' H' _ ⟨z0,rfl,rfl,rfl⟩;exact⟨SqL.of hM.2,by rw[EN,EN,Fq];exact Nat.min_le_left _ _⟩
  ·rintro i x ys σ' H' hi ⟨z0,rfl,rfl,rfl⟩;obtain⟨m,_,rfl,hm,et⟩:=tQ hi;have h1:=hG.short m hm;refine⟨_,rfl,_,rfl,by rw[aU];omega,_,_,rfl,rfl,_,rfl,?_,rfl⟩;rw[et,EV,EV,aU];rfl
  ·rintro ys σ' H' p ⟨z0,rfl,rfl,rfl⟩ hp;have s1:=Same.upd_new (o:=.lst (((ms.take (ms.map vS).length).map λm=>((m.length+2:Nat):Int)).map V.int)) hp;refine⟨p,_,rfl,SqL.of af,_,_,rfl,rfl,_,rfl,?_⟩
   have es:(List.map (λm=>((m.length+2:Nat):Int)) (ms.take (ms.map vS).length)).sum=((szs ms:Nat):Int):=by rw[EN,Ft];exact qP ms
   have kk:=k _ s1;refine ap (λh=>?_) (λh=>?_)
   ·have h':szs ms<=196:=by rw[es]at h;omega
    refine⟨_,rfl,q,_,_,_,rfl,rfl,SqT.of (s1 _ _ eq),rfl,_,_,rfl,rfl,?_⟩;rw[decide_eq_true h',Bool.true_and]at kk;show Q (.bl (decide ((d:Int)<=10))) _;rw[show decide ((d:Int)<=10)=decide (d<=10) by rw[decide_eq_decide];omega];exact kk
   ·have h':¬szs ms<=196:=by rw[es]at h;omega
    rw[decide_eq_false h',Bool.false_and]at kk;exact kk
theorem qS:∀{ms:List (List Nat)} {i:Nat} {a b:List Nat},Sp ms->ms[i]?=some a->ms[i+1]?=some b->Apt a b
 | [],i,a,b,_,h,_=>by cases h
 | [x],0,a,b,_,_,h=>by cases h
 | [x],i+1,a,b,_,h,_=>by cases h
 |x::y::r,0,a,b,hs,h1,h2=>by cases h1;cases h2;exact hs.1
 |x::y::r,i+1,a,b,hs,h1,h2=>qS (ms:=y::r) (i:=i) hs.2 h1 h2
def mS:Sp:=λvs H Q _=>∃(pm:Addr) (ms:List (List Nat)) (z:Int),vs=[.ref pm,.int z]/\H pm=some (.lst (ms.map vS))/\Sp ms/\(∀m∈ms,WfK m)/\szs ms<=196/\Bits 100 z/\∀(l:List Nat),Pla l->(mks 0 l).map (·.1)=ms->Q (.str (stL l)) H
theorem x6{f:Addr}{fd:FuncData}(F:Fun K "_law_joined" "_law_joined" gK f fd)(T:Txt K mg):FnOk P w K mg base CX0 1 f fd ["_law_marks","_law_turn"] mS:=by
 refine F.ok sc__law_joined (λvs H Q E h=>?_) (λcdv A outer s H vs Q E hr h=>?_)
 ·obtain⟨pm,ms,z,rfl,_⟩:=h;rfl
 ·obtain⟨pm,ms,z,rfl,hM,hS,hW,hz,bz,k⟩:=h;have big:=sizeLine_eq
  refine⟨_,(ae (am (i:=2) sc__law_joined.nd rfl (Or.inl rfl) al)
   (ae (iq PassesOwn.never rfl (lp (K:=K) rfl (pv 0)) (dS (i:=3) sc__law_joined.nd rfl (Or.inl rfl))
     (ae (am (i:=1) sc__law_joined.nd rfl (Or.inl rfl) (ag aH (ag dA (pv 1) ac) ac))
       (ai (am (i:=2) sc__law_joined.nd rfl (Or.inl rfl) (ag lu (ag lu (pv 2) (ag rH al (aO (pC rfl) (by rfl) T.max_ PyProof.Rows.boot_max (aa ac (aa (ag iw (ag aH (pv 1) ac) ac) ad))))) (pv 3))))))
   (ai (ar (ag lu (pv 2) (ag rH al (ag aH (ag bq (pv 1) ac) ac))))))),?_⟩
  refine ay ?_;refine⟨_,rfl,pm,rfl,⟨_,SqL.of hM⟩,oV (K:=K) (a:=pm) (xs:=ms.map vS) (λi σ' H'=>∃(z3:Option V) (tn:Int) (X:List Nat),σ'=[some (.ref pm),some (.int tn),some (.str (stL X)),z3]/\H'=H/\Bits 100 tn/\(mks 0 X).map (·.1)=ms.take i/\X.length<=szs (ms.take i)/\(∀c∈X,c<128)/\((i=0/\X=[])\/∃j m,i=j+1/\ms[j]?=some m/\X.getLast?=m.getLast?)) ⟨none,z,[],rfl,rfl,bz,rfl,EO _,λc hc=>(nomatch hc),.inl ⟨rfl,rfl⟩⟩ ?_ ?_ ?_⟩
  ·rintro i σ' H' _ ⟨z3,tn,X,rfl,rfl,_⟩;exact SqL.of hM
  ·rintro i x σ' H' hi ⟨z3,tn,X,rfl,rfl,bt,em,hl,ha,hLk⟩;obtain⟨m,ei,rfl,hm,et⟩:=tQ hi;have wm:=hW m hm;have hzt:=qM ms (i+1);rw[et,qN]at hzt;obtain⟨t1,e1,l1⟩:=bw (tn*48271) 2147483647 (by decide);obtain⟨t2,e2,l2⟩:=bw (tn*48271%2147483647) 6 (by decide)
   obtain⟨g,eg,hg⟩:∃g:Nat,(if tn*48271%2147483647%6-3>0 then tn*48271%2147483647%6-3 else 0)=(g:Int)/\g<=2:=by
    rw[e2];by_cases h:t2<=3
    ·exact⟨0,by rw[if_neg (by omega)];rfl,by decide⟩
    ·exact⟨t2-3,by rw[if_pos (by omega)];omega,by omega⟩
   dsimp only
   refine ay ⟨_,rfl,_,_,rfl,rfl,⟨bt.mono,Bits.mono (j:=64) (by show(48271:Int).natAbs<2^64;decide) (by decide)⟩,_,_,rfl,rfl,pos,?_⟩;refine cg ⟨_,rfl,_,rfl,_,_,rfl,rfl,pos,_,_,rfl,rfl,_,_,rfl,_,_,rfl,rfl,by decide +kernel,?_,?_,_,_,rfl,rfl,?_,_,rfl,_,_,rfl,rfl,?_,?_⟩
   ·show 0<=(if tn*48271%2147483647%6-3>0 then tn*48271%2147483647%6-3 else 0);rw[eg];omega
   ·show(if tn*48271%2147483647%6-3>0 then tn*48271%2147483647%6-3 else 0)<=1000;rw[eg];omega
   ·show(stL X).length+(Txt.mul (Str.ofString " ") (if tn*48271%2147483647%6-3>0 then tn*48271%2147483647%6-3 else 0)).length<=sizeLine;rw[eg,ji g hg,aU,aU,E8];omega
   ·show(stL X++Txt.mul (Str.ofString " ") (if tn*48271%2147483647%6-3>0 then tn*48271%2147483647%6-3 else 0)).length+(stL m).length<=sizeLine;rw[eg,ji g hg,iQ,aU,aU,ER,E8];omega
   ·have e9:stL X++Txt.mul (Str.ofString " ") (if tn*48271%2147483647%6-3>0 then tn*48271%2147483647%6-3 else 0)++stL m=stL (X++List.replicate g 32++m):=by rw[eg,ji g hg,iQ,iQ]
    refine⟨_,tn*48271%2147483647,X++List.replicate g 32++m,by rw[<- e9];rfl,rfl,?_,?_,?_,?_,.inr ⟨i,m,rfl,ei,?_⟩⟩
    ·rw[e1];exact ET (show((t1:Nat):Int).natAbs<2147483647 by omega) (by decide)
    ·have ng:ez X m:=by
      rcases hLk with⟨_,rfl⟩ |⟨j,m0,rfl,ej,hX⟩
      ·exactλa b h=>by cases h
      ·intro a b h1 h2;exact yJ (hW m0 (List.mem_of_getElem? ej)) (qS hS ej ei) a b (by rw[<- hX];exact h1) h2
     rw[yP wm.wf (.inr ng),EV,em,et];rfl
    ·rw[et,qN,ER,ER,E8];omega
    ·intro c hc;simp only[EW,List.mem_replicate]at hc;rcases hc with(h |h) |h
     ·exact ha c h
     ·rw[h.2];decide
     ·exact wm.wf.asc c h
    ·rw[List.getLast?_append];obtain⟨c,r,rfl⟩:=Fd wm.wf.ne;cases e:(c::r).getLast? with
     |none=>simp at e
     |some v=>rfl
  ·rintro σ' H' ⟨z3,tn,X,rfl,rfl,bt,em,hl,ha,_⟩;rw[EN,Ft]at em;have hl':=ES hl (qM ms _);obtain⟨g,eg,lg⟩:=bw (tn/6) 3 (by decide);dsimp only
   refine aM ⟨_,rfl,_,rfl,_,_,rfl,rfl,cdp,_,_,rfl,rfl,pos,_,_,rfl,rfl,by decide +kernel,?_,?_,_,_,rfl,rfl,?_,?_⟩
   ·show 0<=tn/6%3;rw[eg];omega
   ·show tn/6%3<=1000;rw[eg];omega
   ·show(stL X).length+(Txt.mul (Str.ofString " ") (tn/6%3)).length<=sizeLine;rw[eg,ji g (by omega),aU,aU,E8];omega
   ·have e9:stL X++Txt.mul (Str.ofString " ") (tn/6%3)=stL (X++List.replicate g 32):=by rw[eg,ji g (by omega),iQ]
    have:=k (X++List.replicate g 32) ⟨λc hc=>by
     rcases EW.mp hc with h |h
     ·exact ha c h
     ·rw[(List.mem_replicate.mp h).2];decide,by rw[ER,E8];omega⟩ (by rw[yT];exact em)
    rw[<- e9]at this;exact this
theorem Da{j:Nat}(h:j<26):atI (Str.ofString "abcdefghijklmnopqrstuvwxyz").cps.toList (j:Int)=some (j+97):=by
 have:∀j:Nat,j<26->atI (Str.ofString "abcdefghijklmnopqrstuvwxyz").cps.toList (j:Int)=some (j+97):=by decide +kernel
 exact this j h
theorem zI:V.str (Str.ofString "y")=vS [121]:=by rw[show Str.ofString "y"=stL [121] by decide +kernel]
def mF:Sp:=λvs H Q _=>∃c:Int,vs=[.int c]/\∀(m:List Nat) (H':Hp),cI m=true->Same H H'->Q (vS m) H'
theorem xU{f:Addr}{fd:FuncData}(F:Fun K "_law_word" "_law_word" gG f fd)(T:Txt K mg):FnOk P w K mg base CX0 1 f fd ["_law_cell_here"] mF:=by
 refine F.ok sc__law_word (λvs H Q E h=>?_) (λcdv A outer s H vs Q E hr h=>?_)
 ·obtain⟨c,rfl,_⟩:=h;rfl
 ·obtain⟨c,rfl,k⟩:=h;have big:=sizeLine_eq
  refine⟨_,(ae (am (i:=1) sc__law_word.nd rfl (Or.inl rfl) al)
   (ae (am (i:=2) sc__law_word.nd rfl (Or.inl rfl) (ag bG ac (ag aH (pv 0) ac)))
   (ae (am (i:=3) sc__law_word.nd rfl (Or.inl rfl) al)
   (ae (iq PassesOwn.never rfl (rB rfl T.range_ (aa (ag bG ac (ag aH (pv 0) ac)) ad)) (dS (i:=4) sc__law_word.nd rfl (Or.inl rfl))
     (ae (am (i:=2) sc__law_word.nd rfl (Or.inl rfl) (ag aH (ag dA (pv 2) ac) ac))
       (ai (am (i:=3) sc__law_word.nd rfl (Or.inl rfl) (ag lu (pv 3) (ao jx (pv 1) (ag aH (ag bq (pv 2) ac) (ao (bT (K:=K) rfl) (bf (aa ac (aa ac ad))) (ag aH (ag bq (pv 0) ac) ac) (λ_ _=>rfl))) (λ_ _=>rfl)))))))
   (ae (aF (aI (jg (K:=K) rfl) (pv 3) (bj (aa al (aa al (aa al (aa al ad))))) (by rfl))
     (ai (ar al))
     aJ)
   (ai (ar (pv 3)))))))),?_⟩
  refine ay (ay ⟨_,rfl,_,_,rfl,rfl,pos,_,_,rfl,rfl,ay ?_⟩);obtain⟨n8,e8,l8⟩:=bw c 8 (by decide);obtain⟨n2,e2,l2⟩:=bw (c/8) 2 (by decide);obtain⟨t0,et0,lt0⟩:=bw c 2147483646 (by decide);have h8:(1+c%8).toNat=n8+1:=by rw[e8];omega
  refine⟨_,rfl,_,_,rfl,rfl,pos,_,_,rfl,rfl,_,rfl,by rw[e8];omega,by rw[e8];omega,tU (lo:=0) (λi σ' H'=>∃(z4:Option V) (tn:Int) (X:List Nat),σ'=[some (.int c),some (.str (Str.ofString "abcdefghijklmnopqrstuvwxyz")),some (.int tn),some (vS X),z4]/\Same H H'/\Bits 100 tn/\X.length=i/\∀a∈X,isA a=true) ⟨none,_,[],rfl,Same.refl _,?_,rfl,λa ha=>(nomatch ha)⟩ ?_ ?_⟩
  ·rw[et0];exact ET (show(1+(t0:Int)).natAbs<2147483648 by omega) (by decide)
  ·rintro i σ' H' hi ⟨z4,tn,X,rfl,sm,bt,hX,hA⟩;rw[h8]at hi;obtain⟨t1,e1,l1⟩:=bw (tn*48271) 2147483647 (by decide)
   obtain⟨D,aD,dD,hD⟩:∃D:Int,atI [V.int 26,V.int 4] (c/8%2)=some (.int D)/\0<D/\D<=26:=by
    rw[e2];rcases Nat.lt_or_ge n2 1 with h |h
    ·have:n2=0:=by omega
     subst this;exact⟨26,rfl,by decide,by decide⟩
    ·have:n2=1:=by omega
     subst this;exact⟨4,rfl,by decide,by decide⟩
   obtain⟨j,ej,lj⟩:=bw (tn*48271%2147483647/3) D dD;dsimp only
   refine ay ⟨_,rfl,_,_,rfl,rfl,⟨bt.mono,Bits.mono (j:=64) (by show(48271:Int).natAbs<2^64;decide) (by decide)⟩,_,_,rfl,rfl,pos,?_⟩;refine cg ⟨_,rfl,_,rfl,_,rfl,_,_,rfl,rfl,cdp,by show 2<=sizeLine;omega,λp1 h1=>⟨_,rfl,_,_,rfl,rfl,cdp,_,_,rfl,rfl,pos,p1,_,_,_,rfl,rfl,SqL.of af,aD,_,_,rfl,rfl,dD,_,_,j+97,rfl,rfl,by show(26:Nat)<=sizeLine;omega,by rw[ej];exact Da (by omega),_,_,rfl,rfl,?_,?_⟩⟩
   ·show(stL X).length+1<=sizeLine;rw[aU];omega
   ·refine⟨_,tn*48271%2147483647,X++[j+97],by rw[show vS (X++[j+97])=.str (stL X++stL [j+97]) by rw[iQ]];rfl,sm.then_new h1,?_,by rw[ER,hX];rfl,λa ha=>?_⟩
    ·rw[e1];exact ET (show((t1:Nat):Int).natAbs<2147483647 by omega) (by decide)
    ·rcases EW.mp ha with h |h
     ·exact hA a h
     ·rw[E4.mp h];unfold isA;rw[decide_eq_true (by omega),decide_eq_true (by omega)];rfl
  ·rintro σ' H' ⟨z4,tn,X,rfl,sm,bt,hX,hA⟩;rw[h8]at hX;dsimp only
   refine ax ⟨_,rfl,by show 4<=sizeLine;omega,λpt hpt=>?_⟩;have s1:=sm.then_new (o:=.tup [V.str (Str.ofString "x"),V.str (Str.ofString "sqrt"),V.str (Str.ofString "cbrt"),V.str (Str.ofString "root")]) hpt;refine⟨pt,_,rfl,.inr (SqT.of af),rfl,by decide,_,rfl,?_⟩;show if(inV (.str (stL X)) [.str (Str.ofString "x"),.str (Str.ofString "sqrt"),.str (Str.ofString "cbrt"),.str (Str.ofString "root")])=true then _ else _
   rw[tG];refine ap (λh=>?_) (λh=>?_)
   ·refine aM ?_;show Q (V.str (Str.ofString "y")) _;rw[zI];exact k [121] _ (by decide) s1
   ·refine aM ⟨_,rfl,k X _ ?_ s1⟩;unfold cI;rw[decide_eq_true (show X≠[]fromλz=>by rw[z]at hX;cases hX),Fg.mpr hA,decide_eq_true (show X.length<=8 by omega),decide_eq_false h];rfl
theorem nM:∀(k n:Nat),n<10^(k+1)->(aj n).length<=k+1
 |0,n,h=>by rw[iy (by omega)];exact EO _
 |k+1,n,h=>by
  by_cases h0:n<10
  ·rw[iy h0];simp
  ·rw[lx (by omega),ER];have:=nM k (n/10) (by rw[Nat.pow_succ]at h;omega);show _+1<=_;omega
theorem qL:∀{ms:List (List Nat)},(∀m∈ms,m.length<=2)->szs ms<=4*ms.length
 | [],_=>EO _
 |m::ms,h=>by
  have h1:=h m (by simp);have h2:=qL (ms:=ms) λx hx=>h x (by simp[hx])
  show(m.length+2)+szs ms<=4*(ms.length+1);omega
theorem A1{A K B L M H:Nat}{C N:Option Nat}(hA:A<100)(hK:K<=8)(hB:B<100)(hC:∀c∈C,c<=8)(hL:L<100)(hM:M<100)(hH:H<100)(hN:∀n∈N,1<=n/\n<100):(∀m∈gM A K B C L M H N,m.length<=2)/\(gM A K B C L M H N).length<=27:=by
 have n2:∀{n:Nat},n<100->(aj n).length<=2:=λ{n} h=>nM 1 n h
 have e1:(mC C).length<=6:=by cases C<;>simp[mC]
 have e2:(mN N).length<=2:=by cases N<;>simp[mN]
 refine⟨λm hm=>?_,?_⟩
 ·have hC':∀m∈mC C,m.length<=2:=λm hm=>by
   cases C with
   |none=>cases hm
   |some c =>
    have:=hC c rfl;simp only[mC,EQ,E2,or_false]at hm;rcases hm with rfl |rfl |rfl |rfl |rfl |rfl
    ·decide
    ·exact n2 (by decide)
    ·decide
    ·decide
    ·decide
    ·exact n2 (by omega)
  have hN':∀m∈mN N,m.length<=2:=λm hm=>by
   cases N with
   |none=>cases hm
   |some c =>
    simp only[mN,EQ,E2,or_false]at hm;rcases hm with rfl |rfl
    ·decide
    ·exact n2 (hN c rfl).2
  unfold gM at hm
  simp only[EQ,EW,E2,or_false]at hm;rcases hm with rfl | ((rfl |rfl |rfl |rfl |rfl |rfl |rfl |rfl |rfl |rfl) |hm) | (rfl |rfl |rfl |rfl |rfl |rfl | ((rfl |hm) |rfl))
  ·decide
  ·decide
  ·exact n2 hA
  ·decide
  ·decide
  ·decide
  ·exact n2 (by omega)
  ·decide
  ·decide
  ·decide
  ·exact n2 hB
  ·exact hC' m hm
  ·decide
  ·decide
  ·exact n2 hL
  ·decide
  ·exact n2 hM
  ·decide
  ·exact n2 hH
  ·exact hN' m hm
  ·decide
 ·unfold gM;simp only[E1,ER,List.length_nil];omega
theorem pw{l:List Int}{j:Nat}{v:Int}(h:j<l.length)(n:Nat):cf (l.set j v) n=if n=j then v else cf l n:=by
 unfold cf;rw[List.getD,List.getD,List.getElem?_set];by_cases e:n=j
 ·subst e;rw[if_pos rfl,if_pos rfl,if_pos h];rfl
 ·rw[if_neg (λz=>e z.symm),if_neg e]
theorem pA{l:List Int}{j:Nat}{v:Int}(h:j<l.length)(n:Nat):cf (l.set j (cf l j+v)) n=cf l n+if n=j then v else 0:=by
 rw[pw h];by_cases e:n=j
 ·rw[if_pos e,if_pos e,e]
 ·rw[if_neg e,if_neg e,Int.add_zero]
def gj:Sp:=λvs H Q _=>∃(av:Addr) (c:Int),vs=[.int c]/\H av≠none/\∀(p:Addr) (t:PT) (ms:List (List Nat)) (d rk:Nat) (H':Hp),Gr rk d ms t->szs ms<=196->d<=10->ms.length<=100->Same H H'->ItH av H' t ms d rk p->Q (.ref p) H'
noncomputable def mA(A K B:Nat):List (List Nat):=bP::[40]::[[45],aj A,[42],[120],[94],aj K,[43],[120],[45],aj B]
theorem zL:V.str (Str.ofString "root")=vS bP:=by rw[oz]
theorem sL:V.str (Str.ofString "x")=vS [120]:=by rw[om]
theorem zN:V.str (Str.ofString ",")=vS [44]:=by rw[sN]
theorem zM:V.str (Str.ofString "..")=vS [46,46]:=by rw[lL]
theorem zJ:V.str (Str.ofString "3")=vS (aj 3):=by rw[show Str.ofString "3"=stL (aj 3) by decide +kernel]
theorem dI{i:Int}{n:Nat}(e:i=(n:Int)):V.str (Str.ofString (toString i))=vS (aj n):=by rw[e,qr]
theorem zG{A K B:Nat}{i j k:Int}(e1:i=(A:Int))(e2:j=(K:Int))(e3:k=(B:Int)):[V.str (Str.ofString "root"),V.str (Str.ofString "("),V.str (Str.ofString "-"),V.str (Str.ofString (toString i)),V.str (Str.ofString "*"),V.str (Str.ofString "x"),V.str (Str.ofString "^"),V.str (Str.ofString (toString j)),V.str (Str.ofString "+"),V.str (Str.ofString "x"),V.str (Str.ofString "-"),V.str (Str.ofString (toString k))]=(mA A K B).map vS:=by rw[zL,oB,lJ,oq,sL,oE,oA,dI e1,dI e2,dI e3];rfl
theorem zF{C:Nat}{i:Int}(e1:i=(C:Int)):[V.str (Str.ofString "+"),V.str (Str.ofString "3"),V.str (Str.ofString "*"),V.str (Str.ofString "x"),V.str (Str.ofString "^"),V.str (Str.ofString (toString i))]=(mC (some C)).map vS:=by rw[oq,sL,oE,oA,zJ,dI e1];rfl
theorem zE{L M H:Nat}{i j k:Int}(e1:i=(L:Int))(e2:j=(M:Int))(e3:k=(H:Int)):[V.str (Str.ofString ","),V.str (Str.ofString "-"),V.str (Str.ofString (toString i)),V.str (Str.ofString "/"),V.str (Str.ofString (toString j)),V.str (Str.ofString ".."),V.str (Str.ofString (toString k))]=[[44],[45],aj L,[47],aj M,[46,46],aj H].map vS:=by rw[zN,lJ,ou,zM,dI e1,dI e2,dI e3];rfl
theorem zD{N:Nat}{i:Int}(e1:i=(N:Int)):[V.str (Str.ofString "/"),V.str (Str.ofString (toString i))]=(mN (some N)).map vS:=by rw[ou,dI e1];rfl
def Gv1(H:Hp)(c:Int)(A K B:Nat)(σ':St)(H':Hp):Prop:=∃(pm pk:Addr) (L:List Int) (C:Option Nat) (T2:Int),σ'=[some (.int c),some (.int T2),some (.int (K:Int)),some (.ref pm),some (.ref pk),none,none]/\Same H H'/\H pk=none/\H pm=none/\pm≠pk/\H' pk=some (.lst (L.map V.int))/\L.length=9/\(∀n,cf L n=g3 A K B n+g4 C n)/\(∀c∈C,c<=8)/\H' pm=some (.lst ((mA A K B++mC C).map vS))/\Bits 100 T2
def Gv2(H:Hp)(c:Int)(A K B:Nat)(L:List Int)(C:Option Nat)(σ':St)(H':Hp):Prop:=∃(pm pk pl ph:Addr) (T3:Int) (l m h:Nat) (N:Option Nat),σ'=[some (.int c),some (.int T3),some (.int (K:Int)),some (.ref pm),some (.ref pk),some (.ref pl),some (.ref ph)]/\Same H H'/\H pk=none/\H pm=none/\pm≠pk/\H' pk=some (.lst (L.map V.int))/\H' pm=some (.lst ((mA A K B++mC C++[[44],[45],aj l,[47],aj m,[46,46],aj h]++mN N).map vS))/\H' pl=some (.tup [.int (-(l:Int)),.int (m:Int)])/\H' ph=some (.tup [.int (h:Int),.int ((N.getD 1:Nat):Int)])/\l<100/\m<100/\1<=m/\h<100/\∀n∈N,1<=n/\n<100
theorem b48:Bits 1000000 (48271:Int):=Bits.mono (j:=64) (by show(48271:Int).natAbs<2^64;decide) (by decide)
theorem qx{i:Int}:Bits 100 (i%2147483647):=by obtain⟨t,e,l⟩:=bw i 2147483647 (by decide);rw[e];exact ET (show((t:Nat):Int).natAbs<2147483647 by omega) (by decide)
theorem lI(i:Int){j:Int}(h:0<j:=by decide)(h2:j.toNat<=2^100:=by decide):(i%j).natAbs.log2<1920:=by obtain⟨t,e,l⟩:=bw i j h;rw[e];exact fD (ET (show t<j.toNat by omega) (ES h2 (Fv (by decide) (by decide))))
theorem x8{f:Addr}{fd:FuncData}(F:Fun K "_law_given" "_law_given" gL f fd)(T:Txt K mg):FnOk P w K mg base CX0 1 f fd ["_law_cell_here"] gj:=by
 refine F.ok sc__law_given (λvs H Q E h=>?_) (λcdv A outer s H vs Q E hr h=>?_)
 ·obtain⟨av,c,rfl,_⟩:=h;rfl
 ·obtain⟨av,c,rfl,hav,kk⟩:=h;have big:=sizeLine_eq
  refine⟨_,(ae (am (i:=1) sc__law_given.nd rfl (Or.inl rfl) (ag bG ac (ag aH (pv 0) ac)))
   (ae (am (i:=2) sc__law_given.nd rfl (Or.inl rfl) (ag aH (pv 1) ac))
   (ae (am (i:=1) sc__law_given.nd rfl (Or.inl rfl) (ag aH (ag dA (pv 1) ac) ac))
   (ae (am (i:=3) sc__law_given.nd rfl (Or.inl rfl) (bf (aa al (aa al (aa al (aa (cv dF (by rfl) T.str_ PyProof.Rows.boot_str (aa (ag aH (pv 1) ac) ad)) (aa al (aa al (aa al (aa (cv dF (by rfl) T.str_ PyProof.Rows.boot_str (aa (pv 2) ad)) (aa al (aa al (aa al (aa (cv dF (by rfl) T.str_ PyProof.Rows.boot_str (aa (ag aH (ag bq (pv 1) ac) ac) ad)) ad))))))))))))))
   (ae (am (i:=4) sc__law_given.nd rfl (Or.inl rfl) (ag nG (bf (aa ac ad)) ac))
   (ae (jc (cD cz (ag aH (pv 1) ac)) (jd (pv 4) (pv 2) iW))
   (ae (jc (ag bG (ao (bT (K:=K) rfl) (pv 4) ac (λ_ _=>rfl)) ac) (jd (pv 4) ac iW))
   (ae (jc (ag iw (ao (bT (K:=K) rfl) (pv 4) ac (λ_ _=>rfl)) (ag aH (ag bq (pv 1) ac) ac)) (jd (pv 4) ac iW))
   (ae (am (i:=1) sc__law_given.nd rfl (Or.inl rfl) (ag aH (ag dA (pv 1) ac) ac))
   (ae (aF (aI bS (ag aH (pv 1) ac) ac (aA _))
     (ae (am (i:=3) sc__law_given.nd rfl (Or.inl rfl) (ag cw (pv 3) (bf (aa al (aa al (aa al (aa al (aa al (aa (cv dF (by rfl) T.str_ PyProof.Rows.boot_str (aa (ag aH (ag bq (pv 1) ac) ac) ad)) ad)))))))))
       (ai (jc (ag bG (ao (bT (K:=K) rfl) (pv 4) (ag aH (ag bq (pv 1) ac) ac) (λ_ _=>rfl)) ac) (jd (pv 4) (ag aH (ag bq (pv 1) ac) ac) iW))))
     aJ)
   (ae (am (i:=1) sc__law_given.nd rfl (Or.inl rfl) (ag aH (ag dA (pv 1) ac) ac))
   (ae (am (i:=5) sc__law_given.nd rfl (Or.inl rfl) (bj (aa (cD cz (ag aH (pv 1) ac)) (aa (ag bG ac (ag aH (ag bq (pv 1) ac) ac)) ad))))
   (ae (am (i:=6) sc__law_given.nd rfl (Or.inl rfl) (bj (aa (ag aH (ag bq (pv 1) ac) ac) (aa (ag bG ac (ag aH (ag bq (pv 1) ac) ac)) ad))))
   (ae (am (i:=3) sc__law_given.nd rfl (Or.inl rfl) (ag cw (pv 3) (bf (aa al (aa al (aa (cv dF (by rfl) T.str_ PyProof.Rows.boot_str (aa (ag aH (pv 1) ac) ad)) (aa al (aa (cv dF (by rfl) T.str_ PyProof.Rows.boot_str (aa (ao (aC (K:=K) rfl) (pv 5) ac (λ_ _=>rfl)) ad)) (aa al (aa (cv dF (by rfl) T.str_ PyProof.Rows.boot_str (aa (ao (aC (K:=K) rfl) (pv 6) ac (λ_ _=>rfl)) ad)) ad))))))))))
   (ae (aF (aI bS (ag aH (ag bq (pv 1) ac) ac) ac (aA _))
     (ai (am (i:=6) sc__law_given.nd rfl (Or.inl rfl) (bj (aa (ao (aC (K:=K) rfl) (pv 6) ac (λ_ _=>rfl)) (aa ac ad)))))
     (ai (am (i:=3) sc__law_given.nd rfl (Or.inl rfl) (ag cw (pv 3) (bf (aa al (aa (cv dF (by rfl) T.str_ PyProof.Rows.boot_str (aa (ao (aC (K:=K) rfl) (pv 6) ac (λ_ _=>rfl)) ad)) ad)))))))
   (ae (eO PassesOwn.never (PW.pt (ja (aI ix (aO (cW (K:=K) rfl) (by rfl) T.len_ PySem.boot_len (aa (pv 4) ad)) ac (aA _)) (i0 (aI bS (ao (bT (K:=K) rfl) (pv 4) (cD cz ac) (λ_ _=>rfl)) ac (aA _)))))
     (ai (cR (xk PySem.F.plainAttrs_list PySem.F.slot_list_pop PySem.F.type_list_pop yM (pv 4)))))
   (ai (ar (bj (aa (bj (aa al (aa (pv 4) (aa (pv 5) (aa (pv 6) ad))))) (aa (ag cw (pv 3) (bf (aa al ad))) (aa ac (aa ac ad))))))))))))))))))))))),?_⟩
  obtain⟨t0,et0,lt0⟩:=bw c 2147483646 (by decide);obtain⟨T0,hT0⟩:∃T0:Int,1+c%2147483646=T0:=⟨_,rfl⟩;have bT0:Bits 100 T0:=by rw[<- hT0,et0];exact ET (show(1+(t0:Int)).natAbs<2147483648 by omega) (by decide)
  refine ay ⟨_,rfl,_,_,rfl,rfl,pos,_,_,rfl,rfl,?_⟩;show cr _ _ _ _ _;refine db (λσ' H'=>σ'=[some (.int c),some (.int T0),none,none,none,none,none]/\H=H') ⟨by rw[<- hT0];rfl,rfl⟩ ?_;rintro σ' H' ⟨rfl,rfl⟩;obtain⟨K0,eK,lK⟩:=bw T0 9 (by decide);obtain⟨T1,hT1⟩:∃T1:Int,T0*48271%2147483647=T1:=⟨_,rfl⟩;have bT1:Bits 100 T1:=by rw[<- hT1];exact qx
  obtain⟨A0,eA,lA⟩:=bw T1 5 (by decide);obtain⟨B0,eB,lB⟩:=bw (T1/5) 4 (by decide);refine ay ⟨_,rfl,_,_,rfl,rfl,pos,?_⟩;refine ay ⟨_,rfl,_,_,rfl,rfl,⟨bT0.mono,b48⟩,_,_,rfl,rfl,pos,?_⟩;show cr _ _ _ _ _;refine db (λσ' H'=>σ'=[some (.int c),some (.int T1),some (.int (K0:Int)),none,none,none,none]/\H=H') ⟨by rw[<- hT1,<- eK];rfl,rfl⟩ ?_;rintro σ' H' ⟨rfl,rfl⟩;refine ay ⟨_,rfl,_,_,rfl,rfl,pos,_,rfl,lI _,_,rfl,_,rfl,fD (iT (m:=9) lK),_,rfl,_,_,rfl,rfl,cdp,_,_,rfl,rfl,pos,_,rfl,lI _,by show 12<=sizeLine;omega,λpm hpm=>?_⟩;have s1:=Same.upd_new (o:=.lst ((mA A0 K0 B0).map vS)) hpm;show cr _ _ _ _ _;refine db (λσ' H'=>σ'=[some (.int c),some (.int T1),some (.int (K0:Int)),some (.ref pm),none,none,none]/\H'=upd H pm (.lst ((mA A0 K0 B0).map vS))) ⟨rfl,by rw[<- zG eA rfl eB]⟩ ?_;rintro σ' H' ⟨rfl,rfl⟩;have old_pm:=hpm;have em1:upd H pm (.lst ((mA A0 K0 B0).map vS)) pm=some (.lst ((mA A0 K0 B0).map vS)):=af;generalize upd H pm (.lst ((mA A0 K0 B0).map vS))=H1 at s1 em1 ⊢
  refine ay ⟨by show 1<=sizeLine;omega,λp0 h0=>⟨p0,9,_,rfl,rfl,af,by decide,by decide,by show 1*9<=sizeLine;omega,λpk hpk=>?_⟩⟩;have s2:=(Same.upd_new (o:=.lst [V.int 0]) h0).then_new (o:=.lst ((List.replicate 9 (0:Int)).map V.int)) hpk;have s3:=s1.trans s2;have hk0:H pk=none:=cF (s1.then_new h0) hpk
  have nmk:pm≠pk:=λz=>by have:=(Same.upd_new (o:=.lst [V.int 0]) h0) _ _ em1;rw[z,hpk]at this;cases this
  show cr _ _ _ _ _;refine db (λσ' H'=>σ'=[some (.int c),some (.int T1),some (.int (K0:Int)),some (.ref pm),some (.ref pk),none,none]/\Same H H'/\H' pk=some (.lst ((List.replicate 9 (0:Int)).map V.int))/\H' pm=some (.lst ((mA A0 K0 B0).map vS))) ⟨rfl,s3,af,s2 _ _ em1⟩ ?_;clear s2 s3 h0 hpk s1 em1;rintro σ' H2 ⟨rfl,s2,ek2,em2⟩;refine nj ⟨_,rfl,_,_,rfl,rfl,pos,_,rfl,_,rfl,_,rfl,pk,_,_,K0,rfl,rfl,ek2,lP rfl (by rw[EN];show K0<9;omega),?_⟩;dsimp only
  refine db (λσ' H'=>σ'=[some (.int c),some (.int T1),some (.int (K0:Int)),some (.ref pm),some (.ref pk),none,none]/\Same H H'/\H' pk=some (.lst (((List.replicate 9 (0:Int)).set K0 (-(A0:Int))).map V.int))/\H' pm=some (.lst ((mA A0 K0 B0).map vS))) ⟨rfl,dX s2 hk0,by rw[af,<- lH,<- eA],by rw[upd_ne nmk];exact em2⟩ ?_;clear s2 ek2 em2 H2;rintro σ' H2 ⟨rfl,s2,ek2,em2⟩
  obtain⟨L1,hL1,l1,c1⟩:∃L1:List Int,(List.replicate 9 (0:Int)).set K0 (-(A0:Int))=L1/\L1.length=9/\∀n,cf L1 n=if n=K0 then -(A0:Int)else 0:=⟨_,rfl,by simp,λn=>by
   rw[pw (by simp;omega)]
   congr 1
   unfold cf
   rw[List.getD,List.getElem?_replicate];split<;>rfl⟩
  rw[hL1]at ek2;refine nj ⟨_,rfl,pk,_,_,_,rfl,rfl,SqL.of ek2,pN (j:=1) rfl (by omega),_,_,rfl,rfl,_,rfl,pk,_,_,1,rfl,rfl,ek2,lP rfl (by rw[EN];omega),?_⟩;dsimp only
  refine db (λσ' H'=>σ'=[some (.int c),some (.int T1),some (.int (K0:Int)),some (.ref pm),some (.ref pk),none,none]/\Same H H'/\H' pk=some (.lst ((L1.set 1 (cf L1 1+1)).map V.int))/\H' pm=some (.lst ((mA A0 K0 B0).map vS))) ⟨rfl,dX s2 hk0,by rw[af,<- lH],by rw[upd_ne nmk];exact em2⟩ ?_;clear s2 ek2 em2 H2;rintro σ' H2 ⟨rfl,s2,ek2,em2⟩;obtain⟨L2,hL2,l2,c2⟩:∃L2:List Int,L1.set 1 (cf L1 1+1)=L2/\L2.length=9/\∀n,cf L2 n=(if n=K0 then -(A0:Int)else 0)+if n=1 then 1 else 0:=⟨_,rfl,by rw[Fu];exact l1,λn=>by rw[pA (by omega),c1]⟩
  rw[hL2]at ek2;refine nj ⟨_,rfl,pk,_,_,_,rfl,rfl,SqL.of ek2,pN (j:=0) rfl (by omega),_,rfl,_,_,rfl,rfl,cdp,_,_,rfl,rfl,pos,_,_,rfl,rfl,_,rfl,pk,_,_,0,rfl,rfl,ek2,lP rfl (by rw[EN];omega),?_⟩;dsimp only
  refine db (λσ' H'=>σ'=[some (.int c),some (.int T1),some (.int (K0:Int)),some (.ref pm),some (.ref pk),none,none]/\Same H H'/\H' pk=some (.lst ((L2.set 0 (cf L2 0 + -(B0:Int))).map V.int))/\H' pm=some (.lst ((mA A0 K0 B0).map vS))) ⟨rfl,dX s2 hk0,by rw[af,<- lH,<- eB];rfl,by rw[upd_ne nmk];exact em2⟩ ?_;clear s2 ek2 em2 H2;rintro σ' H2 ⟨rfl,s2,ek2,em2⟩;obtain⟨L3,hL3,l3,c3⟩:∃L3:List Int,L2.set 0 (cf L2 0 + -(B0:Int))=L3/\L3.length=9/\∀n,cf L3 n=g3 A0 K0 B0 n:=⟨_,rfl,by rw[Fu];exact l2,λn=>by rw[pA (by omega),c2];rfl⟩;rw[hL3]at ek2;obtain⟨T2,hT2⟩:∃T2:Int,T1*48271%2147483647=T2:=⟨_,rfl⟩;have bT2:Bits 100 T2:=by rw[<- hT2];exact qx
  refine ay ⟨_,rfl,_,_,rfl,rfl,⟨bT1.mono,b48⟩,_,_,rfl,rfl,pos,?_⟩;show cr _ _ _ _ _;refine db (λσ' H'=>σ'=[some (.int c),some (.int T2),some (.int (K0:Int)),some (.ref pm),some (.ref pk),none,none]/\H2=H') ⟨by rw[<- hT2];rfl,rfl⟩ ?_;rintro σ' H' ⟨rfl,rfl⟩;refine eM (Gv1 H c A0 K0 B0) ?_ (λrest=>?_)
  rotate_left
  ·obtain⟨C0,eC,lC⟩:=bw (T2/2) 9 (by decide);show du _ _ _ _ _ _;refine cu ⟨_,rfl,_,_,rfl,rfl,pos,_,_,rfl,rfl,_,rfl,ap (λh=>?_) (λh=>?_)⟩
   ·refine ay ⟨_,rfl,_,rfl,_,_,rfl,rfl,cdp,_,_,rfl,rfl,pos,_,rfl,lI _,by show 6<=sizeLine;omega,λp1 h1=>⟨pm,p1,_,_,rfl,rfl,(Same.upd_new h1) _ _ em2,af,by rw[EN];show 12+6<=sizeLine;omega,λp2 h2=>?_⟩⟩;have r2:=(Same.upd_new (o:=.lst ((mC (some C0)).map vS)) h1);rw[zF eC]at h2 ⊢;have r3:=r2.then_new (o:=.lst ((mA A0 K0 B0).map vS++(mC (some C0)).map vS)) h2;have n2:p2≠pk:=λz=>by rw[z,r2 _ _ ek2]at h2;cases h2
    have hp2:H p2=none:=cF (s2.trans r2) h2;have ek3:=r3 _ _ ek2;have s3:=s2.trans r3;have em3:(upd (upd H2 p1 (.lst ((mC (some C0)).map vS))) p2 (.lst ((mA A0 K0 B0).map vS++(mC (some C0)).map vS))) p2=some (.lst ((mA A0 K0 B0++mC (some C0)).map vS)):=by rw[af,EV]
    generalize upd (upd H2 p1 (.lst ((mC (some C0)).map vS))) p2 (.lst ((mA A0 K0 B0).map vS++(mC (some C0)).map vS))=H4 at s3 ek3 em3 ⊢
    have hC9:C0<9:=by clear hT1 hT2 hT0 et0 eK eA eB eC;omega
    have atC:atI (L3.map V.int) (T2/2%9)=some (.int (cf L3 C0)):=pN eC (by rw[l3];exact hC9);have ixC:ixN (L3.map V.int).length (T2/2%9)=some C0:=lP eC (by rw[EN,l3];exact hC9);show iP _ _ _ _ _;refine⟨_,rfl,_,rfl,_,_,rfl,rfl,cdp,_,_,rfl,rfl,pos,pk,_,_,_,rfl,rfl,SqL.of ek3,atC,?_⟩;refine⟨_,_,rfl,rfl,_,rfl,_,rfl,_,_,rfl,rfl,cdp,_,_,rfl,rfl,pos,pk,_,_,C0,rfl,rfl,ek3,ixC,?_⟩;exact rest _ _ ⟨p2,pk,L3.set C0 (cf L3 C0+3),some C0,T2,rfl,dX s3 hk0,hk0,hp2,n2,by rw[af,<- lH],by rw[Fu];exact l3,λn=>by rw[pA (by rw[l3];exact hC9),c3];rfl,λx hx=>by cases hx;exact Nat.le_of_lt_succ hC9,by rw[upd_ne n2];exact em3,bT2⟩
   ·exact rest _ _ ⟨pm,pk,L3,none,T2,rfl,s2,hk0,old_pm,nmk,ek2,l3,λn=>by rw[c3];exact(Int.add_zero _).symm,λx hx=>(nomatch hx),by rw[mC,Ff];exact em2,bT2⟩
  clear s2 ek2 em2 nmk hk0 hL3 hL2 hL1 c1 c2 c3 hT1 hT2 hT0 et0 bT1 bT2 bT0 T2 H2 L1 L2 L3 l1 l2 l3 old_pm hpm pk pm;rintro σ' H3 ⟨pm,pk,L,C,T2,rfl,s3,hk0,hm0,nmk,ek3,l9,hcf,hC,em3,bT2⟩;obtain⟨T3,hT3⟩:∃T3:Int,T2*48271%2147483647=T3:=⟨_,rfl⟩;refine ay ⟨_,rfl,_,_,rfl,rfl,⟨bT2.mono,b48⟩,_,_,rfl,rfl,pos,?_⟩;show cr _ _ _ _ _;refine db (λσ' H'=>σ'=[some (.int c),some (.int T3),some (.int (K0:Int)),some (.ref pm),some (.ref pk),none,none]/\H3=H') ⟨by rw[<- hT3];rfl,rfl⟩ ?_;rintro σ' H' ⟨rfl,rfl⟩;clear hT3 bT2;obtain⟨l,el,ll⟩:=bw T3 7 (by decide);obtain⟨m,em,lm⟩:=bw (T3/7) 6 (by decide);obtain⟨h,eh,lh⟩:=bw (T3/42) 9 (by decide);obtain⟨n,en,ln⟩:=bw (T3/378) 6 (by decide);refine ay ⟨_,rfl,_,_,rfl,rfl,pos,_,rfl,_,rfl,_,_,rfl,rfl,cdp,_,_,rfl,rfl,pos,_,_,rfl,rfl,by show 2<=sizeLine;omega,λpl hpl=>?_⟩;refine ay ⟨_,rfl,_,_,rfl,rfl,cdp,_,_,rfl,rfl,pos,_,rfl,_,_,rfl,rfl,cdp,_,_,rfl,rfl,pos,_,_,rfl,rfl,by show 2<=sizeLine;omega,λph hph=>?_⟩;have r1:=Same.upd_new (o:=.tup [.int (-(l:Int)),.int ((1+m:Nat):Int)]) hpl;have o1:HO.tup [V.int (-(T3%7)),V.int (1+T3/7%6)]=.tup [.int (-(l:Int)),.int ((1+m:Nat):Int)]:=by rw[el,em];rfl
  have o2:HO.tup [V.int (T3/42%9),V.int (1+T3/378%6)]=.tup [.int (h:Int),.int ((1+n:Nat):Int)]:=by rw[eh,en];rfl
  show cr _ _ _ _ _;refine db (λσ' H'=>σ'=[some (.int c),some (.int T3),some (.int (K0:Int)),some (.ref pm),some (.ref pk),some (.ref pl),some (.ref ph)]/\Same H3 H'/\H' pl=some (.tup [.int (-(l:Int)),.int ((1+m:Nat):Int)])/\H' ph=some (.tup [.int (h:Int),.int ((1+n:Nat):Int)])) ⟨rfl,(Same.upd_new hpl).then_new hph,by rw[<- o1];exact(Same.upd_new hph) _ _ af,by rw[<- o2];exact af⟩ ?_;clear hpl hph r1 o1 o2;rintro σ' H4 ⟨rfl,s4,e4l,e4h⟩;have ek4:=s4 _ _ ek3;have em4:=s4 _ _ em3;have s04:=s3.trans s4;have lC6:(mC C).length<=6:=by cases C<;>simp[mC]
  have lb1:((1+m:Nat):Int).natAbs.log2<1920:=fD (iT (m:=8) (by clear el em eh en;omega));have lb2:((h:Nat):Int).natAbs.log2<1920:=fD (iT (m:=9) lh);have lb3:((1+n:Nat):Int).natAbs.log2<1920:=fD (iT (m:=8) (by clear el em eh en;omega));refine ay ⟨_,rfl,_,rfl,_,_,rfl,rfl,pos,_,rfl,lI _,_,rfl,pl,_,_,_,rfl,rfl,SqT.of e4l,rfl,_,rfl,lb1,_,rfl,ph,_,_,_,rfl,rfl,SqT.of e4h,rfl,_,rfl,lb2,by show 7<=sizeLine;omega,λp1 h1=>⟨pm,p1,_,_,rfl,rfl,(Same.upd_new h1) _ _ em4,af,by rw[EN,ER];show 12+(mC C).length+7<=sizeLine;omega,λp2 h2=>?_⟩⟩;have q1:=Same.upd_new (o:=.lst ([[44],[45],aj l,[47],aj (1+m),[46,46],aj h].map vS)) h1;have o3:=zE (L:=l) (M:=1+m) (H:=h) el rfl rfl;rw[o3]at h2;have q2:=q1.then_new (o:=.lst ((mA A0 K0 B0++mC C).map vS++[[44],[45],aj l,[47],aj (1+m),[46,46],aj h].map vS)) h2;have n2:p2≠pk:=λz=>by rw[z,q1 _ _ ek4]at h2;cases h2
  have hp2:H p2=none:=cF (s04.trans q1) h2;show cr _ _ _ _ _;refine db (λσ' H'=>σ'=[some (.int c),some (.int T3),some (.int (K0:Int)),some (.ref p2),some (.ref pk),some (.ref pl),some (.ref ph)]/\Same H4 H'/\H' p2=some (.lst ((mA A0 K0 B0++mC C++[[44],[45],aj l,[47],aj (1+m),[46,46],aj h]).map vS))) ⟨rfl,by rw[o3];exact q2,by rw[o3,af,EV (l₁:=mA A0 K0 B0++mC C)]⟩ ?_;clear q1 q2 o3 h1 h2;rintro σ' H5 ⟨rfl,s5,em5⟩;have ek5:=s5 _ _ ek4;have e5l:=s5 _ _ e4l;have e5h:=s5 _ _ e4h;have s05:=s04.trans s5;clear s4 s5 e4l e4h em4 em3 ek3 ek4 s3;refine eM (Gv2 H c A0 K0 B0 L C) ?_ (λrest=>?_)
  rotate_left
  ·have m8:1+m<100:=by clear el em eh en;omega
   have n8:1+n<100:=by clear el em eh en;omega
   have l8:l<100:=by clear el em eh en;omega
   have h8:h<100:=by clear el em eh en;omega
   show du _ _ _ _ _ _;refine cu ⟨_,rfl,_,_,rfl,rfl,cdp,_,_,rfl,rfl,pos,_,_,rfl,rfl,_,rfl,ap (λhz=>?_) (λhz=>?_)⟩
   ·refine cg ⟨_,rfl,ph,_,_,_,rfl,rfl,SqT.of e5h,rfl,by show 2<=sizeLine;omega,λp3 h3=>?_⟩;have q3:=Same.upd_new (o:=.tup [.int (h:Int),.int 1]) h3;exact rest _ _ ⟨p2,pk,pl,p3,T3,l,1+m,h,none,rfl,s05.trans q3,hk0,hp2,n2,q3 _ _ ek5,by rw[mN,Ff];exact q3 _ _ em5,q3 _ _ e5l,af,l8,m8,FG _ _,h8,λx hx=>(nomatch hx)⟩
   ·refine cg ⟨_,rfl,_,rfl,ph,_,_,_,rfl,rfl,SqT.of e5h,rfl,_,rfl,lb3,by show 2<=sizeLine;omega,λp3 h3=>⟨p2,p3,_,_,rfl,rfl,(Same.upd_new h3) _ _ em5,af,by rw[EN,ER,ER];show 12+(mC C).length+7+2<=sizeLine;omega,λp4 h4=>?_⟩⟩;rw[zD (N:=1+n) rfl]at h4 ⊢;have q3:=Same.upd_new (o:=.lst ((mN (some (1+n))).map vS)) h3;have q4:=q3.then_new (o:=.lst ((mA A0 K0 B0++mC C++[[44],[45],aj l,[47],aj (1+m),[46,46],aj h]).map vS++(mN (some (1+n))).map vS)) h4;have n4:p4≠pk:=λz=>by rw[z,q3 _ _ ek5]at h4;cases h4
    exact rest _ _ ⟨p4,pk,pl,ph,T3,l,1+m,h,some (1+n),rfl,s05.trans q4,hk0,cF (s05.trans q3) h4,n4,q4 _ _ ek5,by rw[af,EV (l₁:=mA A0 K0 B0++mC C++[[44],[45],aj l,[47],aj (1+m),[46,46],aj h])],q4 _ _ e5l,q4 _ _ e5h,l8,m8,FG _ _,h8,λx hx=>by cases hx;exact⟨FG _ _,n8⟩⟩
  clear s05 em5 ek5 e5l e5h n2 hp2 el em eh en lb1 lb2 lb3 hk0;rintro σ' H6 ⟨pm,pk,pl,ph,T3,l,m,h,N,rfl,s6,hk0,hm0,nmk,ek6,em6,e6l,e6h,bl,bm,b1,bh,bN⟩;refine eM (λσ' H'=>∃(q:List Int),σ'=[some (.int c),some (.int T3),some (.int (K0:Int)),some (.ref pm),some (.ref pk),some (.ref pl),some (.ref ph)]/\Same H H'/\H' pk=some (.lst (q.map V.int))/\Tr q/\(∀n,cf q n=cf L n)/\H' pm=some (.lst ((mA A0 K0 B0++mC C++[[44],[45],aj l,[47],aj m,[46,46],aj h]++mN N).map vS))/\H' pl=some (.tup [.int (-(l:Int)),.int (m:Int)])/\H' ph=some (.tup [.int (h:Int),.int ((N.getD 1:Nat):Int)])) ?_ (λrest=>?_)
  rotate_left
  ·refine⟨λk σ' H'=>∃(q:List Int),σ'=[some (.int c),some (.int T3),some (.int (K0:Int)),some (.ref pm),some (.ref pk),some (.ref pl),some (.ref ph)]/\Same H H'/\H' pk=some (.lst (q.map V.int))/\(∀n,cf q n=cf L n)/\H' pm=some (.lst ((mA A0 K0 B0++mC C++[[44],[45],aj l,[47],aj m,[46,46],aj h]++mN N).map vS))/\H' pl=some (.tup [.int (-(l:Int)),.int (m:Int)])/\H' ph=some (.tup [.int (h:Int),.int ((N.getD 1:Nat):Int)])/\k=q.length,⟨_,L,rfl,s6,ek6,λ_=>rfl,em6,e6l,e6h,rfl⟩,?_⟩;clear s6 ek6 em6 e6l e6h;rintro k σ' H7 ⟨q,rfl,s7,ek7,hq,em7,e7l,e7h,rfl⟩;have npl:pl≠pk:=λz=>by rw[z,ek7]at e7l;cases e7l
   have nph:ph≠pk:=λz=>by rw[z,ek7]at e7h;cases e7h
   refine eN ⟨_,rfl,pk,_,rfl,.inl (SqL.of ek7),_,_,rfl,rfl,_,rfl,ap (λhne=>?_) (λhne=>?_)⟩
   ·have hne':q≠[]:=λz=>by rw[z]at hne;exact absurd hne (by decide)
    obtain⟨r,x,rfl⟩:=(qU q).resolve_left hne';refine⟨_,rfl,_,rfl,pk,_,_,_,rfl,rfl,SqL.of ek7,(by rw[EV];exact Dc _ _),_,_,rfl,rfl,_,rfl,ap (λh0=>?_) (λh0=>?_)⟩
    ·have h0':x=0:=h0;subst h0';refine⟨λσ'' H''=>∃k',k'<(r++[0]).length/\∃(q:List Int),σ''=[some (.int c),some (.int T3),some (.int (K0:Int)),some (.ref pm),some (.ref pk),some (.ref pl),some (.ref ph)]/\Same H H''/\H'' pk=some (.lst (q.map V.int))/\(∀n,cf q n=cf L n)/\H'' pm=some (.lst ((mA A0 K0 B0++mC C++[[44],[45],aj l,[47],aj m,[46,46],aj h]++mN N).map vS))/\H'' pl=some (.tup [.int (-(l:Int)),.int (m:Int)])/\H'' ph=some (.tup [.int (h:Int),.int ((N.getD 1:Nat):Int)])/\k'=q.length,λ_ _ h=>h,?_⟩;have ll:(r++[(0:Int)]).length=r.length+1:=by rw[ER];rfl
     refine⟨_,rfl,.inl ⟨rfl,_,SqL.of ek7⟩,pk,_,.int 0,rfl,rfl,ek7,?_,?_⟩
     ·rw[EN,ll,EV];show((r.map V.int)++[V.int 0])[r.length]?=_;rw[List.getElem?_append_right (by rw[EN];exact EO _),EN];simp
     ·refine⟨r.length,by rw[ll];exact FA _,r,rfl,dX s7 hk0,?_,λn=>?_,by rw[upd_ne nmk];exact em7,by rw[upd_ne npl];exact e7l,by rw[upd_ne nph];exact e7h,rfl⟩
      ·rw[af,EV];show some (HO.lst ((r.map V.int++[V.int 0]).dropLast))=_;rw[List.dropLast_concat]
      ·rw[<- hq n];unfold cf;rw[List.getD,List.getD];rcases Nat.lt_or_ge n r.length with hn |hn
       ·rw[List.getElem?_append_left hn]
       ·rw[List.getElem?_eq_none_iff.mpr hn,List.getElem?_append_right hn];cases e:n-r.length with
        |zero=>rfl
        |succ z=>rfl
    ·have h0':¬x=0:=h0;dsimp only
     exact rest _ _ ⟨r++[x],rfl,s7,ek7,tr_snoc.mpr h0',hq,em7,e7l,e7h⟩
   ·have he2:q=[]:=by
     cases q with
     |nil=>rfl
     |cons a b=>exact absurd (show(((a::b).map V.int).length:Int)>0 by simp) hne
    subst he2;dsimp only
    exact rest _ _ ⟨[],rfl,s7,ek7,λn hn=>by simp at hn,hq,em7,e7l,e7h⟩
  clear s6 ek6 em6 e6l e6h;rintro σ' H7 ⟨q,rfl,s7,ek7,tq,hq,em7,e7l,e7h⟩;refine aM ⟨_,rfl,_,rfl,_,rfl,by show 4<=sizeLine;omega,λp1 h1=>?_⟩;have q1:=Same.upd_new (o:=.tup [.str (Str.ofString "given"),.ref pk,.ref pl,.ref ph]) h1;have lC6:(mC C).length<=6:=by cases C<;>simp[mC]
  have lN2:(mN N).length<=2:=by cases N<;>simp[mN]
  refine⟨_,rfl,by show 1<=sizeLine;omega,λp2 h2=>?_⟩;have q2:=q1.then_new (o:=.lst [V.str (Str.ofString ")")]) h2;refine⟨pm,p2,_,_,rfl,rfl,q2 _ _ em7,af,by rw[EN,ER,ER,ER];show 12+(mC C).length+7+(mN N).length+1<=sizeLine;omega,λp3 h3=>?_⟩;have q3:=q2.then_new (o:=.lst ((mA A0 K0 B0++mC C++[[44],[45],aj l,[47],aj m,[46,46],aj h]++mN N).map vS++[V.str (Str.ofString ")")])) h3;refine⟨by show 4<=sizeLine;omega,λp4 h4=>?_⟩;have q4:=q3.then_new (o:=.tup [.ref p1,.ref p3,.int 1,.int 4]) h4
  have hms:bP::gM A0 K0 B0 C l m h N=mA A0 K0 B0++mC C++[[44],[45],aj l,[47],aj m,[46,46],aj h]++mN N++[[41]]:=by unfold gM mA;simp only[E5,E7,Fs]
  have kA:A0<100:=by clear eA eB eK;omega
  have kB:B0<100:=by clear eA eB eK;omega
  have kK:K0<=8:=by clear eA eB eK;omega
  obtain⟨w1,w2⟩:=A1 (A:=A0) (K:=K0) (B:=B0) (L:=l) (M:=m) (H:=h) (C:=C) (N:=N) kA kK kB hC bl bm bh bN;have w3:=qL w1;have w4:szs (bP::gM A0 K0 B0 C l m h N)=6+szs (gM A0 K0 B0 C l m h N):=rfl;refine kk p4 (.given q (-(l:Int),(m:Int)) ((h:Int),((N.getD 1:Nat):Int))) (bP::gM A0 K0 B0 C l m h N) 1 4 _ (AR kA kK kB hC bl bm b1 bh bN tq λn=>by rw[hq];exact hcf n) (by rw[w4];omega) (by decide) (by rw[E1];omega) (s7.trans q4) ⟨p1,p3,af,⟨pk,pl,ph,?_,dW hav hk0,q4 _ _ ek7,q4 _ _ e7l,q4 _ _ e7h⟩,dW hav (cF (s7.trans q2) h3),?_⟩
  ·exact(((Same.upd_new h2).then_new h3).then_new h4) _ _ af
  ·rw[upd_ne (iz h4),af,oG,hms,EV (l₁:=_++mN N)];rfl
theorem yd{f:Addr}{fd:FuncData}(F:Fun K "_law_atom" "_law_atom" gR f fd)(T:Txt K mg){BN:Addr}{Bm:FuncData}(D9:Cal P w K mg base 1 "_law_word" ["_law_cell_here"] mF BN Bm){BP:Addr}{Bp:FuncData}(Eb:Cal P w K mg base 1 "_law_given" ["_law_cell_here"] gj BP Bp):FnOk P w K mg base CX0 2 f fd ["_law_cell_here"] gj:=by
 obtain⟨DD,zk,Al,CF⟩:=D9;obtain⟨DG,zn,Ao,CJ⟩:=Eb;refine F.ok sc__law_atom (λvs H Q E h=>?_) (λcdv A outer s H vs Q E hr h=>?_)
 ·obtain⟨av,c,rfl,_⟩:=h;rfl
 ·obtain⟨av,c,rfl,hav,kk⟩:=h;have big:=sizeLine_eq
  refine⟨_,(ae (aF (aI bS (ag aH (pv 0) ac) ac (aA _))
   (ae (am (i:=1) sc__law_atom.nd rfl (Or.inl rfl) (ag aH (ag bq (pv 0) ac) (ao (bT (K:=K) rfl) (bf (aa ac (aa (ag xn ac ac) ad))) (ag aH (ag bq (pv 0) ac) ac) (λ_ _=>rfl))))
     (ai (ar (bj (aa (bj (aa al (aa (pv 1) ad))) (aa (bf (aa (cv dF (by rfl) T.str_ PyProof.Rows.boot_str (aa (pv 1) ad)) ad)) (aa ac (aa ac ad))))))))
   aJ)
   (ae (aF (aI bS (ag aH (pv 0) ac) ac (aA _))
     (ae (am (i:=2) sc__law_atom.nd rfl (Or.inl rfl) (aq DD (hr.mono) rfl zk Al CF .nil ak (aa (ag bq (pv 0) ac) ad)))
       (ai (ar (bj (aa (bj (aa al (aa (pv 2) ad))) (aa (bf (aa (pv 2) ad)) (aa ac (aa ac ad))))))))
     aJ)
   (ai (ar (aq DG (hr.mono) rfl zn Ao CJ .nil ak (aa (ag bq (pv 0) ac) ad)))))),?_⟩
  refine ax ⟨_,rfl,_,_,rfl,rfl,pos,_,_,rfl,rfl,_,rfl,ap (λh=>?_) (λh=>?_)⟩
  ·obtain⟨n2,e2,l2⟩:=bw (c/3) 2 (by decide)
   obtain⟨D,aD,dD,hD⟩:∃D:Int,atI [V.int 10,V.int (10^(30:Int).toNat)] (c/3%2)=some (.int D)/\0<D/\D<=10^30:=by
    rw[e2];rcases Nat.lt_or_ge n2 1 with h |h
    ·have:n2=0:=by omega
     subst this;exact⟨10,rfl,by decide,by decide⟩
    ·have:n2=1:=by omega
     subst this;exact⟨10^(30:Int).toNat,rfl,by decide,by decide⟩
   obtain⟨v,ev,lv⟩:=bw (c/6) D dD
   have hv:v<10^30:=by have:(v:Int)<10^30:=Int.lt_of_lt_of_le lv hD;omega
   have hl:=nM 29 v hv;refine ay ⟨_,rfl,_,_,rfl,rfl,cdp,_,_,rfl,rfl,⟨by decide,by decide,by decide⟩,by show 2<=sizeLine;omega,λp0 h0=>⟨_,rfl,_,_,rfl,rfl,cdp,_,_,rfl,rfl,pos,p0,_,_,_,rfl,rfl,SqL.of af,aD,_,_,rfl,rfl,dD,?_⟩⟩;have s0:=Same.upd_new (o:=.lst [V.int 10,V.int (10^(30:Int).toNat)]) h0;refine aM ⟨_,rfl,by show 2<=sizeLine;omega,λp1 h1=>⟨_,rfl,_,rfl,?_,by show 1<=sizeLine;omega,λp2 h2=>⟨by show 4<=sizeLine;omega,λp3 h3=>?_⟩⟩⟩
   ·show(c/6%D).natAbs.log2<1920;rw[ev];exact fD (ET hv (ES (by decide:(10:Nat)^30<=2^100) (Fv (by decide) (by decide))))
   have s1:=s0.then_new (o:=.tup [V.str (Str.ofString "whole"),.int (c/6%D)]) h1;have s2:=s1.then_new (o:=.lst [V.str (Str.ofString (toString (c/6%D)))]) h2;have s3:=s2.then_new (o:=.tup [.ref p1,.ref p2,.int 0,.int 4]) h3;refine kk p3 (.whole v) [aj v] 0 4 _ (.whole v (by omega)) (by show(aj v).length+2+0<=196;omega) (by decide) (by simp) s3 ⟨p1,p2,af,?_,dW hav (cF s1 h2),?_⟩
   ·show _=some (HO.tup [_,V.int (v:Int)]);rw[<- ev];exact((Same.upd_new h2).then_new h3) _ _ af
   ·rw[upd_ne (iz h3),af,dI ev];rfl
  refine ax ⟨_,rfl,_,_,rfl,rfl,pos,_,_,rfl,rfl,_,rfl,ap (λh=>?_) (λh=>?_)⟩
  ·refine ay ⟨_,rfl,_,_,rfl,rfl,cdp,_,rfl,λm H1 hm s1=>?_⟩;refine aM ⟨_,rfl,by show 2<=sizeLine;omega,λp1 h1=>⟨_,rfl,by show 1<=sizeLine;omega,λp2 h2=>⟨by show 4<=sizeLine;omega,λp3 h3=>?_⟩⟩⟩;have s2:=Same.upd_new (o:=.tup [V.str (Str.ofString "named"),vS m]) h1;have s3:=s2.then_new (o:=.lst [vS m]) h2;have s4:=s3.then_new (o:=.tup [.ref p1,.ref p2,.int 0,.int 4]) h3
   have hl:m.length<=8:=by
    unfold cI at hm
    simp only[EZ,decide_eq_true_eq]at hm;exact hm.1.2
   refine kk p3 (.named m) [m] 0 4 _ (.named m hm) (by show m.length+2+0<=196;omega) (by decide) (by simp) (s1.trans s4) ⟨p1,p2,af,?_,dW hav (cF (s1.trans s2) h2),?_⟩
   ·exact((Same.upd_new h2).then_new h3) _ _ af
   ·rw[upd_ne (iz h3),af];rfl
  ·exact aM ⟨_,rfl,_,_,rfl,rfl,cdp,av,_,rfl,hav,kk⟩
def RowH(av:Addr)(H:Hp)(qs:List Addr):Prop:=∀q∈qs,∃(t:PT) (ms:List (List Nat)) (d rk:Nat),ItH av H t ms d rk q/\Gr rk d ms t/\szs ms<=196/\d<=10
theorem RowH.kp{av:Addr}{H H':Hp}{qs:List Addr}(h:RowH av H qs)(s:Keep av H H'):RowH av H' qs:=λq hq=>let⟨t,ms,d,rk,a,b⟩:=h q hq;⟨t,ms,d,rk,a.kp s,b⟩
theorem RowH.mv{av av2:Addr}{H:Hp}{qs:List Addr}(h:RowH av H qs)(n:H av2=none):RowH av2 H qs:=λq hq=>let⟨t,ms,d,rk,a,b⟩:=h q hq;⟨t,ms,d,rk,a.mv n,b⟩
theorem fK{ms:List (List Nat)}(h:szs ms<=196):ms.length<=98:=by have:=qO ms;omega
theorem kz{l:List Addr}{j:Nat}{i:Int}{p:Addr}(e:i = -(j:Int))(h0:0<j)(hj:j<=l.length)(h:l[l.length-j]?=some p):atI (l.map V.ref) i=some (.ref p):=by subst e;unfold atI ixN;rw[if_neg (by omega),EN,if_pos (by omega)];show(l.map V.ref)[(-(j:Int)+(l.length:Int)).toNat]?=_;rw[show(-(j:Int)+(l.length:Int)).toNat=l.length-j by omega,List.getElem?_map,h];rfl
def mX:Sp:=λvs H Q _=>∃(a:Addr) (ns:List Int),vs=[.ref a]/\H a=some (.lst (ns.map V.int))/\ns.length<=100/\∀(av q:Addr) (t:PT) (ms:List (List Nat)) (d rk:Nat) (H':Hp),Same H H'->ItH av H' t ms d rk q->Gr rk d ms t->szs ms<=196->d<=10->Q (.ref q) H'
def DrI(a:Addr)(H:Hp)(n:Nat)(σ':St)(H':Hp):Prop:=∃(pr:Addr) (qs:List Addr) (z2 z3:Option V),σ'=[some (.ref a),some (.ref pr),z2,z3,none,none]/\Same H H'/\H pr=none/\H' pr=some (.lst (qs.map V.ref))/\qs≠[]/\qs.length<=n+1/\RowH pr H' qs
theorem Cc(xs:List V)(h:2<=xs.length):cJ xs none (some (-2))=xs.take (xs.length-2):=by
 unfold cJ;rw[HT.sIx_none,List.drop_zero,Nat.sub_zero]
 congr 1
 show(if(-2:Int)<0 then((-2:Int)+(xs.length:Int)).toNat else min (-2:Int).toNat xs.length)=_;rw[if_pos (by decide)];omega
theorem ld{l:List Addr}{j:Nat}(h0:0<j)(h:j<=l.length):∃p,l[l.length-j]?=some p/\p∈l:=by
 have hlt:l.length-j<l.length:=by omega
 exact⟨l[l.length-j],List.getElem?_eq_getElem hlt,List.getElem_mem hlt⟩
theorem ya{f:Addr}{fd:FuncData}(F:Fun K "_law_drawn" "_law_drawn" gO f fd)(T:Txt K mg){BT:Addr}{Bt:FuncData}(Ef:Cal P w K mg base 2 "_law_both" ["_law_one","_law_other","_law_cell_here"] mY BT Bt){BQ:Addr}{Bq:FuncData}(Ec:Cal P w K mg base 1 "_law_fits" ["_law_one"] mU BQ Bq){BV:Addr}{Bv:FuncData}(Eh:Cal P w K mg base 2 "_law_alone" ["_law_one","_law_cell_here"] mZ BV Bv){BU:Addr}{Bu:FuncData}(Eg:Cal P w K mg base 2 "_law_atom" ["_law_cell_here"] gj BU Bu):FnOk P w K mg base CX0 3 f fd ["_law_deeds"] mX:=by
 obtain⟨uS,sG,tp,uF⟩:=Ef;obtain⟨pZ,ol,oU,pK⟩:=Ec;obtain⟨DK,zr,As,CO⟩:=Eh;obtain⟨DJ,zq,Ar,CM⟩:=Eg;refine F.ok sc__law_drawn (λvs H Q E h=>?_) (λcdv A outer s H vs Q E hr h=>?_)
 ·obtain⟨a,ns,rfl,_⟩:=h;rfl
 ·obtain⟨a,ns,rfl,hA,hn,kk⟩:=h;have big:=sizeLine_eq
  refine⟨_,(ae (am (i:=1) sc__law_drawn.nd rfl (Or.inl rfl) (bf (aa (bj (aa (bj (aa al (aa ac ad))) (aa (bf (aa al ad)) (aa ac (aa ac ad))))) ad)))
   (ae (iq PassesOwn.never rfl (lp (K:=K) rfl (pv 0)) (dS (i:=2) sc__law_drawn.nd rfl (Or.inl rfl))
     (ae (am (i:=3) sc__law_drawn.nd rfl (Or.inl rfl) xi)
       (ai (aF (PW.pt (ja (aI ix (ag aH (pv 2) ac) ac (aA _)) (i0 (aI ix (aO (cW (K:=K) rfl) (by rfl) T.len_ PySem.boot_len (aa (pv 1) ad)) ac (aA _)))))
         (ae (am (i:=3) sc__law_drawn.nd rfl (Or.inl rfl) (aq uS (hr.mono) rfl sG tp uF .nil ak (aa (ao (bT (K:=K) rfl) (pv 1) (cD cz ac) (λ_ _=>rfl)) (aa (ao (bT (K:=K) rfl) (pv 1) (cD cz ac) (λ_ _=>rfl)) (aa (ag bq (pv 2) ac) ad)))))
           (ai (aF (bu (aq pZ (hr.mono) rfl ol oU pK .nil ak (aa (pv 3) ad)))
             (ai (am (i:=1) sc__law_drawn.nd rfl (Or.inl rfl) (ag cw (je (m6 (K:=K) rfl) (pv 1) rA (eQ (cD cz ac))) (bf (aa (pv 3) ad)))))
             aJ)))
         (ai (aF (PW.pt (ja (aI ix (ag aH (pv 2) ac) ac (aA _)) (i0 (aI eU (ag aH (pv 2) ac) ac (aA _)))))
           (ae (am (i:=3) sc__law_drawn.nd rfl (Or.inl rfl) (aq DK (hr.mono) rfl zr As CO .nil ak (aa (ao (bT (K:=K) rfl) (pv 1) (cD cz ac) (λ_ _=>rfl)) (aa (ag bq (pv 2) ac) ad))))
             (ai (aF (bu (aq pZ (hr.mono) rfl ol oU pK .nil ak (aa (pv 3) ad)))
               (ai (jc (pv 3) (jd (pv 1) (cD cz ac) iW)))
               aJ)))
           (ai (cR (rC PySem.F.plainAttrs_list PySem.F.slot_list_append PySem.F.type_list_append rS (pv 1) (aa (aq DJ (hr.mono) rfl zq Ar CM .nil ak (aa (ag bq (pv 2) ac) ad)) ad))))))))))
   (ae (am (i:=4) sc__law_drawn.nd rfl (Or.inl rfl) (ao (bT (K:=K) rfl) (pv 1) (cD cz ac) (λ_ _=>rfl)))
   (ae (iq PassesOwn.never rfl (w8 rfl T.range_ (aa ac (aa (aO (cW (K:=K) rfl) (by rfl) T.len_ PySem.boot_len (aa (pv 1) ad)) ad))) (dS (i:=5) sc__law_drawn.nd rfl (Or.inl rfl))
     (ae (am (i:=3) sc__law_drawn.nd rfl (Or.inl rfl) (aq uS (hr.mono) rfl sG tp uF .nil ak (aa (ao (bT (K:=K) rfl) (pv 1) (ag iw (cD cz ac) (pv 5)) (λ_ _=>rfl)) (aa (pv 4) (aa (ag bG (ag dA (pv 5) ac) (aO (cW (K:=K) rfl) (by rfl) T.len_ PySem.boot_len (aa (ao (aC (K:=K) rfl) (pv 4) ac (λ_ _=>rfl)) ad))) ad)))))
       (ai (aF (bu (aq pZ (hr.mono) rfl ol oU pK .nil ak (aa (pv 3) ad)))
         (ai (am (i:=4) sc__law_drawn.nd rfl (Or.inl rfl) (pv 3)))
         aJ))))
   (ai (ar (pv 4))))))),?_⟩
  refine ay ⟨by show 2<=sizeLine;omega,λp1 h1=>⟨by show 1<=sizeLine;omega,λp2 h2=>⟨by show 4<=sizeLine;omega,λp3 h3=>⟨by show 1<=sizeLine;omega,λpr h4=>?_⟩⟩⟩⟩;have s1:=Same.upd_new (o:=.tup [V.str (Str.ofString "whole"),.int 5]) h1;have s2:=s1.then_new (o:=.lst [V.str (Str.ofString "5")]) h2;have s3:=s2.then_new (o:=.tup [.ref p1,.ref p2,.int 0,.int 4]) h3;have s4:=s3.then_new (o:=.lst [V.ref p3]) h4;have hpr:H pr=none:=cF s3 h4
  have R0:RowH pr (upd (upd (upd (upd H p1 (.tup [V.str (Str.ofString "whole"),.int 5])) p2 (.lst [V.str (Str.ofString "5")])) p3 (.tup [.ref p1,.ref p2,.int 0,.int 4])) pr (.lst [V.ref p3])) [p3]:=by
   intro q hq;rw[E4.mp hq]
   refine⟨.whole 5,[aj 5],0,4,⟨p1,p2,(Same.upd_new h4) _ _ af,(((Same.upd_new h2).then_new h3).then_new h4) _ _ af,(λz=>by
    have:=((Same.upd_new (o:=.tup [.ref p1,.ref p2,.int 0,.int 4]) h3)) p2 _ af;have h4':=h4
    rw[<- z,this]at h4';cases h4'),?_⟩,.whole 5 (by decide +kernel),by decide +kernel,by decide⟩
   rw[show[aj 5].map vS=[V.str (Str.ofString "5")] by rw[show Str.ofString "5"=stL (aj 5) by decide +kernel];rfl];exact((Same.upd_new h3).then_new h4) _ _ af
  refine eM (DrI a H ns.length) ?_ (λrest=>?_)
  rotate_left
  ·refine⟨_,rfl,a,rfl,⟨_,SqL.of (s4 _ _ hA)⟩,oV (K:=K) (a:=a) (xs:=ns.map V.int) (λi σ' H'=>DrI a H i σ' H') ⟨pr,[p3],none,none,rfl,s4,hpr,af,by simp,by simp,R0⟩ ?_ ?_ ?_⟩
   ·rintro i σ' H' _ ⟨pr,qs,z2,z3,rfl,sm,_⟩;exact SqL.of (sm _ _ hA)
   ·clear R0 s1 s2 s3 s4 hpr;rintro i x σ' H5 hi ⟨pr,qs,z2,z3,rfl,s5,hpr,er,hne,hl,hR⟩;obtain⟨c,_,rfl,_,_⟩:=tR hi
    have hi':i<100:=by have:=(List.getElem?_eq_some_iff.mp hi).1;rw[EN]at this;omega
    have nav:H5 pr≠none:=by rw[er];exactλz=>by cases z
    dsimp only
    refine ay ?_;have more:∀(z2 z3:Option V) (H':Hp),Same H5 H'->DrI a H (i+1) [some (.ref a),some (.ref pr),z2,z3,none,none] H':=λz2 z3 H' sm=>⟨pr,qs,z2,z3,rfl,s5.trans sm,hpr,sm _ _ er,hne,by omega,hR.kp (aR sm)⟩
    have hq1:1<=qs.length:=by
     cases qs with
     |nil=>exact absurd rfl hne
     |cons x y=>simp
    obtain⟨g1,eg1,mg1⟩:=ld (l:=qs) (j:=1) (by decide) hq1;obtain⟨t1,ms1,d1,rk1,i1,gr1,f1,b1⟩:=hR g1 mg1;show du _ _ _ _ _ _;by_cases hb:c%8>4
    ·by_cases h2:(2:Int)<qs.length
     ·refine cu (eN ⟨_,rfl,_,_,rfl,rfl,pos,_,_,rfl,rfl,_,rfl,ap (λ_=>?_) (λz=>absurd hb z)⟩);refine⟨_,rfl,pr,_,rfl,.inl (SqL.of er),_,_,rfl,rfl,_,rfl,ap (λ_=>?_) (λz=>absurd (by rw[EN];exact h2) z)⟩;obtain⟨g2,eg2,mg2⟩:=ld (l:=qs) (j:=2) (by decide) (by omega);obtain⟨t2,ms2,d2,rk2,i2,gr2,f2,b2⟩:=hR g2 mg2;refine ay ⟨_,rfl,_,rfl,pr,_,_,_,rfl,rfl,SqL.of er,kz (j:=2) rfl (by decide) (by omega) eg2,_,rfl,_,rfl,pr,_,_,_,rfl,rfl,SqL.of er,kz (j:=1) rfl (by decide) hq1 eg1,_,rfl,_,_,rfl,rfl,cdp,pr,g2,g1,t2,t1,ms2,ms1,d2,rk2,d1,rk1,_,rfl,i2,i1,nav,gr2,gr1,ES (fK f2) (by decide),ES (fK f1) (by decide),λp t' ms' d' rk' H6 g' l' s6 it=>?_⟩;show du _ _ _ _ _ _;refine cu ⟨_,rfl,pr,p,t',ms',d',rk',rfl,it,g',by omega,λH7 s7=>⟨_,rfl,?_⟩⟩;by_cases hf:szs ms'<=196/\d'<=10
      ·rw[decide_eq_true hf.1,decide_eq_true hf.2];refine aB ?_;have s67:=s6.trans s7;have er7:=s67 _ _ er;refine cg ⟨_,rfl,_,rfl,_,rfl,pr,_,rfl,SqL.of er7,λp5 h5=>⟨_,rfl,by show 1<=sizeLine;omega,λp6 h6=>?_⟩⟩;have u5:=Same.upd_new (o:=.lst (cJ (qs.map V.ref) none (some (-2)))) h5;have u6:=u5.then_new (o:=.lst [V.ref p]) h6
       have ec:cJ (qs.map V.ref) none (some (-2))=(qs.take (qs.length-2)).map V.ref:=by rw[Cc _ (by rw[EN];omega),EN,List.map_take]
       refine⟨p5,p6,_,_,rfl,rfl,(Same.upd_new h6) _ _ af,af,by rw[ec,EN,Fq];show _+1<=sizeLine;omega,λp7 h7=>?_⟩;have u7:=u6.then_new (o:=.lst (cJ (qs.map V.ref) none (some (-2))++[V.ref p])) h7;have n7:H7 p7=none:=cF u6 h7;have tot:=(s5.trans s67).trans u7;refine⟨p7,qs.take (qs.length-2)++[p],_,_,rfl,tot,cF (s5.trans s67) n7,by rw[af,ec,EV];rfl,by simp,by rw[ER,Fq];show _+1<=_;omega,λq hq=>?_⟩;rcases EW.mp hq with z |z
       ·exact(((hR.kp (aR s67)).mv n7).kp (aR u7)) q (List.mem_of_mem_take z)
       ·rw[E4.mp z];exact⟨t',ms',d',rk',((it.kp (aR s7)).mv n7).kp (aR u7),g',hf.1,hf.2⟩
      ·rw[show(decide (szs ms'<=196)&&decide (d'<=10))=false by
        cases e1:decide (szs ms'<=196)with
        |false=>rfl
        |true=>rw[decide_eq_false (λz=>hf ⟨of_decide_eq_true e1,z⟩)];rfl]
       refine aE (nl ?_);exact more _ _ _ (s6.trans s7)
     ·refine cu (eN ⟨_,rfl,_,_,rfl,rfl,pos,_,_,rfl,rfl,_,rfl,ap (λ_=>?_) (λz=>absurd hb z)⟩);refine⟨_,rfl,pr,_,rfl,.inl (SqL.of er),_,_,rfl,rfl,_,rfl,ap (λz=>absurd (by rw[EN]at z;exact z) h2) (λ_=>?_)⟩;refine cu (eN ⟨_,rfl,_,_,rfl,rfl,pos,_,_,rfl,rfl,_,rfl,ap (λ_=>?_) (λz=>absurd (show c%8>2 by omega) z)⟩);refine⟨_,rfl,_,_,rfl,rfl,pos,_,_,rfl,rfl,_,rfl,ap (λz=>absurd (show c%8<5 from z) (by omega)) (λ_=>?_)⟩
      ·refine nr (rl ⟨_,rfl,.inl ⟨rfl,_,SqL.of er⟩,_,rfl,_,_,rfl,rfl,cdp,pr,_,rfl,nav,λp t ms d rk H6 g f b l s6 it=>⟨pr,_,_,rfl,rfl,s6 _ _ er,by rw[EN];omega,?_⟩⟩);refine⟨pr,qs++[p],_,_,rfl,dX (s5.trans s6) hpr,hpr,by rw[af,EV];rfl,by simp,by rw[ER];show qs.length+1<=_;omega,λq hq=>?_⟩;have kp:=oN (o:=.lst (qs.map V.ref++[V.ref p])) (s6 _ _ er);rcases EW.mp hq with z |z
       ·exact(hR.kp ((aR s6).trans kp)) q z
       ·rw[E4.mp z];exact⟨t,ms,d,rk,it.kp kp,g,f,b⟩
    ·refine cu (eN ⟨_,rfl,_,_,rfl,rfl,pos,_,_,rfl,rfl,_,rfl,ap (λz=>absurd z hb) (λ_=>aE ?_)⟩);by_cases h3:c%8>2
     ·refine cu (eN ⟨_,rfl,_,_,rfl,rfl,pos,_,_,rfl,rfl,_,rfl,ap (λ_=>?_) (λz=>absurd h3 z)⟩);refine⟨_,rfl,_,_,rfl,rfl,pos,_,_,rfl,rfl,_,rfl,ap (λ_=>?_) (λz=>absurd (show c%8<5 by omega) z)⟩;refine ay ⟨_,rfl,_,rfl,pr,_,_,_,rfl,rfl,SqL.of er,kz (j:=1) rfl (by decide) hq1 eg1,_,rfl,_,_,rfl,rfl,cdp,pr,g1,t1,ms1,d1,rk1,_,rfl,i1,nav,gr1,ES (fK f1) (by decide),λp t' ms' d' rk' H6 g' l' s6 it=>?_⟩;show du _ _ _ _ _ _;refine cu ⟨_,rfl,pr,p,t',ms',d',rk',rfl,it,g',by have:=fK f1;omega,λH7 s7=>⟨_,rfl,?_⟩⟩;by_cases hf:szs ms'<=196/\d'<=10
      ·rw[decide_eq_true hf.1,decide_eq_true hf.2];refine aB ?_;have s67:=s6.trans s7;have er7:=s67 _ _ er;refine⟨_,rfl,_,rfl,_,rfl,pr,_,_,qs.length-1,rfl,rfl,er7,?_,?_⟩
       ·rw[EN];unfold ixN;rw[if_neg (by decide),if_pos (by omega)]
        congr 1;omega
       ·have kp:=oN (o:=.lst ((qs.map V.ref).set (qs.length-1) (V.ref p))) er7;refine⟨pr,qs.set (qs.length-1) p,_,_,rfl,dX (s5.trans s67) hpr,hpr,by rw[af,List.map_set],λz=>by have:=congrArg List.length z;rw[Fu]at this;exact hne (FF.mp this),by rw[Fu];omega,λq hq=>?_⟩;rcases List.mem_or_eq_of_mem_set hq with z |z
        ·exact((hR.kp (aR s67)).kp kp) q z
        ·rw[z];exact⟨t',ms',d',rk',(it.kp (aR s7)).kp kp,g',hf.1,hf.2⟩
      ·rw[show(decide (szs ms'<=196)&&decide (d'<=10))=false by
        cases e1:decide (szs ms'<=196)with
        |false=>rfl
        |true=>rw[decide_eq_false (λz=>hf ⟨of_decide_eq_true e1,z⟩)];rfl]
       refine aE (nl ?_);exact more _ _ _ (s6.trans s7)
     ·refine cu (eN ⟨_,rfl,_,_,rfl,rfl,pos,_,_,rfl,rfl,_,rfl,ap (λz=>absurd z h3) (λ_=>aE ?_)⟩)
      ·refine nr (rl ⟨_,rfl,.inl ⟨rfl,_,SqL.of er⟩,_,rfl,_,_,rfl,rfl,cdp,pr,_,rfl,nav,λp t ms d rk H6 g f b l s6 it=>⟨pr,_,_,rfl,rfl,s6 _ _ er,by rw[EN];omega,?_⟩⟩);refine⟨pr,qs++[p],_,_,rfl,dX (s5.trans s6) hpr,hpr,by rw[af,EV];rfl,by simp,by rw[ER];show qs.length+1<=_;omega,λq hq=>?_⟩;have kp:=oN (o:=.lst (qs.map V.ref++[V.ref p])) (s6 _ _ er);rcases EW.mp hq with z |z
       ·exact(hR.kp ((aR s6).trans kp)) q z
       ·rw[E4.mp z];exact⟨t,ms,d,rk,it.kp kp,g,f,b⟩
   ·exactλσ' H' h=>rest _ _ (by rw[EN]at h;exact h)
  clear s1 s2 s3 s4 R0 hpr;rintro σ' H5 ⟨pr,qs,z2,z3,rfl,s5,hpr,er,hne,hl,hR⟩;have nav:H5 pr≠none:=by rw[er];exactλz=>by cases z
  have hq1:1<=qs.length:=by
   cases qs with
   |nil=>exact absurd rfl hne
   |cons x y=>simp
  obtain⟨g1,eg1,mg1⟩:=ld (l:=qs) (j:=1) (by decide) hq1;refine ay ⟨_,rfl,_,rfl,pr,_,_,_,rfl,rfl,SqL.of er,kz (j:=1) rfl (by decide) hq1 eg1,?_⟩;refine⟨_,rfl,pr,_,rfl,.inl (SqL.of er),_,_,rfl,⟨by decide,by decide,by rw[EN];omega,by rw[EN];omega⟩,tU (lo:=1) (λi σ' H'=>∃(z3 z5:Option V) (g:Addr) (t:PT) (ms:List (List Nat)) (d rk:Nat),σ'=[some (.ref a),some (.ref pr),z2,z3,some (.ref g),z5]/\Same H5 H'/\ItH pr H' t ms d rk g/\Gr rk d ms t/\szs ms<=196/\d<=10) ?_ ?_ ?_⟩
  ·obtain⟨t,ms,d,rk,a1,a2,a3,a4⟩:=hR g1 mg1;exact⟨z3,none,g1,t,ms,d,rk,rfl,Same.refl _,a1,a2,a3,a4⟩
  ·rintro i σ' H6 hi ⟨z3,z5,g,t,ms,d,rk,rfl,s6,it,gr,hf,hd⟩;rw[EN]at hi;have hi2:i+2<=qs.length:=by omega
   obtain⟨g2,eg2,mg2⟩:=ld (l:=qs) (j:=i+2) (by omega) hi2;obtain⟨t2,ms2,d2,rk2,i2,gr2,f2,b2⟩:=(hR.kp (aR s6)) g2 mg2;have er6:=s6 _ _ er;obtain⟨pt,pm,eg,hT,hM⟩:=id it;dsimp only
   refine ay ⟨_,rfl,_,rfl,_,rfl,_,_,rfl,rfl,pr,_,_,_,rfl,rfl,SqL.of er6,kz (j:=i+2) (by show(-1:Int)-(1+(i:Int)) = -((i+2:Nat):Int);omega) (by omega) hi2 eg2,_,rfl,_,rfl,_,_,rfl,rfl,⟨Bits.mono (j:=64) (show(1+(i:Int)).natAbs<2^64 by omega) (by decide),b48⟩,_,rfl,g,_,_,_,rfl,rfl,SqT.of eg,rfl,pm,_,rfl,.inl (SqL.of hM.2),_,_,rfl,rfl,pr,g2,g,t2,t,ms2,ms,d2,rk2,d,rk,_,rfl,i2,it,rQ s6 nav,gr2,gr,ES (fK f2) (by decide),ES (fK hf) (by decide),λp t' ms' d' rk' H7 g' l' s7 it'=>?_⟩;show du _ _ _ _ _ _;refine cu ⟨_,rfl,pr,p,t',ms',d',rk',rfl,it',g',by omega,λH8 s8=>⟨_,rfl,?_⟩⟩;by_cases hf':szs ms'<=196/\d'<=10
   ·rw[decide_eq_true hf'.1,decide_eq_true hf'.2];refine aB (cg ⟨_,rfl,?_⟩);exact⟨_,_,p,t',ms',d',rk',rfl,(s6.trans s7).trans s8,it'.kp (aR s8),g',hf'.1,hf'.2⟩
   ·rw[show(decide (szs ms'<=196)&&decide (d'<=10))=false by
     cases e1:decide (szs ms'<=196)with
     |false=>rfl
     |true=>rw[decide_eq_false (λz=>hf' ⟨of_decide_eq_true e1,z⟩)];rfl]
    refine aE (nl ?_);exact⟨_,_,g,t,ms,d,rk,rfl,(s6.trans s7).trans s8,it.kp (aR (s7.trans s8)),gr,hf,hd⟩
  ·rintro σ' H6 ⟨z3,z5,g,t,ms,d,rk,rfl,s6,it,gr,hf,hd⟩;dsimp only
   exact⟨_,rfl,kk pr g t ms d rk H6 (s5.trans s6) it gr hf hd⟩
theorem yb{f:Addr}{fd:FuncData}(F:Fun K "_law_cell" "_law_cell" gP f fd)(T:Txt K mg):FnOk P w K mg base CX0 1 f fd ["_law_script","_law_k"] (gh K):=by
 refine F.ok v3 (λvs H Q E h=>?_) (λcdv A outer s H vs Q E hr h=>?_)
 ·obtain⟨a,ns,k,rfl,_⟩:=h;rfl
 ·obtain⟨a,ns,n,rfl,hS,k⟩:=h
  refine⟨_,(ae (aF (aI eU (pv 1) (aO (cW (K:=K) rfl) (by rfl) T.len_ PySem.boot_len (aa (pv 0) ad)) (aA _))
   (ai (ar (ao (bT (K:=K) rfl) (pv 0) (pv 1) (λ_ _=>rfl))))
   aJ)
   (ai (ar ac))),?_⟩
  refine⟨_,rfl,_,rfl,a,_,rfl,.inl hS,_,_,rfl,rfl,_,rfl,?_⟩;refine ap (λh1=>?_) (λh1=>?_)
  ·rw[EN]at h1;have h2:n<ns.length:=by omega
   refine⟨_,rfl,_,rfl,a,_,_,_,rfl,rfl,hS,iK (v:=.int (ns.getD n 0)) ?_,k⟩;rw[List.getElem?_map,List.getElem?_eq_getElem h2];simp[List.getD,h2]
  ·rw[EN]at h1;have h2:ns.length<=n:=by omega
   have e:ns.getD n 0=0:=by simp[List.getD,List.getElem?_eq_none_iff.mpr h2]
   rw[e]at k;exact k
def fB:Sp:=λvs H Q _=>∃i:Int,vs=[.int i]/\Q (.bl true) H
theorem xW{f:Addr}{fd:FuncData}(F:Fun K "_law_whole" "_law_whole" gI f fd)(T:Txt K mg):FnOk P w K mg base CX0 1 f fd ["_law_found"] fB:=by
 refine F.ok v0 (λvs H Q E h=>?_) (λcdv A outer s H vs Q E hr h=>?_)
 ·obtain⟨i,rfl,_⟩:=h;rfl
 ·obtain⟨i,rfl,k⟩:=h;refine⟨_,(ai (ar (bp (aO (cx (K:=K) rfl) (by rfl) T.isinstance_ PyProof.Rows.boot_isinstance (aa (pv 0) (aa (lr (v:=.ty "int") (by rfl) T.int_ PyProof.Rows.boot_int (by rfl)) ad))) (bB (xh (aO (cx (K:=K) rfl) (by rfl) T.isinstance_ PyProof.Rows.boot_isinstance (aa (pv 0) (aa (lr (v:=.ty "bool") (by rfl) T.bool_ PyProof.Rows.boot_bool (by rfl)) ad)))))))),?_⟩;refine aM (aP (cs ⟨_,rfl,lT (.int i) (k:=true) (by rfl) ⟨_,rfl,aB ?_⟩⟩));refine wy (cs ⟨_,rfl,lT (.int i) (k:=false) (by rfl) ⟨_,rfl,?_⟩⟩);exact k
theorem ka(a:Str)(x:V):(f1 a x).lookup a=some x:=by unfold f1;rw[bg,if_pos rfl]
theorem fi(a b:Str)(x y:V):(f2 a b x y).lookup b=some y:=by unfold f2;rw[bg,if_pos rfl]
theorem iI{a b:Str}(h:¬a=b)(x y:V):(f2 a b x y).lookup a=some x:=by unfold f2;rw[bg,if_neg h,bg,if_pos rfl]
def kY(C:Addr):Sp:=λvs H Q _=>∃(r pd:Addr) (x:Int×Int),vs=[.ref r,.ref pd]/\RA C H r (rt x.1 x.2) (rb x.1 x.2)/\H pd=some (.tup [.int x.1,.int x.2])/\kF x/\Q (.bl true) H
theorem xX{CRatio f:Addr}{fd:FuncData}(F:Fun K "_law_ratio" "_law_ratio" gJ f fd)(T:Txt K mg)(RRatio:RCI K mg CRatio){ee:Addr}{d8:FuncData}(dq:Cal P w K mg base 1 "_law_whole" ["_law_found"] fB ee d8):FnOk P w K mg base CX0 2 f fd ["_law_r","_law_due"] (kY CRatio):=by
 obtain⟨ft,eY,fb,fm⟩:=dq;refine F.ok v1 (λvs H Q E h=>?_) (λcdv A outer s H vs Q E hr h=>?_)
 ·obtain⟨r,pd,x,rfl,_⟩:=h;rfl
 ·obtain⟨p,pd,x,rfl,⟨dx,hp⟩,ed,⟨h0,h1,h2⟩,k⟩:=h
  refine⟨_,(ae (aF (PW.pt (iZ (dy (bu (aO (cx (K:=K) rfl) (by rfl) T.isinstance_ PyProof.Rows.boot_isinstance (aa (pv 0) (aa (bR (v:=.ref CRatio) rfl RRatio.mg rfl) ad))))) (iZ (dy (bu (aq ft (hr.mono) rfl eY fb fm .nil ak (aa (aN (K:=K) rfl (pv 0) rfl) ad)))) (nz (dy (bu (aq ft (hr.mono) rfl eY fb fm .nil ak (aa (aN (K:=K) rfl (pv 0) rfl) ad))))))))
   (ai (ar jf))
   aJ)
   (ai (ar (bp (bH ix (aN (K:=K) rfl (pv 0) rfl) ac (aA _)) (bB (bH bS (ag dA (aN (K:=K) rfl (pv 0) rfl) (ao (aC (K:=K) rfl) (pv 1) ac (λ_ _=>rfl))) (ag dA (ao (aC (K:=K) rfl) (pv 1) ac (λ_ _=>rfl)) (aN (K:=K) rfl (pv 0) rfl)) (aA _))))))),?_⟩
  refine ax (iX (dR (nu (cs ⟨_,rfl,dg (.ins hp RRatio.cl RRatio.ha RRatio.hn RRatio.ht RRatio.hm) (k:=true) (by unfold PySem.W.kitOne;rw[if_pos (by simp)]) ⟨_,rfl,aE ?_⟩⟩))));refine iX (dR ⟨_,rfl,p,CRatio,dx,_,_,rfl,hp,RRatio.cl,RRatio.nT,tW _ _,_,rfl,_,rfl,aE ?_⟩);refine dR ⟨_,rfl,p,CRatio,dx,_,_,rfl,hp,RRatio.cl,RRatio.nB,oW _ _,_,rfl,_,rfl,aE ?_⟩;refine aM (aP ⟨_,rfl,p,CRatio,dx,_,_,rfl,hp,RRatio.cl,RRatio.nB,oW _ _,_,_,rfl,rfl,_,rfl,?_⟩);rw[decide_eq_true (show rb x.1 x.2>0 from wF h0)];have b1:Bits 1000000 (rt x.1 x.2):=Bits.mono (j:=64) (Nat.lt_of_le_of_lt (ww h0) h1) (by decide);have b2:Bits 1000000 (rb x.1 x.2):=Bits.mono (j:=64) (Nat.lt_of_le_of_lt (wG h0) h2) (by decide);refine aB ⟨_,rfl,p,CRatio,dx,_,_,rfl,hp,RRatio.cl,RRatio.nT,tW _ _,_,rfl,pd,_,_,_,rfl,rfl,SqT.of ed,rfl,_,_,rfl,rfl,⟨b1,Bits.mono (j:=64) h2 (by decide)⟩,_,rfl,pd,_,_,_,rfl,rfl,SqT.of ed,rfl,_,rfl,p,CRatio,dx,_,_,rfl,hp,RRatio.cl,RRatio.nB,oW _ _,_,_,rfl,rfl,⟨Bits.mono (j:=64) h1 (by decide),b2⟩,_,_,rfl,rfl,rh ?_ k⟩;have e1:=re (t:=x.1) h0;have e2:=nv (t:=x.1) h0
  calc rt x.1 x.2*x.2=rt x.1 x.2*(dv x.1 x.2*rb x.1 x.2):=by rw[e2]
   _=dv x.1 x.2*rt x.1 x.2*rb x.1 x.2:=by rw[<- Int.mul_assoc,Int.mul_comm (rt x.1 x.2)]
   _=x.1*rb x.1 x.2:=by rw[e1]
noncomputable def Ay:PT->Prop
 |.whole _=>True |.named _=>True |.given _ _ _=>True |_=>False
def mR(tc:TC):Sp:=λvs H Q _=>∃(av av2 q qt:Addr) (t:PT),vs=[.ref q,.ref qt]/\PtH tc av H t q/\LtH av2 H t qt/\t.ok/\Ay t/\Q (.bl true) H
theorem xY{tc:TC}{CRatio CWhole CNamed CGiven f:Addr}{fd:FuncData}(F:Fun K "_law_like_leaf" "_law_like_leaf" eJ f fd)(T:Txt K mg)(RWhole:PCI K mg CWhole "Whole" ["value"])(RNamed:PCI K mg CNamed "Named" ["word"])(RGiven:GCI K mg CGiven)(ew:tc.wh=CWhole)(en:tc.na=CNamed)(eg:tc.gi=CGiven)(ea:tc.ra=CRatio){ee:Addr}{d8:FuncData}(dq:Cal P w K mg base 1 "_law_whole" ["_law_found"] fB ee d8){o9:Addr}{o5:FuncData}(qg:Cal P w K mg base 2 "_law_ratio" ["_law_r","_law_due"] (kY CRatio) o9 o5):FnOk P w K mg base CX0 3 f fd ["_law_found","_law_tree"] (mR tc):=by
 obtain⟨ft,eY,fb,fm⟩:=dq;obtain⟨uR,sF,tj,uE⟩:=qg;refine F.ok sc__law_like_leaf (λvs H Q E h=>?_) (λcdv A outer s H vs Q E hr h=>?_)
 ·obtain⟨av,av2,q,qt,t,rfl,_⟩:=h;rfl
 ·obtain⟨av,av2,q,qt,t,rfl,hP,hL,hok,hlf,k⟩:=h;have hu:=hr.units
  refine⟨_,(ae (aF (aI cq (ao (aC (K:=K) rfl) (pv 1) ac (λ_ _=>rfl)) al (aA _))
   (ai (ar (bp (aO (cx (K:=K) rfl) (by rfl) T.isinstance_ PyProof.Rows.boot_isinstance (aa (pv 0) (aa (bR (v:=.ref CWhole) rfl RWhole.mg rfl) ad))) (bp (aq ft (hr.mono) rfl eY fb fm .nil ak (aa (aN (K:=K) rfl (pv 0) rfl) ad)) (bB (bH bS (aN (K:=K) rfl (pv 0) rfl) (ao (aC (K:=K) rfl) (pv 1) ac (λ_ _=>rfl)) (aA _)))))))
   aJ)
   (ae (aF (aI cq (ao (aC (K:=K) rfl) (pv 1) ac (λ_ _=>rfl)) al (aA _))
     (ai (ar (bp (aO (cx (K:=K) rfl) (by rfl) T.isinstance_ PyProof.Rows.boot_isinstance (aa (pv 0) (aa (bR (v:=.ref CNamed) rfl RNamed.mg rfl) ad))) (bp (aO (cx (K:=K) rfl) (by rfl) T.isinstance_ PyProof.Rows.boot_isinstance (aa (aN (K:=K) rfl (pv 0) rfl) (aa (lr (v:=.ty "str") (by rfl) T.str_ PyProof.Rows.boot_str (by rfl)) ad))) (bB (bH cq (aN (K:=K) rfl (pv 0) rfl) (ao (aC (K:=K) rfl) (pv 1) ac (λ_ _=>rfl)) (aA _)))))))
     aJ)
   (ae (aF (PW.pt (iZ (dy (bu (aO (cx (K:=K) rfl) (by rfl) T.isinstance_ PyProof.Rows.boot_isinstance (aa (pv 0) (aa (bR (v:=.ref CGiven) rfl RGiven.mg rfl) ad))))) (iZ (dy (bu (aO (cx (K:=K) rfl) (by rfl) T.isinstance_ PyProof.Rows.boot_isinstance (aa (aN (K:=K) rfl (pv 0) rfl) (aa (lr (v:=.ty "list") (by rfl) T.list_ PyProof.Rows.boot_list (by rfl)) ad))))) (nz (aI (xp (K:=K) rfl hu) (aN (K:=K) rfl (pv 0) rfl) (ao (aC (K:=K) rfl) (pv 1) ac (λ_ _=>rfl)) (aA _))))))
     (ai (ar jf))
     aJ)
   (ae (iq PassesOwn.never rfl (lp (K:=K) rfl (aN (K:=K) rfl (pv 0) rfl)) (dS (i:=2) sc__law_like_leaf.nd rfl (Or.inl rfl))
     (ai (aF (dy (bu (aq ft (hr.mono) rfl eY fb fm .nil ak (aa (pv 2) ad))))
       (ai (ar jf))
       aJ)))
   (ai (ar (bp (aq uR (hr.mono) rfl sF tj uE .nil ak (aa (aN (K:=K) rfl (pv 0) rfl) (aa (ao (aC (K:=K) rfl) (pv 1) ac (λ_ _=>rfl)) ad))) (bB (aq uR (hr.mono) rfl sF tj uE .nil ak (aa (aN (K:=K) rfl (pv 0) rfl) (aa (ao (aC (K:=K) rfl) (pv 1) ac (λ_ _=>rfl)) ad))))))))))),?_⟩
  cases t with
  |whole n =>obtain⟨_,dx,hq⟩:=hP;rw[ew]at hq;have e:H qt=some (.tup [.str (Str.ofString "whole"),.int (n:Int)]):=hL;refine ax ⟨_,rfl,qt,_,_,_,rfl,rfl,SqT.of e,rfl,rfl,_,rfl,ap (λ_=>?_) (λz=>absurd rfl z)⟩;refine aM (aP (cs ⟨_,rfl,dg (.ins hq RWhole.cl RWhole.ha RWhole.hn RWhole.ht RWhole.hm) (k:=true) (by unfold PySem.W.kitOne;rw[if_pos (by simp)]) ⟨_,rfl,aB ?_⟩⟩));refine aP ⟨_,rfl,q,CWhole,dx,_,_,rfl,hq,RWhole.cl,RWhole.na "value" (by simp),ka _ _,_,rfl,_,rfl,aB ?_⟩;exact⟨_,rfl,q,CWhole,dx,_,_,rfl,hq,RWhole.cl,RWhole.na "value" (by simp),ka _ _,_,rfl,qt,_,_,_,rfl,rfl,SqT.of e,rfl,_,_,rfl,rfl,rh rfl k⟩
  |named m =>obtain⟨_,dx,hq⟩:=hP;rw[en]at hq;have e:H qt=some (.tup [.str (Str.ofString "named"),vS m]):=hL;refine ax ⟨_,rfl,qt,_,_,_,rfl,rfl,SqT.of e,rfl,rfl,_,rfl,ap (λz=>absurd (V.str.inj z) (by decide +kernel)) (λ_=>?_)⟩;refine ax ⟨_,rfl,qt,_,_,_,rfl,rfl,SqT.of e,rfl,rfl,_,rfl,ap (λ_=>?_) (λz=>absurd rfl z)⟩;refine aM (aP (cs ⟨_,rfl,dg (.ins hq RNamed.cl RNamed.ha RNamed.hn RNamed.ht RNamed.hm) (k:=true) (by unfold PySem.W.kitOne;rw[if_pos (by simp)]) ⟨_,rfl,aB ?_⟩⟩));refine aP (cs ⟨_,rfl,q,CNamed,dx,_,_,rfl,hq,RNamed.cl,RNamed.na "word" (by simp),ka _ _,lT (.str _) (k:=true) (by rfl) ⟨_,rfl,aB ?_⟩⟩);refine⟨_,rfl,q,CNamed,dx,_,_,rfl,hq,RNamed.cl,RNamed.na "word" (by simp),ka _ _,_,rfl,qt,_,_,_,rfl,rfl,SqT.of e,rfl,rfl,?_⟩;show Q (.bl (decide (vS m=vS m))) H;rw[decide_eq_true rfl];exact k
  |given kp l h =>
   obtain⟨_,dx,pk,pl,ph,hq,_,ek,_,hRl,_,hRh⟩:=hP;rw[eg]at hq;rw[ea]at hRl hRh;obtain⟨qk,ql,qh,e,_,e1,e2,e3⟩:=hL;refine ax ⟨_,rfl,qt,_,_,_,rfl,rfl,SqT.of e,rfl,rfl,_,rfl,ap (λz=>absurd (V.str.inj z) (by decide +kernel)) (λ_=>?_)⟩;refine ax ⟨_,rfl,qt,_,_,_,rfl,rfl,SqT.of e,rfl,rfl,_,rfl,ap (λz=>absurd (V.str.inj z) (by decide +kernel)) (λ_=>?_)⟩;refine ax (iX (dR (nu (cs ⟨_,rfl,dg (.ins hq RGiven.cl RGiven.ha RGiven.hn RGiven.ht RGiven.hm) (k:=true) (by unfold PySem.W.kitOne;rw[if_pos (by simp)]) ⟨_,rfl,aE ?_⟩⟩))));refine iX (dR (nu (cs ⟨_,rfl,q,CGiven,dx,_,_,rfl,hq,RGiven.cl,RGiven.nP,oX _ _ _,lT (.lst ek) (k:=true) (by rfl) ⟨_,rfl,aE ?_⟩⟩)));refine⟨_,rfl,q,CGiven,dx,_,_,rfl,hq,RGiven.cl,RGiven.nP,oX _ _ _,_,rfl,qt,_,_,_,rfl,rfl,SqT.of e,rfl,pk,qk,kp,kp,rfl,rfl,SqL.of ek,SqL.of e1,_,rfl,iY (λz=>absurd rfl z) (λ_=>?_)⟩;refine⟨_,rfl,q,CGiven,dx,_,_,rfl,hq,RGiven.cl,RGiven.nP,oX _ _ _,pk,rfl,⟨_,SqL.of ek⟩,oV (K:=K) (a:=pk) (xs:=kp.map V.int) (λi σ' H'=>∃z:Option V,σ'=[some (.ref q),some (.ref qt),z]/\H=H') ⟨none,rfl,rfl⟩ ?_ ?_ ?_⟩
   ·rintro i σ' H' _ ⟨z,rfl,rfl⟩;exact SqL.of ek
   ·rintro i x σ' H' hi ⟨z,rfl,rfl⟩;obtain⟨y,_,rfl,_,_⟩:=tR hi;exact⟨_,rfl,_,rfl,_,rfl,aE ⟨_,rfl,rfl⟩⟩
   ·rintro σ' H' ⟨z,rfl,rfl⟩;dsimp only
    refine aM (aP ⟨_,rfl,q,CGiven,dx,_,_,rfl,hq,RGiven.cl,RGiven.nL,A6 _ _ _,_,rfl,qt,_,_,_,rfl,rfl,SqT.of e,rfl,pl,ql,l,rfl,hRl,e2,hok.1,_,rfl,aB ?_⟩);exact⟨_,rfl,q,CGiven,dx,_,_,rfl,hq,RGiven.cl,RGiven.nH,A7 _ _ _,_,rfl,qt,_,_,_,rfl,rfl,SqT.of e,rfl,ph,qh,h,rfl,hRh,e3,hok.2,k⟩
  |_=>exact hlf.elim
theorem fE:¬(("one":Str)="power"):=by decide +kernel
theorem lw:¬(("one":Str)="other"):=by decide +kernel
def mQ(tc:TC)(n:Nat):Sp:=λvs H Q _=>∃(av av2 q qt:Addr) (t:PT),vs=[.ref q,.ref qt]/\PtH tc av H t q/\LtH av2 H t qt/\t.ok/\t.hgt<=n/\∀H',Same H H'->Q (.bl true) H'
theorem xZ{tc:TC}{n:Nat}{CMinus CPower CRooted CSum CLess CTimes COver f:Addr}{fd:FuncData}(F:Fun K "_law_like" "_law_like" dQ f fd)(T:Txt K mg)(RMinus:PCI K mg CMinus "Minus" ["one"])(RPower:PCI K mg CPower "Power" ["one","power"])(RRooted:PCI K mg CRooted "Rooted" ["one","power"])(RSum:PCI K mg CSum "Sum" ["one","other"])(RLess:PCI K mg CLess "Less" ["one","other"])(RTimes:PCI K mg CTimes "Times" ["one","other"])(ROver:PCI K mg COver "Over" ["one","other"])(em:tc.mi=CMinus)(ep:tc.po=CPower)(er:tc.ro=CRooted)(es:tc.su=CSum)(el:tc.le=CLess)(et:tc.ti=CTimes)(eo:tc.ov=COver){ee:Addr}{d8:FuncData}(dq:Cal P w K mg base 1 "_law_whole" ["_law_found"] fB ee d8){jY:Addr}{jH:FuncData}(C__law_like_leaf:Cal P w K mg base 3 "_law_like_leaf" ["_law_found","_law_tree"] (mR tc) jY jH)(C__law_like:Cal P w K mg base (n+4) "_law_like" ["_law_found","_law_tree"] (mQ tc n) f fd):FnOk P w K mg base CX0 (n+5) f fd ["_law_found","_law_tree"] (mQ tc (n+1)):=by
 obtain⟨ft,eY,fb,fm⟩:=dq;obtain⟨DE,zl,Am,CH⟩:=C__law_like_leaf;obtain⟨fu,eZ,fc,fo⟩:=C__law_like;refine F.ok sc__law_like (λvs H Q E h=>?_) (λcdv A outer s H vs Q E hr h=>?_)
 ·obtain⟨av,av2,q,qt,t,rfl,_⟩:=h;rfl
 ·obtain⟨av,av2,q,qt,t,rfl,hP,hL,hok,hh,k⟩:=h;have big:=sizeLine_eq
  refine⟨_,(ae (aF (aI (jg (K:=K) rfl) (ao (aC (K:=K) rfl) (pv 1) ac (λ_ _=>rfl)) (bj (aa al (aa al (aa al ad)))) (by rfl))
   (ai (ar (aq DE (hr.mono (by omega)) rfl zl Am CH .nil ak (aa (pv 0) (aa (pv 1) ad)))))
   aJ)
   (ae (aF (aI cq (ao (aC (K:=K) rfl) (pv 1) ac (λ_ _=>rfl)) al (aA _))
     (ai (ar (bp (aO (cx (K:=K) rfl) (by rfl) T.isinstance_ PyProof.Rows.boot_isinstance (aa (pv 0) (aa (bR (v:=.ref CMinus) rfl RMinus.mg rfl) ad))) (bB (aq fu (hr.mono (by omega)) rfl eZ fc fo .nil ak (aa (aN (K:=K) rfl (pv 0) rfl) (aa (ao (aC (K:=K) rfl) (pv 1) ac (λ_ _=>rfl)) ad)))))))
     aJ)
   (ae (aF (aI cq (ao (aC (K:=K) rfl) (pv 1) ac (λ_ _=>rfl)) al (aA _))
     (ae (am (i:=2) sc__law_like.nd rfl (Or.inl rfl) (bp (aO (cx (K:=K) rfl) (by rfl) T.isinstance_ PyProof.Rows.boot_isinstance (aa (pv 0) (aa (bR (v:=.ref CPower) rfl RPower.mg rfl) ad))) (bp (aq ft (hr.mono (by omega)) rfl eY fb fm .nil ak (aa (aN (K:=K) rfl (pv 0) rfl) ad)) (bB (bH bS (aN (K:=K) rfl (pv 0) rfl) (ao (aC (K:=K) rfl) (pv 1) ac (λ_ _=>rfl)) (aA _))))))
       (ai (ar (bp (pv 2) (bB (aq fu (hr.mono (by omega)) rfl eZ fc fo .nil ak (aa (aN (K:=K) rfl (pv 0) rfl) (aa (ao (aC (K:=K) rfl) (pv 1) ac (λ_ _=>rfl)) ad))))))))
     aJ)
   (ae (aF (aI cq (ao (aC (K:=K) rfl) (pv 1) ac (λ_ _=>rfl)) al (aA _))
     (ae (am (i:=2) sc__law_like.nd rfl (Or.inl rfl) (bp (aO (cx (K:=K) rfl) (by rfl) T.isinstance_ PyProof.Rows.boot_isinstance (aa (pv 0) (aa (bR (v:=.ref CRooted) rfl RRooted.mg rfl) ad))) (bp (aq ft (hr.mono (by omega)) rfl eY fb fm .nil ak (aa (aN (K:=K) rfl (pv 0) rfl) ad)) (bB (bH bS (aN (K:=K) rfl (pv 0) rfl) (ao (aC (K:=K) rfl) (pv 1) ac (λ_ _=>rfl)) (aA _))))))
       (ai (ar (bp (pv 2) (bB (aq fu (hr.mono (by omega)) rfl eZ fc fo .nil ak (aa (aN (K:=K) rfl (pv 0) rfl) (aa (ao (aC (K:=K) rfl) (pv 1) ac (λ_ _=>rfl)) ad))))))))
     aJ)
   (ae (am (i:=2) sc__law_like.nd rfl (Or.inl rfl) (lq (bp (bH cq (ao (aC (K:=K) rfl) (pv 1) ac (λ_ _=>rfl)) al (aA _)) (bB (aO (cx (K:=K) rfl) (by rfl) T.isinstance_ PyProof.Rows.boot_isinstance (aa (pv 0) (aa (bR (v:=.ref CSum) rfl RSum.mg rfl) ad))))) (bB (bp (bH cq (ao (aC (K:=K) rfl) (pv 1) ac (λ_ _=>rfl)) al (aA _)) (bB (aO (cx (K:=K) rfl) (by rfl) T.isinstance_ PyProof.Rows.boot_isinstance (aa (pv 0) (aa (bR (v:=.ref CLess) rfl RLess.mg rfl) ad))))))))
   (ae (am (i:=2) sc__law_like.nd rfl (Or.inl rfl) (lq (pv 2) (lq (bp (bH cq (ao (aC (K:=K) rfl) (pv 1) ac (λ_ _=>rfl)) al (aA _)) (bB (aO (cx (K:=K) rfl) (by rfl) T.isinstance_ PyProof.Rows.boot_isinstance (aa (pv 0) (aa (bR (v:=.ref CTimes) rfl RTimes.mg rfl) ad))))) (bB (bp (bH cq (ao (aC (K:=K) rfl) (pv 1) ac (λ_ _=>rfl)) al (aA _)) (bB (aO (cx (K:=K) rfl) (by rfl) T.isinstance_ PyProof.Rows.boot_isinstance (aa (pv 0) (aa (bR (v:=.ref COver) rfl ROver.mg rfl) ad)))))))))
   (ai (ar (bp (pv 2) (bp (aq fu (hr.mono (by omega)) rfl eZ fc fo .nil ak (aa (aN (K:=K) rfl (pv 0) rfl) (aa (ao (aC (K:=K) rfl) (pv 1) ac (λ_ _=>rfl)) ad))) (bB (aq fu (hr.mono (by omega)) rfl eZ fc fo .nil ak (aa (aN (K:=K) rfl (pv 0) rfl) (aa (ao (aC (K:=K) rfl) (pv 1) ac (λ_ _=>rfl)) ad)))))))))))))),?_⟩
  cases t with
  |whole n =>
   have e:=hL;unfold LtH at e
   refine ax ⟨_,rfl,qt,_,_,_,rfl,rfl,SqT.of e,rfl,by show 3<=sizeLine;omega,λpt hpt=>⟨pt,_,rfl,.inr (SqT.of af),rfl,by decide,_,rfl,?_⟩⟩;have u:=Same.upd_new (o:=.tup [.str (Str.ofString "whole"),.str (Str.ofString "named"),.str (Str.ofString "given")]) hpt;show if(inV (.str (Str.ofString "whole")) [.str (Str.ofString "whole"),.str (Str.ofString "named"),.str (Str.ofString "given")])=true then _ else _
   rw[show inV (.str (Str.ofString "whole")) [.str (Str.ofString "whole"),.str (Str.ofString "named"),.str (Str.ofString "given")]=true by decide +kernel];exact aB (aM ⟨_,rfl,_,rfl,av,av2,q,qt,_,rfl,hP.same u,hL.kp (aR u),hok,trivial,k _ u⟩)
  |named m =>
   have e:=hL;unfold LtH at e
   refine ax ⟨_,rfl,qt,_,_,_,rfl,rfl,SqT.of e,rfl,by show 3<=sizeLine;omega,λpt hpt=>⟨pt,_,rfl,.inr (SqT.of af),rfl,by decide,_,rfl,?_⟩⟩;have u:=Same.upd_new (o:=.tup [.str (Str.ofString "whole"),.str (Str.ofString "named"),.str (Str.ofString "given")]) hpt;show if(inV (.str (Str.ofString "named")) [.str (Str.ofString "whole"),.str (Str.ofString "named"),.str (Str.ofString "given")])=true then _ else _
   rw[show inV (.str (Str.ofString "named")) [.str (Str.ofString "whole"),.str (Str.ofString "named"),.str (Str.ofString "given")]=true by decide +kernel];exact aB (aM ⟨_,rfl,_,rfl,av,av2,q,qt,_,rfl,hP.same u,hL.kp (aR u),hok,trivial,k _ u⟩)
  |given kp l h =>
   obtain⟨_,_,_,e,_⟩:=id hL;refine ax ⟨_,rfl,qt,_,_,_,rfl,rfl,SqT.of e,rfl,by show 3<=sizeLine;omega,λpt hpt=>⟨pt,_,rfl,.inr (SqT.of af),rfl,by decide,_,rfl,?_⟩⟩;have u:=Same.upd_new (o:=.tup [.str (Str.ofString "whole"),.str (Str.ofString "named"),.str (Str.ofString "given")]) hpt;show if(inV (.str (Str.ofString "given")) [.str (Str.ofString "whole"),.str (Str.ofString "named"),.str (Str.ofString "given")])=true then _ else _
   rw[show inV (.str (Str.ofString "given")) [.str (Str.ofString "whole"),.str (Str.ofString "named"),.str (Str.ofString "given")]=true by decide +kernel];exact aB (aM ⟨_,rfl,_,rfl,av,av2,q,qt,_,rfl,hP.same u,hL.kp (aR u),hok,trivial,k _ u⟩)
  |minus t =>
   obtain⟨_,dx,p,hq,hP'⟩:=hP;rw[em]at hq;obtain⟨pt',e,hL'⟩:=hL;refine ax ⟨_,rfl,qt,_,_,_,rfl,rfl,SqT.of e,rfl,by show 3<=sizeLine;omega,λpt hpt=>⟨pt,_,rfl,.inr (SqT.of af),rfl,by decide,_,rfl,?_⟩⟩;have u:=Same.upd_new (o:=.tup [.str (Str.ofString "whole"),.str (Str.ofString "named"),.str (Str.ofString "given")]) hpt;show if(inV (.str (Str.ofString "minus")) [.str (Str.ofString "whole"),.str (Str.ofString "named"),.str (Str.ofString "given")])=true then _ else _
   rw[show inV (.str (Str.ofString "minus")) [.str (Str.ofString "whole"),.str (Str.ofString "named"),.str (Str.ofString "given")]=false by decide +kernel];refine aE ?_;have e1:=u _ _ e;have hq1:=u _ _ hq;generalize upd H pt (.tup [.str (Str.ofString "whole"),.str (Str.ofString "named"),.str (Str.ofString "given")])=H1 at u e1 hq1 ⊢
   refine ax ⟨_,rfl,qt,_,_,_,rfl,rfl,SqT.of e1,rfl,rfl,_,rfl,ap (λ_=>?_) (λz=>absurd rfl z)⟩;refine aM (aP (cs ⟨_,rfl,dg (.ins hq1 RMinus.cl RMinus.ha RMinus.hn RMinus.ht RMinus.hm) (k:=true) (by unfold PySem.W.kitOne;rw[if_pos (by simp)]) ⟨_,rfl,aB ?_⟩⟩));exact⟨_,rfl,q,CMinus,dx,_,_,rfl,hq1,RMinus.cl,RMinus.na "one" (by simp),ka _ _,_,rfl,qt,_,_,_,rfl,rfl,SqT.of e1,rfl,av,av2,p,pt',t,rfl,hP'.same u,hL'.kp (aR u),hok,Fi hh,λH' s=>k _ (u.trans s)⟩
  |power t m =>
   obtain⟨_,dx,p,hq,hP'⟩:=hP;rw[ep]at hq;obtain⟨pt',e,hL'⟩:=hL;refine ax ⟨_,rfl,qt,_,_,_,rfl,rfl,SqT.of e,rfl,by show 3<=sizeLine;omega,λpt hpt=>⟨pt,_,rfl,.inr (SqT.of af),rfl,by decide,_,rfl,?_⟩⟩;have u:=Same.upd_new (o:=.tup [.str (Str.ofString "whole"),.str (Str.ofString "named"),.str (Str.ofString "given")]) hpt;show if(inV (.str (Str.ofString "power")) [.str (Str.ofString "whole"),.str (Str.ofString "named"),.str (Str.ofString "given")])=true then _ else _
   rw[show inV (.str (Str.ofString "power")) [.str (Str.ofString "whole"),.str (Str.ofString "named"),.str (Str.ofString "given")]=false by decide +kernel];refine aE ?_;have e1:=u _ _ e;have hq1:=u _ _ hq;generalize upd H pt (.tup [.str (Str.ofString "whole"),.str (Str.ofString "named"),.str (Str.ofString "given")])=H1 at u e1 hq1 ⊢
   refine ax ⟨_,rfl,qt,_,_,_,rfl,rfl,SqT.of e1,rfl,rfl,_,rfl,ap (λz=>absurd (V.str.inj z) (by decide +kernel)) (λ_=>?_)⟩;refine ax ⟨_,rfl,qt,_,_,_,rfl,rfl,SqT.of e1,rfl,rfl,_,rfl,ap (λ_=>?_) (λz=>absurd rfl z)⟩;refine ay (aP (cs ⟨_,rfl,dg (.ins hq1 RPower.cl RPower.ha RPower.hn RPower.ht RPower.hm) (k:=true) (by unfold PySem.W.kitOne;rw[if_pos (by simp)]) ⟨_,rfl,aB ?_⟩⟩));refine aP ⟨_,rfl,q,CPower,dx,_,_,rfl,hq1,RPower.cl,RPower.na "power" (by simp),fi _ _ _ _,_,rfl,_,rfl,aB ?_⟩;refine⟨_,rfl,q,CPower,dx,_,_,rfl,hq1,RPower.cl,RPower.na "power" (by simp),fi _ _ _ _,_,rfl,qt,_,_,_,rfl,rfl,SqT.of e1,rfl,_,_,rfl,rfl,?_⟩;refine aM (aP ⟨_,rfl,_,rfl,ap (λ_=>?_) (λz=>absurd rfl z)⟩);exact⟨_,rfl,q,CPower,dx,_,_,rfl,hq1,RPower.cl,RPower.na "one" (by simp),iI fE _ _,_,rfl,qt,_,_,_,rfl,rfl,SqT.of e1,rfl,av,av2,p,pt',t,rfl,hP'.same u,hL'.kp (aR u),hok,Fi hh,λH' s=>k _ (u.trans s)⟩
  |rooted t m =>
   obtain⟨_,dx,p,hq,hP'⟩:=hP;rw[er]at hq;obtain⟨pt',e,hL'⟩:=hL;refine ax ⟨_,rfl,qt,_,_,_,rfl,rfl,SqT.of e,rfl,by show 3<=sizeLine;omega,λpt hpt=>⟨pt,_,rfl,.inr (SqT.of af),rfl,by decide,_,rfl,?_⟩⟩;have u:=Same.upd_new (o:=.tup [.str (Str.ofString "whole"),.str (Str.ofString "named"),.str (Str.ofString "given")]) hpt;show if(inV (.str (Str.ofString "rooted")) [.str (Str.ofString "whole"),.str (Str.ofString "named"),.str (Str.ofString "given")])=true then _ else _
   rw[show inV (.str (Str.ofString "rooted")) [.str (Str.ofString "whole"),.str (Str.ofString "named"),.str (Str.ofString "given")]=false by decide +kernel];refine aE ?_;have e1:=u _ _ e;have hq1:=u _ _ hq;generalize upd H pt (.tup [.str (Str.ofString "whole"),.str (Str.ofString "named"),.str (Str.ofString "given")])=H1 at u e1 hq1 ⊢
   refine ax ⟨_,rfl,qt,_,_,_,rfl,rfl,SqT.of e1,rfl,rfl,_,rfl,ap (λz=>absurd (V.str.inj z) (by decide +kernel)) (λ_=>?_)⟩;refine ax ⟨_,rfl,qt,_,_,_,rfl,rfl,SqT.of e1,rfl,rfl,_,rfl,ap (λz=>absurd (V.str.inj z) (by decide +kernel)) (λ_=>?_)⟩;refine ax ⟨_,rfl,qt,_,_,_,rfl,rfl,SqT.of e1,rfl,rfl,_,rfl,ap (λ_=>?_) (λz=>absurd rfl z)⟩;refine ay (aP (cs ⟨_,rfl,dg (.ins hq1 RRooted.cl RRooted.ha RRooted.hn RRooted.ht RRooted.hm) (k:=true) (by unfold PySem.W.kitOne;rw[if_pos (by simp)]) ⟨_,rfl,aB ?_⟩⟩));refine aP ⟨_,rfl,q,CRooted,dx,_,_,rfl,hq1,RRooted.cl,RRooted.na "power" (by simp),fi _ _ _ _,_,rfl,_,rfl,aB ?_⟩;refine⟨_,rfl,q,CRooted,dx,_,_,rfl,hq1,RRooted.cl,RRooted.na "power" (by simp),fi _ _ _ _,_,rfl,qt,_,_,_,rfl,rfl,SqT.of e1,rfl,_,_,rfl,rfl,?_⟩;refine aM (aP ⟨_,rfl,_,rfl,ap (λ_=>?_) (λz=>absurd rfl z)⟩);exact⟨_,rfl,q,CRooted,dx,_,_,rfl,hq1,RRooted.cl,RRooted.na "one" (by simp),iI fE _ _,_,rfl,qt,_,_,_,rfl,rfl,SqT.of e1,rfl,av,av2,p,pt',t,rfl,hP'.same u,hL'.kp (aR u),hok,Fi hh,λH' s=>k _ (u.trans s)⟩
  |sum t1 t2 =>
   obtain⟨_,dx,p,r,hq,hP1,hP2⟩:=hP;rw[es]at hq;obtain⟨pt1,pt2,e,hL1,hL2⟩:=hL;refine ax ⟨_,rfl,qt,_,_,_,rfl,rfl,SqT.of e,rfl,by show 3<=sizeLine;omega,λpt hpt=>⟨pt,_,rfl,.inr (SqT.of af),rfl,by decide,_,rfl,?_⟩⟩;have u:=Same.upd_new (o:=.tup [.str (Str.ofString "whole"),.str (Str.ofString "named"),.str (Str.ofString "given")]) hpt;show if(inV (.str (Str.ofString "sum")) [.str (Str.ofString "whole"),.str (Str.ofString "named"),.str (Str.ofString "given")])=true then _ else _
   rw[show inV (.str (Str.ofString "sum")) [.str (Str.ofString "whole"),.str (Str.ofString "named"),.str (Str.ofString "given")]=false by decide +kernel];refine aE ?_;have e1:=u _ _ e;have hq1:=u _ _ hq;generalize upd H pt (.tup [.str (Str.ofString "whole"),.str (Str.ofString "named"),.str (Str.ofString "given")])=H1 at u e1 hq1 ⊢
   refine ax ⟨_,rfl,qt,_,_,_,rfl,rfl,SqT.of e1,rfl,rfl,_,rfl,ap (λz=>absurd (V.str.inj z) (by decide +kernel)) (λ_=>?_)⟩;refine ax ⟨_,rfl,qt,_,_,_,rfl,rfl,SqT.of e1,rfl,rfl,_,rfl,ap (λz=>absurd (V.str.inj z) (by decide +kernel)) (λ_=>?_)⟩;refine ax ⟨_,rfl,qt,_,_,_,rfl,rfl,SqT.of e1,rfl,rfl,_,rfl,ap (λz=>absurd (V.str.inj z) (by decide +kernel)) (λ_=>?_)⟩;refine ay (da (aP ⟨_,rfl,qt,_,_,_,rfl,rfl,SqT.of e1,rfl,rfl,_,rfl,ap (λ_=>cs ⟨_,rfl,dg (.ins hq1 RSum.cl RSum.ha RSum.hn RSum.ht RSum.hm) (k:=true) (by unfold PySem.W.kitOne;rw[if_pos (by simp)]) ⟨_,rfl,aB ?_⟩⟩) (λz=>absurd rfl z)⟩));refine ay (da ⟨_,rfl,_,rfl,aB ?_⟩);have hh1:t1.hgt<=n:=ES (Fy _ _) (Fi hh);have hh2:t2.hgt<=n:=ES (Fz _ _) (Fi hh);refine aM (aP ⟨_,rfl,_,rfl,aB (aP ⟨_,rfl,q,CSum,dx,_,_,rfl,hq1,RSum.cl,RSum.na "one" (by simp),iI lw _ _,_,rfl,qt,_,_,_,rfl,rfl,SqT.of e1,rfl,av,av2,p,pt1,t1,rfl,hP1.same u,hL1.kp (aR u),hok.1,hh1,λH2 s2=>⟨_,rfl,aB ?_⟩⟩)⟩);have u2:=u.trans s2;exact⟨_,rfl,q,CSum,dx,_,_,rfl,s2 _ _ hq1,RSum.cl,RSum.na "other" (by simp),fi _ _ _ _,_,rfl,qt,_,_,_,rfl,rfl,SqT.of (s2 _ _ e1),rfl,av,av2,r,pt2,t2,rfl,hP2.same u2,hL2.kp (aR u2),hok.2,hh2,λH' s=>k _ (u2.trans s)⟩
  |less t1 t2 =>
   obtain⟨_,dx,p,r,hq,hP1,hP2⟩:=hP;rw[el]at hq;obtain⟨pt1,pt2,e,hL1,hL2⟩:=hL;refine ax ⟨_,rfl,qt,_,_,_,rfl,rfl,SqT.of e,rfl,by show 3<=sizeLine;omega,λpt hpt=>⟨pt,_,rfl,.inr (SqT.of af),rfl,by decide,_,rfl,?_⟩⟩;have u:=Same.upd_new (o:=.tup [.str (Str.ofString "whole"),.str (Str.ofString "named"),.str (Str.ofString "given")]) hpt;show if(inV (.str (Str.ofString "less")) [.str (Str.ofString "whole"),.str (Str.ofString "named"),.str (Str.ofString "given")])=true then _ else _
   rw[show inV (.str (Str.ofString "less")) [.str (Str.ofString "whole"),.str (Str.ofString "named"),.str (Str.ofString "given")]=false by decide +kernel];refine aE ?_;have e1:=u _ _ e;have hq1:=u _ _ hq;generalize upd H pt (.tup [.str (Str.ofString "whole"),.str (Str.ofString "named"),.str (Str.ofString "given")])=H1 at u e1 hq1 ⊢
   refine ax ⟨_,rfl,qt,_,_,_,rfl,rfl,SqT.of e1,rfl,rfl,_,rfl,ap (λz=>absurd (V.str.inj z) (by decide +kernel)) (λ_=>?_)⟩;refine ax ⟨_,rfl,qt,_,_,_,rfl,rfl,SqT.of e1,rfl,rfl,_,rfl,ap (λz=>absurd (V.str.inj z) (by decide +kernel)) (λ_=>?_)⟩;refine ax ⟨_,rfl,qt,_,_,_,rfl,rfl,SqT.of e1,rfl,rfl,_,rfl,ap (λz=>absurd (V.str.inj z) (by decide +kernel)) (λ_=>?_)⟩;refine ay (da (aP ⟨_,rfl,qt,_,_,_,rfl,rfl,SqT.of e1,rfl,rfl,_,rfl,ap (λz=>absurd (V.str.inj z) (by decide +kernel)) (λ_=>⟨_,rfl,aE ?_⟩)⟩));refine aP ⟨_,rfl,qt,_,_,_,rfl,rfl,SqT.of e1,rfl,rfl,_,rfl,ap (λ_=>cs ⟨_,rfl,dg (.ins hq1 RLess.cl RLess.ha RLess.hn RLess.ht RLess.hm) (k:=true) (by unfold PySem.W.kitOne;rw[if_pos (by simp)]) ?_⟩) (λz=>absurd rfl z)⟩;refine ay (da ⟨_,rfl,_,rfl,aB ?_⟩);have hh1:t1.hgt<=n:=ES (Fy _ _) (Fi hh);have hh2:t2.hgt<=n:=ES (Fz _ _) (Fi hh);refine aM (aP ⟨_,rfl,_,rfl,aB (aP ⟨_,rfl,q,CLess,dx,_,_,rfl,hq1,RLess.cl,RLess.na "one" (by simp),iI lw _ _,_,rfl,qt,_,_,_,rfl,rfl,SqT.of e1,rfl,av,av2,p,pt1,t1,rfl,hP1.same u,hL1.kp (aR u),hok.1,hh1,λH2 s2=>⟨_,rfl,aB ?_⟩⟩)⟩);have u2:=u.trans s2;exact⟨_,rfl,q,CLess,dx,_,_,rfl,s2 _ _ hq1,RLess.cl,RLess.na "other" (by simp),fi _ _ _ _,_,rfl,qt,_,_,_,rfl,rfl,SqT.of (s2 _ _ e1),rfl,av,av2,r,pt2,t2,rfl,hP2.same u2,hL2.kp (aR u2),hok.2,hh2,λH' s=>k _ (u2.trans s)⟩
  |times t1 t2 =>
   obtain⟨_,dx,p,r,hq,hP1,hP2⟩:=hP;rw[et]at hq;obtain⟨pt1,pt2,e,hL1,hL2⟩:=hL;refine ax ⟨_,rfl,qt,_,_,_,rfl,rfl,SqT.of e,rfl,by show 3<=sizeLine;omega,λpt hpt=>⟨pt,_,rfl,.inr (SqT.of af),rfl,by decide,_,rfl,?_⟩⟩;have u:=Same.upd_new (o:=.tup [.str (Str.ofString "whole"),.str (Str.ofString "named"),.str (Str.ofString "given")]) hpt;show if(inV (.str (Str.ofString "times")) [.str (Str.ofString "whole"),.str (Str.ofString "named"),.str (Str.ofString "given")])=true then _ else _
   rw[show inV (.str (Str.ofString "times")) [.str (Str.ofString "whole"),.str (Str.ofString "named"),.str (Str.ofString "given")]=false by decide +kernel];refine aE ?_;have e1:=u _ _ e;have hq1:=u _ _ hq;generalize upd H pt (.tup [.str (Str.ofString "whole"),.str (Str.ofString "named"),.str (Str.ofString "given")])=H1 at u e1 hq1 ⊢
   refine ax ⟨_,rfl,qt,_,_,_,rfl,rfl,SqT.of e1,rfl,rfl,_,rfl,ap (λz=>absurd (V.str.inj z) (by decide +kernel)) (λ_=>?_)⟩;refine ax ⟨_,rfl,qt,_,_,_,rfl,rfl,SqT.of e1,rfl,rfl,_,rfl,ap (λz=>absurd (V.str.inj z) (by decide +kernel)) (λ_=>?_)⟩;refine ax ⟨_,rfl,qt,_,_,_,rfl,rfl,SqT.of e1,rfl,rfl,_,rfl,ap (λz=>absurd (V.str.inj z) (by decide +kernel)) (λ_=>?_)⟩;refine ay (da (aP ⟨_,rfl,qt,_,_,_,rfl,rfl,SqT.of e1,rfl,rfl,_,rfl,ap (λz=>absurd (V.str.inj z) (by decide +kernel)) (λ_=>⟨_,rfl,aE ?_⟩)⟩));refine aP ⟨_,rfl,qt,_,_,_,rfl,rfl,SqT.of e1,rfl,rfl,_,rfl,ap (λz=>absurd (V.str.inj z) (by decide +kernel)) (λ_=>?_)⟩;refine ay (da ⟨_,rfl,_,rfl,aE ?_⟩);refine da (aP ⟨_,rfl,qt,_,_,_,rfl,rfl,SqT.of e1,rfl,rfl,_,rfl,ap (λ_=>cs ⟨_,rfl,dg (.ins hq1 RTimes.cl RTimes.ha RTimes.hn RTimes.ht RTimes.hm) (k:=true) (by unfold PySem.W.kitOne;rw[if_pos (by simp)]) ⟨_,rfl,aB ?_⟩⟩) (λz=>absurd rfl z)⟩);have hh1:t1.hgt<=n:=ES (Fy _ _) (Fi hh);have hh2:t2.hgt<=n:=ES (Fz _ _) (Fi hh);refine aM (aP ⟨_,rfl,_,rfl,aB (aP ⟨_,rfl,q,CTimes,dx,_,_,rfl,hq1,RTimes.cl,RTimes.na "one" (by simp),iI lw _ _,_,rfl,qt,_,_,_,rfl,rfl,SqT.of e1,rfl,av,av2,p,pt1,t1,rfl,hP1.same u,hL1.kp (aR u),hok.1,hh1,λH2 s2=>⟨_,rfl,aB ?_⟩⟩)⟩);have u2:=u.trans s2;exact⟨_,rfl,q,CTimes,dx,_,_,rfl,s2 _ _ hq1,RTimes.cl,RTimes.na "other" (by simp),fi _ _ _ _,_,rfl,qt,_,_,_,rfl,rfl,SqT.of (s2 _ _ e1),rfl,av,av2,r,pt2,t2,rfl,hP2.same u2,hL2.kp (aR u2),hok.2,hh2,λH' s=>k _ (u2.trans s)⟩
  |over t1 t2 =>
   obtain⟨_,dx,p,r,hq,hP1,hP2⟩:=hP;rw[eo]at hq;obtain⟨pt1,pt2,e,hL1,hL2⟩:=hL;refine ax ⟨_,rfl,qt,_,_,_,rfl,rfl,SqT.of e,rfl,by show 3<=sizeLine;omega,λpt hpt=>⟨pt,_,rfl,.inr (SqT.of af),rfl,by decide,_,rfl,?_⟩⟩;have u:=Same.upd_new (o:=.tup [.str (Str.ofString "whole"),.str (Str.ofString "named"),.str (Str.ofString "given")]) hpt;show if(inV (.str (Str.ofString "over")) [.str (Str.ofString "whole"),.str (Str.ofString "named"),.str (Str.ofString "given")])=true then _ else _
   rw[show inV (.str (Str.ofString "over")) [.str (Str.ofString "whole"),.str (Str.ofString "named"),.str (Str.ofString "given")]=false by decide +kernel];refine aE ?_;have e1:=u _ _ e;have hq1:=u _ _ hq;generalize upd H pt (.tup [.str (Str.ofString "whole"),.str (Str.ofString "named"),.str (Str.ofString "given")])=H1 at u e1 hq1 ⊢
   refine ax ⟨_,rfl,qt,_,_,_,rfl,rfl,SqT.of e1,rfl,rfl,_,rfl,ap (λz=>absurd (V.str.inj z) (by decide +kernel)) (λ_=>?_)⟩;refine ax ⟨_,rfl,qt,_,_,_,rfl,rfl,SqT.of e1,rfl,rfl,_,rfl,ap (λz=>absurd (V.str.inj z) (by decide +kernel)) (λ_=>?_)⟩;refine ax ⟨_,rfl,qt,_,_,_,rfl,rfl,SqT.of e1,rfl,rfl,_,rfl,ap (λz=>absurd (V.str.inj z) (by decide +kernel)) (λ_=>?_)⟩;refine ay (da (aP ⟨_,rfl,qt,_,_,_,rfl,rfl,SqT.of e1,rfl,rfl,_,rfl,ap (λz=>absurd (V.str.inj z) (by decide +kernel)) (λ_=>⟨_,rfl,aE ?_⟩)⟩));refine aP ⟨_,rfl,qt,_,_,_,rfl,rfl,SqT.of e1,rfl,rfl,_,rfl,ap (λz=>absurd (V.str.inj z) (by decide +kernel)) (λ_=>?_)⟩;refine ay (da ⟨_,rfl,_,rfl,aE ?_⟩);refine da (aP ⟨_,rfl,qt,_,_,_,rfl,rfl,SqT.of e1,rfl,rfl,_,rfl,ap (λz=>absurd (V.str.inj z) (by decide +kernel)) (λ_=>⟨_,rfl,aE ?_⟩)⟩);refine aP ⟨_,rfl,qt,_,_,_,rfl,rfl,SqT.of e1,rfl,rfl,_,rfl,ap (λ_=>cs ⟨_,rfl,dg (.ins hq1 ROver.cl ROver.ha ROver.hn ROver.ht ROver.hm) (k:=true) (by unfold PySem.W.kitOne;rw[if_pos (by simp)]) ?_⟩) (λz=>absurd rfl z)⟩;have hh1:t1.hgt<=n:=ES (Fy _ _) (Fi hh);have hh2:t2.hgt<=n:=ES (Fz _ _) (Fi hh);refine aM (aP ⟨_,rfl,_,rfl,aB (aP ⟨_,rfl,q,COver,dx,_,_,rfl,hq1,ROver.cl,ROver.na "one" (by simp),iI lw _ _,_,rfl,qt,_,_,_,rfl,rfl,SqT.of e1,rfl,av,av2,p,pt1,t1,rfl,hP1.same u,hL1.kp (aR u),hok.1,hh1,λH2 s2=>⟨_,rfl,aB ?_⟩⟩)⟩);have u2:=u.trans s2;exact⟨_,rfl,q,COver,dx,_,_,rfl,s2 _ _ hq1,ROver.cl,ROver.na "other" (by simp),fi _ _ _ _,_,rfl,qt,_,_,_,rfl,rfl,SqT.of (s2 _ _ e1),rfl,av,av2,r,pt2,t2,rfl,hP2.same u2,hL2.kp (aR u2),hok.2,hh2,λH' s=>k _ (u2.trans s)⟩
theorem tN(t:PT):1<=t.hgt:=by cases t<;>exact Nat.le_add_left _ _
theorem sP{tc:TC}{CMinus CPower CRooted CSum CLess CTimes COver:Addr}(T:Txt K mg)(RMinus:PCI K mg CMinus "Minus" ["one"])(RPower:PCI K mg CPower "Power" ["one","power"])(RRooted:PCI K mg CRooted "Rooted" ["one","power"])(RSum:PCI K mg CSum "Sum" ["one","other"])(RLess:PCI K mg CLess "Less" ["one","other"])(RTimes:PCI K mg CTimes "Times" ["one","other"])(ROver:PCI K mg COver "Over" ["one","other"])(em:tc.mi=CMinus)(ep:tc.po=CPower)(er:tc.ro=CRooted)(es:tc.su=CSum)(el:tc.le=CLess)(et:tc.ti=CTimes)(eo:tc.ov=COver){ee:Addr}{d8:FuncData}(dq:Cal P w K mg base 1 "_law_whole" ["_law_found"] fB ee d8){jY:Addr}{jH:FuncData}(C__law_like_leaf:Cal P w K mg base 3 "_law_like_leaf" ["_law_found","_law_tree"] (mR tc) jY jH){me:Addr}{md:FuncData}(C__law_like:RawC K mg "_law_like" dQ ["_law_found","_law_tree"] me md):∀n,Cal P w K mg base (n+4) "_law_like" ["_law_found","_law_tree"] (mQ tc n) me md
 |0=>C__law_like.cal (C__law_like.fn.ok sc__law_like (λ_ _ _ _ ⟨_,_,_,_,t,_,_,_,_,h,_⟩=>absurd (tN t) (by omega)) (λ_ _ _ _ _ _ _ _ _ ⟨_,_,_,_,t,_,_,_,_,h,_⟩=>absurd (tN t) (by omega)))
 |n+1=>C__law_like.cal (xZ C__law_like.fn T RMinus RPower RRooted RSum RLess RTimes ROver em ep er es el et eo dq C__law_like_leaf (sP T RMinus RPower RRooted RSum RLess RTimes ROver em ep er es el et eo dq C__law_like_leaf C__law_like n))
theorem Dd{d rk:Nat}{ms:List (List Nat)}{t:PT}{us:List Mk}(g:Gr rk d ms t)(hd:d<=10)(hu:us.map (·.1)=ms):eS us=.inr (t,[]):=by have h:=(g.rd hd hu).r0 [] (by decide) (by decide) (by decide);rw[Ff,<- nF]at h;unfold eS;rw[h];rfl
theorem xP{CWhole CNamed CGiven CMinus CSum CLess CTimes COver CPower CRooted CRatio CNoText f:Addr}{fd:FuncData}(F:Fun K "law" "law" dP f fd)(T:Txt K mg)(RWhole:PCI K mg CWhole "Whole" ["value"])(RNamed:PCI K mg CNamed "Named" ["word"])(RGiven:GCI K mg CGiven)(RMinus:PCI K mg CMinus "Minus" ["one"])(RSum:PCI K mg CSum "Sum" ["one","other"])(RLess:PCI K mg CLess "Less" ["one","other"])(RTimes:PCI K mg CTimes "Times" ["one","other"])(ROver:PCI K mg COver "Over" ["one","other"])(RPower:PCI K mg CPower "Power" ["one","power"])(RRooted:PCI K mg CRooted "Rooted" ["one","power"]){BR:Addr}{Br:FuncData}(Ed:Cal P w K mg base 3 "_law_drawn" ["_law_deeds"] mX BR Br){BO:Addr}{Bo:FuncData}(Ea:Cal P w K mg base 1 "_law_joined" ["_law_marks","_law_turn"] mS BO Bo){BS:Addr}{Bs:FuncData}(Ee:Cal P w K mg base 1 "_law_cell" ["_law_script","_law_k"] (gh K) BS Bs){BI:Addr}{Bg:FuncData}(D4:CalV P w K mg base 73 "read" ["text"] (mL CNoText ⟨CWhole,CNamed,CGiven,CMinus,CSum,CLess,CTimes,COver,CPower,CRooted,CRatio⟩) BI Bg){ee:Addr}{d8:FuncData}(dq:Cal P w K mg base 1 "_law_whole" ["_law_found"] fB ee d8){o9:Addr}{o5:FuncData}(qg:Cal P w K mg base 2 "_law_ratio" ["_law_r","_law_due"] (kY CRatio) o9 o5){jY:Addr}{jH:FuncData}(C__law_like_leaf:RawC K mg "_law_like_leaf" eJ ["_law_found","_law_tree"] jY jH){me:Addr}{md:FuncData}(C__law_like:RawC K mg "_law_like" dQ ["_law_found","_law_tree"] me md):FnOk P w K mg base CX0 104 f fd ["_law_script"] (la K):=by
 have C__law_like_leaf:=C__law_like_leaf.cal (xY (tc:=⟨CWhole,CNamed,CGiven,CMinus,CSum,CLess,CTimes,COver,CPower,CRooted,CRatio⟩) C__law_like_leaf.fn T RWhole RNamed RGiven rfl rfl rfl rfl dq qg);have C__law_like:=sP (tc:=⟨CWhole,CNamed,CGiven,CMinus,CSum,CLess,CTimes,COver,CPower,CRooted,CRatio⟩) T RMinus RPower RRooted RSum RLess RTimes ROver rfl rfl rfl rfl rfl rfl rfl dq C__law_like_leaf C__law_like 98;obtain⟨DH,zo,Ap,CK⟩:=Ed;obtain⟨DF,zm,An,CI⟩:=Ea;obtain⟨DI,zp,Aq,CL⟩:=Ee;obtain⟨uP,sD,sZ,uC⟩:=D4;obtain⟨fu,eZ,fc,fo⟩:=C__law_like;refine F.ok sc_law (λvs H Q E h=>?_) (λcdv A outer s H vs Q E hr h=>?_)
 ·obtain⟨a,ns,rfl,_⟩:=h;rfl
 ·obtain⟨a,ns,rfl,hA,hn,k⟩:=h;have big:=sizeLine_eq
  refine⟨_,(ae (am (i:=1) sc_law.nd rfl (Or.inl rfl) (aq DH (hr.mono) rfl zo Ap CK .nil ak (aa (je (m6 (K:=K) rfl) (pv 0) (eQ ac) (eQ ac)) ad)))
   (ae (am (i:=2) sc_law.nd rfl (Or.inl rfl) (aq DF (hr.mono) rfl zm An CI .nil ak (aa (ao (aC (K:=K) rfl) (pv 1) ac (λ_ _=>rfl)) (aa (ag bG ac (ag aH (aq DI (hr.mono) rfl zp Aq CL .nil ak (aa (pv 0) (aa ac ad))) ac)) ad))))
   (ai (ar (bp (aq fu (hr.mono) rfl eZ fc fo .nil ak (aa (aq uP (hr.mono) rfl sD sZ uC .nil rD (aa (pv 2) ad)) (aa (ao (aC (K:=K) rfl) (pv 1) ac (λ_ _=>rfl)) ad))) (bB (aq fu (hr.mono) rfl eZ fc fo .nil ak (aa (aq uP (hr.mono) rfl sD sZ uC .nil rD (aa (pv 2) ad)) (aa (ao (aC (K:=K) rfl) (pv 1) ac (λ_ _=>rfl)) ad))))))))),?_⟩
  refine ay ⟨_,rfl,_,rfl,_,rfl,a,_,rfl,hA,λp hp=>?_⟩;have u1:=Same.upd_new (o:=.lst (cJ (ns.map V.int) (some 1) (some 61))) hp;have lc:=uh (ns.map V.int) (some 1) (some 61);rw[ug,EN,EN]at lc;refine⟨p,pq ns (some 1) (some 61),rfl,by rw[<- ug];exact af,by omega,λav q t ms d rk H1 s1 it gr hf hd=>?_⟩;obtain⟨pt,pm,eq,hT,hM⟩:=it;have hA1:=Same.seq (u1.trans s1) hA;obtain⟨wS,wK⟩:=gr.wfk;obtain⟨t0,et0,lt0⟩:=bw (ns.getD 0 0) 2147483646 (by decide);refine ay ⟨_,rfl,q,_,_,_,rfl,rfl,SqT.of eq,rfl,_,rfl,a,ns,0,rfl,hA1,_,_,rfl,rfl,pos,_,_,rfl,rfl,pm,ms,_,rfl,hM.2,wS,wK,hf,?_,λl hl hm=>?_⟩
  ·rw[et0];exact ET (show(1+(t0:Int)).natAbs<2147483648 by omega) (by decide)
  have ra:=Dd gr hd hm;have hh:t.hgt<=98:=ES gr.hgt (fK hf);have no:∀r,eS (mks 0 l)=.inl r->False:=λr hr=>by rw[ra]at hr;cases hr
  refine aM (aP ⟨_,rfl,l,rfl,hl,λt' ht' q' av' H2 s2 hP hq'=>?_,λr hr=>(no r hr).elim⟩);rw[ra]at ht';cases ht';refine⟨_,rfl,q,_,_,_,rfl,rfl,SqT.of (s2 _ _ eq),rfl,av',av,q',pt,t,rfl,hP,hT.kp (aR s2),gr.ok,hh,λH3 s3=>⟨_,rfl,aB ?_⟩⟩;have s23:=s2.trans s3;refine⟨_,rfl,l,rfl,hl,λt' ht' q2 av2 H4 s4 hP2 hq2=>?_,λr hr=>(no r hr).elim⟩;rw[ra]at ht';cases ht';exact⟨_,rfl,q,_,_,_,rfl,rfl,SqT.of ((s23.trans s4) _ _ eq),rfl,av2,av,q2,pt,t,rfl,hP2,hT.kp (aR (s23.trans s4)),gr.ok,hh,λH5 s5=>k H5⟩
end
theorem all_mk{l:PySem.W.OpenLaw}{w:World}{K:PySem.W.Frag}{h:Heap}{mg:Str->Option Value}{fa CC1 CRatio CWhole CNamed CGiven CMinus CSum CLess CTimes COver CPower CRooted CNoText f1 f2 dt2 f3 f4 f5 f6 f7 f8 f9 f10 f11 f12 f13 f14 f15 f16 f17 f18 f19 f20 f21 f22 f23 f24 f25 f26 f27 f28 f29 f30 f31 f32 f33 f34 f35 f36 f37 f38 f39 f40 f41 f42 f43 f44 f45 f46 f47 f48 f49 f50 f51 f52 f53 f54 f55 f56 f57 f58 f59 f60 tp_WORDS tp_EXPONENTS:Addr}(X:K.In h)(G:h.Ns mainGlobals mg)(hfa:mg "law"=some (.ref fa))
 {od1 an1 od2 an2 odt2 od3 an3 od4 an4 od5 an5 od6 an6 od7 an7 od8 an8 od9 an9 od10 an10 od11 an11 od12 an12 od13 an13 od14 an14 od15 an15 od16 an16 od17 an17 od18 an18 od19 an19 od20 an20 od21 an21 od22 an22 od23 an23 od24 an24 od25 an25 od26 an26 od27 an27 od28 an28 od29 an29 od30 an30 od31 an31 od32 an32 od33 an33 od34 an34 od35 an35 od36 an36 od37 an37 od38 an38 od39 an39 od40 an40 od41 an41 od42 an42 od43 an43 od44 an44 od45 an45 od46 an46 od47 an47 od48 an48 od49 an49 od50 an50 od51 an51 od52 an52 od53 an53 od54 an54 od55 an55 od56 an56 od57 an57 od58 an58 od59 an59 od60 an60 odtp_WORDS odtp_EXPONENTS:Option Addr} {sl1 sl2 slt2 sl3 sl4 sl5 sl6 sl7 sl8 sl9 sl10 sl11 sl12 sl13 sl14 sl15 sl16 sl17 sl18 sl19 sl20 sl21 sl22 sl23 sl24 sl25 sl26 sl27 sl28 sl29 sl30 sl31 sl32 sl33 sl34 sl35 sl36 sl37 sl38 sl39 sl40 sl41 sl42 sl43 sl44 sl45 sl46 sl47 sl48 sl49 sl50 sl51 sl52 sl53 sl54 sl55 sl56 sl57 sl58 sl59 sl60 sltp_WORDS sltp_EXPONENTS:Array (Option Value)} {oc1 kV1 dc1 pm1 cd1 ct1 oc2 kV2 dc2 pm2 cd2 ct2 oct2 oc3 kV3 dc3 pm3 cd3 ct3 oc4 kV4 dc4 pm4 cd4 ct4 oc5 kV5 dc5 pm5 cd5 ct5 oc6 kV6 dc6 pm6 cd6 ct6 oc7 kV7 dc7 pm7 cd7 ct7 oc8 kV8 dc8 pm8 cd8 ct8 oc9 kV9 dc9 pm9 cd9 ct9 oc10 kV10 dc10 pm10 cd10 ct10 oc11 kV11 dc11 pm11 cd11 ct11 oc12 kV12 dc12 pm12 cd12 ct12 oc13 kV13 dc13 pm13 cd13 ct13 oc14 kV14 dc14 pm14 cd14 ct14 oc15 kV15 dc15 pm15 cd15 ct15 oc16 kV16 dc16 pm16 cd16 ct16 oc17 kV17 dc17 pm17 cd17 ct17 oc18 kV18 dc18 pm18 cd18 ct18 oc19 kV19 dc19 pm19 cd19 ct19 oc20 kV20 dc20 pm20 cd20 ct20 oc21 kV21 dc21 pm21 cd21 ct21 oc22 kV22 dc22 pm22 cd22 ct22 oc23 kV23 dc23 pm23 cd23 ct23 oc24 kV24 dc24 pm24 cd24 ct24 oc25 kV25 dc25 pm25 cd25 ct25 oc26 kV26 dc26 pm26 cd26 ct26 oc27 kV27 dc27 pm27 cd27 ct27 oc28 kV28 dc28 pm28 cd28 ct28 oc29 kV29 dc29 pm29 cd29 ct29 oc30 kV30 dc30 pm30 cd30 ct30 oc31 kV31 dc31 pm31 cd31 ct31 oc32 kV32 dc32 pm32 cd32 ct32 oc33 kV33 dc33 pm33 cd33 ct33 oc34 kV34 dc34 pm34 cd34 ct34 oc35 kV35 dc35 pm35 cd35 ct35 oc36 kV36 dc36 pm36 cd36 ct36 oc37 kV37 dc37 pm37 cd37 ct37 oc38 kV38 dc38 pm38 cd38 ct38 oc39 kV39 dc39 pm39 cd39 ct39 oc40 kV40 dc40 pm40 cd40 ct40 oc41 kV41 dc41 pm41 cd41 ct41 oc42 kV42 dc42 pm42 cd42 ct42 oc43 kV43 dc43 pm43 cd43 ct43 oc44 kV44 dc44 pm44 cd44 ct44 oc45 kV45 dc45 pm45 cd45 ct45 oc46 kV46 dc46 pm46 cd46 ct46 oc47 kV47 dc47 pm47 cd47 ct47 oc48 kV48 dc48 pm48 cd48 ct48 oc49 kV49 dc49 pm49 cd49 ct49 oc50 kV50 dc50 pm50 cd50 ct50 oc51 kV51 dc51 pm51 cd51 ct51 oc52 kV52 dc52 pm52 cd52 ct52 oc53 kV53 dc53 pm53 cd53 ct53 oc54 kV54 dc54 pm54 cd54 ct54 oc55 kV55 dc55 pm55 cd55 ct55 oc56 kV56 dc56 pm56 cd56 ct56 oc57 kV57 dc57 pm57 cd57 ct57 oc58 kV58 dc58 pm58 cd58 ct58 oc59 kV59 dc59 pm59 cd59 ct59 oc60 kV60 dc60 pm60 cd60 ct60:Value} {nt2:Nat} {tk2_0:Tok} {tk_LONGEST:Tok} {tk_DEEPEST:Tok} {tk_FIGURES:Tok} {tk_LETTERS:Tok} {ntp_WORDS:Nat} {tk_WORDS_0 tk_WORDS_1 tk_WORDS_2 tk_WORDS_3:Tok} {ntp_EXPONENTS:Nat} {tk_EXPONENTS_0 tk_EXPONENTS_1 tk_EXPONENTS_2 tk_EXPONENTS_3 tk_EXPONENTS_4 tk_EXPONENTS_5 tk_EXPONENTS_6 tk_EXPONENTS_7 tk_EXPONENTS_8:Tok}
 (aC1:PySem.W.nsIn K mainGlobals "Reading"=some (some (.ref CC1)))
 (pg1:PySem.W.plainGet K CC1 Str.empty=true)
 (hd1:PySem.W.hasDictIn K CC1=true)
 (po1:PySem.W.plainOver K CC1=true)
 (sa1:PySem.W.findIn K (.ref CC1) "__setattr__"=some (some (.builtin "object.__setattr__")))
 (mk1:PySem.W.makesIn K CC1=true)
 (kc1:PySem.W.keepIn K (.ref CC1)=true)
 (n1_marks:PySem.W.findIn K (.ref CC1) "marks"=some none)
 (n1_end:PySem.W.findIn K (.ref CC1) "end"=some none)
 (n1_done:PySem.W.findIn K (.ref CC1) "done"=some none)
 (n1_depth:PySem.W.findIn K (.ref CC1) "depth"=some none)
 (aC2:PySem.W.nsIn K mainGlobals "Ratio"=some (some (.ref CRatio)))
 (pg2:PySem.W.plainGet K CRatio Str.empty=true)
 (hd2:PySem.W.hasDictIn K CRatio=true)
 (po2:PySem.W.plainOver K CRatio=true)
 (sa2:PySem.W.findIn K (.ref CRatio) "__setattr__"=some (some (.builtin "object.__setattr__")))
 (mk2:PySem.W.makesIn K CRatio=true)
 (kc2:PySem.W.keepIn K (.ref CRatio)=true)
 (n2_top:PySem.W.findIn K (.ref CRatio) "top"=some none)
 (n2_bottom:PySem.W.findIn K (.ref CRatio) "bottom"=some none)
 (ha2:PySem.W.findIn K (.ref CRatio) "__class__"=some (some (.builtin "object.__class__")))
 (hn2:PySem.W.specialIn K (.builtin "object.__class__") "__get__"=some (some (.builtin "getset_descriptor.__get__")))
 (ht2:PySem.W.takesIn K (.builtin "object.__class__")=some true)
 (hm2:PySem.W.mroIn K CRatio (.type "object")=some true)
 (aC3:PySem.W.nsIn K mainGlobals "Whole"=some (some (.ref CWhole)))
 (pg3:PySem.W.plainGet K CWhole Str.empty=true)
 (hd3:PySem.W.hasDictIn K CWhole=true)
 (po3:PySem.W.plainOver K CWhole=true)
 (sa3:PySem.W.findIn K (.ref CWhole) "__setattr__"=some (some (.builtin "object.__setattr__")))
 (mk3:PySem.W.makesIn K CWhole=true)
 (kc3:PySem.W.keepIn K (.ref CWhole)=true)
 (n3_value:PySem.W.findIn K (.ref CWhole) "value"=some none)
 (ha3:PySem.W.findIn K (.ref CWhole) "__class__"=some (some (.builtin "object.__class__")))
 (hn3:PySem.W.specialIn K (.builtin "object.__class__") "__get__"=some (some (.builtin "getset_descriptor.__get__")))
 (ht3:PySem.W.takesIn K (.builtin "object.__class__")=some true)
 (hm3:PySem.W.mroIn K CWhole (.type "object")=some true)
 (aC4:PySem.W.nsIn K mainGlobals "Named"=some (some (.ref CNamed)))
 (pg4:PySem.W.plainGet K CNamed Str.empty=true)
 (hd4:PySem.W.hasDictIn K CNamed=true)
 (po4:PySem.W.plainOver K CNamed=true)
 (sa4:PySem.W.findIn K (.ref CNamed) "__setattr__"=some (some (.builtin "object.__setattr__")))
 (mk4:PySem.W.makesIn K CNamed=true)
 (kc4:PySem.W.keepIn K (.ref CNamed)=true)
 (n4_word:PySem.W.findIn K (.ref CNamed) "word"=some none)
 (ha4:PySem.W.findIn K (.ref CNamed) "__class__"=some (some (.builtin "object.__class__")))
 (hn4:PySem.W.specialIn K (.builtin "object.__class__") "__get__"=some (some (.builtin "getset_descriptor.__get__")))
 (ht4:PySem.W.takesIn K (.builtin "object.__class__")=some true)
 (hm4:PySem.W.mroIn K CNamed (.type "object")=some true)
 (aC5:PySem.W.nsIn K mainGlobals "Given"=some (some (.ref CGiven)))
 (pg5:PySem.W.plainGet K CGiven Str.empty=true)
 (hd5:PySem.W.hasDictIn K CGiven=true)
 (po5:PySem.W.plainOver K CGiven=true)
 (sa5:PySem.W.findIn K (.ref CGiven) "__setattr__"=some (some (.builtin "object.__setattr__")))
 (mk5:PySem.W.makesIn K CGiven=true)
 (kc5:PySem.W.keepIn K (.ref CGiven)=true)
 (n5_poly:PySem.W.findIn K (.ref CGiven) "poly"=some none)
 (n5_low:PySem.W.findIn K (.ref CGiven) "low"=some none)
 (n5_high:PySem.W.findIn K (.ref CGiven) "high"=some none)
 (ha5:PySem.W.findIn K (.ref CGiven) "__class__"=some (some (.builtin "object.__class__")))
 (hn5:PySem.W.specialIn K (.builtin "object.__class__") "__get__"=some (some (.builtin "getset_descriptor.__get__")))
 (ht5:PySem.W.takesIn K (.builtin "object.__class__")=some true)
 (hm5:PySem.W.mroIn K CGiven (.type "object")=some true)
 (aC6:PySem.W.nsIn K mainGlobals "Minus"=some (some (.ref CMinus)))
 (pg6:PySem.W.plainGet K CMinus Str.empty=true)
 (hd6:PySem.W.hasDictIn K CMinus=true)
 (po6:PySem.W.plainOver K CMinus=true)
 (sa6:PySem.W.findIn K (.ref CMinus) "__setattr__"=some (some (.builtin "object.__setattr__")))
 (mk6:PySem.W.makesIn K CMinus=true)
 (kc6:PySem.W.keepIn K (.ref CMinus)=true)
 (n6_one:PySem.W.findIn K (.ref CMinus) "one"=some none)
 (ha6:PySem.W.findIn K (.ref CMinus) "__class__"=some (some (.builtin "object.__class__")))
 (hn6:PySem.W.specialIn K (.builtin "object.__class__") "__get__"=some (some (.builtin "getset_descriptor.__get__")))
 (ht6:PySem.W.takesIn K (.builtin "object.__class__")=some true)
 (hm6:PySem.W.mroIn K CMinus (.type "object")=some true)
 (aC7:PySem.W.nsIn K mainGlobals "Sum"=some (some (.ref CSum)))
 (pg7:PySem.W.plainGet K CSum Str.empty=true)
 (hd7:PySem.W.hasDictIn K CSum=true)
 (po7:PySem.W.plainOver K CSum=true)
 (sa7:PySem.W.findIn K (.ref CSum) "__setattr__"=some (some (.builtin "object.__setattr__")))
 (mk7:PySem.W.makesIn K CSum=true)
 (kc7:PySem.W.keepIn K (.ref CSum)=true)
 (n7_one:PySem.W.findIn K (.ref CSum) "one"=some none)
 (n7_other:PySem.W.findIn K (.ref CSum) "other"=some none)
 (ha7:PySem.W.findIn K (.ref CSum) "__class__"=some (some (.builtin "object.__class__")))
 (hn7:PySem.W.specialIn K (.builtin "object.__class__") "__get__"=some (some (.builtin "getset_descriptor.__get__")))
 (ht7:PySem.W.takesIn K (.builtin "object.__class__")=some true)
 (hm7:PySem.W.mroIn K CSum (.type "object")=some true)
 (aC8:PySem.W.nsIn K mainGlobals "Less"=some (some (.ref CLess)))
 (pg8:PySem.W.plainGet K CLess Str.empty=true)
 (hd8:PySem.W.hasDictIn K CLess=true)
 (po8:PySem.W.plainOver K CLess=true)
 (sa8:PySem.W.findIn K (.ref CLess) "__setattr__"=some (some (.builtin "object.__setattr__")))
 (mk8:PySem.W.makesIn K CLess=true)
 (kc8:PySem.W.keepIn K (.ref CLess)=true)
 (n8_one:PySem.W.findIn K (.ref CLess) "one"=some none)
 (n8_other:PySem.W.findIn K (.ref CLess) "other"=some none)
 (ha8:PySem.W.findIn K (.ref CLess) "__class__"=some (some (.builtin "object.__class__")))
 (hn8:PySem.W.specialIn K (.builtin "object.__class__") "__get__"=some (some (.builtin "getset_descriptor.__get__")))
 (ht8:PySem.W.takesIn K (.builtin "object.__class__")=some true)
 (hm8:PySem.W.mroIn K CLess (.type "object")=some true)
 (aC9:PySem.W.nsIn K mainGlobals "Times"=some (some (.ref CTimes)))
 (pg9:PySem.W.plainGet K CTimes Str.empty=true)
 (hd9:PySem.W.hasDictIn K CTimes=true)
 (po9:PySem.W.plainOver K CTimes=true)
 (sa9:PySem.W.findIn K (.ref CTimes) "__setattr__"=some (some (.builtin "object.__setattr__")))
 (mk9:PySem.W.makesIn K CTimes=true)
 (kc9:PySem.W.keepIn K (.ref CTimes)=true)
 (n9_one:PySem.W.findIn K (.ref CTimes) "one"=some none)
 (n9_other:PySem.W.findIn K (.ref CTimes) "other"=some none)
 (ha9:PySem.W.findIn K (.ref CTimes) "__class__"=some (some (.builtin "object.__class__")))
 (hn9:PySem.W.specialIn K (.builtin "object.__class__") "__get__"=some (some (.builtin "getset_descriptor.__get__")))
 (ht9:PySem.W.takesIn K (.builtin "object.__class__")=some true)
 (hm9:PySem.W.mroIn K CTimes (.type "object")=some true)
 (aC10:PySem.W.nsIn K mainGlobals "Over"=some (some (.ref COver)))
 (pg10:PySem.W.plainGet K COver Str.empty=true)
 (hd10:PySem.W.hasDictIn K COver=true)
 (po10:PySem.W.plainOver K COver=true)
 (sa10:PySem.W.findIn K (.ref COver) "__setattr__"=some (some (.builtin "object.__setattr__")))
 (mk10:PySem.W.makesIn K COver=true)
 (kc10:PySem.W.keepIn K (.ref COver)=true)
 (n10_one:PySem.W.findIn K (.ref COver) "one"=some none)
 (n10_other:PySem.W.findIn K (.ref COver) "other"=some none)
 (ha10:PySem.W.findIn K (.ref COver) "__class__"=some (some (.builtin "object.__class__")))
 (hn10:PySem.W.specialIn K (.builtin "object.__class__") "__get__"=some (some (.builtin "getset_descriptor.__get__")))
 (ht10:PySem.W.takesIn K (.builtin "object.__class__")=some true)
 (hm10:PySem.W.mroIn K COver (.type "object")=some true)
 (aC11:PySem.W.nsIn K mainGlobals "Power"=some (some (.ref CPower)))
 (pg11:PySem.W.plainGet K CPower Str.empty=true)
 (hd11:PySem.W.hasDictIn K CPower=true)
 (po11:PySem.W.plainOver K CPower=true)
 (sa11:PySem.W.findIn K (.ref CPower) "__setattr__"=some (some (.builtin "object.__setattr__")))
 (mk11:PySem.W.makesIn K CPower=true)
 (kc11:PySem.W.keepIn K (.ref CPower)=true)
 (n11_one:PySem.W.findIn K (.ref CPower) "one"=some none)
 (n11_power:PySem.W.findIn K (.ref CPower) "power"=some none)
 (ha11:PySem.W.findIn K (.ref CPower) "__class__"=some (some (.builtin "object.__class__")))
 (hn11:PySem.W.specialIn K (.builtin "object.__class__") "__get__"=some (some (.builtin "getset_descriptor.__get__")))
 (ht11:PySem.W.takesIn K (.builtin "object.__class__")=some true)
 (hm11:PySem.W.mroIn K CPower (.type "object")=some true)
 (aC12:PySem.W.nsIn K mainGlobals "Rooted"=some (some (.ref CRooted)))
 (pg12:PySem.W.plainGet K CRooted Str.empty=true)
 (hd12:PySem.W.hasDictIn K CRooted=true)
 (po12:PySem.W.plainOver K CRooted=true)
 (sa12:PySem.W.findIn K (.ref CRooted) "__setattr__"=some (some (.builtin "object.__setattr__")))
 (mk12:PySem.W.makesIn K CRooted=true)
 (kc12:PySem.W.keepIn K (.ref CRooted)=true)
 (n12_one:PySem.W.findIn K (.ref CRooted) "one"=some none)
 (n12_power:PySem.W.findIn K (.ref CRooted) "power"=some none)
 (ha12:PySem.W.findIn K (.ref CRooted) "__class__"=some (some (.builtin "object.__class__")))
 (hn12:PySem.W.specialIn K (.builtin "object.__class__") "__get__"=some (some (.builtin "getset_descriptor.__get__")))
 (ht12:PySem.W.takesIn K (.builtin "object.__class__")=some true)
 (hm12:PySem.W.mroIn K CRooted (.type "object")=some true)
 (aENoText:PySem.W.nsIn K mainGlobals "NoText"=some (some (.ref CNoText)))
 (e0NoText:PySem.W.findIn K (.ref CNoText) "__getattribute__"=some (some (.builtin "BaseException.__getattribute__")))
 (e1NoText:PySem.W.findIn K (.ref CNoText) "__getattr__"=some none)
 (e2NoText:PySem.W.mroIn K CNoText (.type "BaseException")=some true)
 (e3NoText:PySem.W.findIn K (.ref CNoText) "__class__"=some (some (.builtin "object.__class__")))
 (e4NoText:PySem.W.specialIn K (.builtin "object.__class__") "__get__"=some (some (.builtin "getset_descriptor.__get__")))
 (e5NoText:PySem.W.takesIn K (.builtin "object.__class__")=some true)
 (e6NoText:PySem.W.mroIn K CNoText (.type "object")=some true)
 (yXNoText:pc K CNoText f19 iO "ValueError.__new__"=true)
 (yCNoText:mw K CNoText=true)
 (yKNoText:PySem.W.keepIn K (.ref CNoText)=true)
 (yNNoText:PySem.W.findIn K (.ref CNoText) "at"=some none)
 (a1:PySem.W.nsIn K mainGlobals "shared_by_two"=some (some (.ref f1)))
 (l1:K.lookup f1=some ⟨oc1,od1,.func (PySem.W.fnOf "shared_by_two" "shared_by_two" (aw gl) (au gl) (ah gl) .none kV1 dc1 pm1 an1 cd1 ct1),sl1⟩) (c1:PySem.W.codeIn K cd1 "shared_by_two"=true) (k1:PySem.W.keepIn K (.ref f1)=true)
 (a2:PySem.W.findIn K (.ref CRatio) "__init__"=some (some (.ref f2))) (i2:PySem.W.isFn K (.ref f2)=true)
 (l2:K.lookup f2=some ⟨oc2,od2,.func (PySem.W.fnOf "__init__" "Ratio.__init__" (aw ia) (au ia) (ah ia) (.ref dt2) kV2 dc2 pm2 an2 cd2 ct2),sl2⟩) (c2:PySem.W.codeIn K cd2 "Ratio.__init__"=true) (k2:PySem.W.keepIn K (.ref f2)=true)
 (t2:K.lookup dt2=some ⟨oct2,odt2,.seq #[.int 1 tk2_0] nt2,slt2⟩)
 (a3:PySem.W.findIn K (.ref CWhole) "__init__"=some (some (.ref f3))) (i3:PySem.W.isFn K (.ref f3)=true)
 (l3:K.lookup f3=some ⟨oc3,od3,.func (PySem.W.fnOf "__init__" "Whole.__init__" (aw gT) (au gT) (ah gT) .none kV3 dc3 pm3 an3 cd3 ct3),sl3⟩) (c3:PySem.W.codeIn K cd3 "Whole.__init__"=true) (k3:PySem.W.keepIn K (.ref f3)=true)
 (a4:PySem.W.findIn K (.ref CNamed) "__init__"=some (some (.ref f4))) (i4:PySem.W.isFn K (.ref f4)=true)
 (l4:K.lookup f4=some ⟨oc4,od4,.func (PySem.W.fnOf "__init__" "Named.__init__" (aw ig) (au ig) (ah ig) .none kV4 dc4 pm4 an4 cd4 ct4),sl4⟩) (c4:PySem.W.codeIn K cd4 "Named.__init__"=true) (k4:PySem.W.keepIn K (.ref f4)=true)
 (a5:PySem.W.findIn K (.ref CGiven) "__init__"=some (some (.ref f5))) (i5:PySem.W.isFn K (.ref f5)=true)
 (l5:K.lookup f5=some ⟨oc5,od5,.func (PySem.W.fnOf "__init__" "Given.__init__" (aw ik) (au ik) (ah ik) .none kV5 dc5 pm5 an5 cd5 ct5),sl5⟩) (c5:PySem.W.codeIn K cd5 "Given.__init__"=true) (k5:PySem.W.keepIn K (.ref f5)=true)
 (a6:PySem.W.findIn K (.ref CMinus) "__init__"=some (some (.ref f6))) (i6:PySem.W.isFn K (.ref f6)=true)
 (l6:K.lookup f6=some ⟨oc6,od6,.func (PySem.W.fnOf "__init__" "Minus.__init__" (aw ii) (au ii) (ah ii) .none kV6 dc6 pm6 an6 cd6 ct6),sl6⟩) (c6:PySem.W.codeIn K cd6 "Minus.__init__"=true) (k6:PySem.W.keepIn K (.ref f6)=true)
 (a7:PySem.W.findIn K (.ref CSum) "__init__"=some (some (.ref f7))) (i7:PySem.W.isFn K (.ref f7)=true)
 (l7:K.lookup f7=some ⟨oc7,od7,.func (PySem.W.fnOf "__init__" "Sum.__init__" (aw gW) (au gW) (ah gW) .none kV7 dc7 pm7 an7 cd7 ct7),sl7⟩) (c7:PySem.W.codeIn K cd7 "Sum.__init__"=true) (k7:PySem.W.keepIn K (.ref f7)=true)
 (a8:PySem.W.findIn K (.ref CLess) "__init__"=some (some (.ref f8))) (i8:PySem.W.isFn K (.ref f8)=true)
 (l8:K.lookup f8=some ⟨oc8,od8,.func (PySem.W.fnOf "__init__" "Less.__init__" (aw ij) (au ij) (ah ij) .none kV8 dc8 pm8 an8 cd8 ct8),sl8⟩) (c8:PySem.W.codeIn K cd8 "Less.__init__"=true) (k8:PySem.W.keepIn K (.ref f8)=true)
 (a9:PySem.W.findIn K (.ref CTimes) "__init__"=some (some (.ref f9))) (i9:PySem.W.isFn K (.ref f9)=true)
 (l9:K.lookup f9=some ⟨oc9,od9,.func (PySem.W.fnOf "__init__" "Times.__init__" (aw gU) (au gU) (ah gU) .none kV9 dc9 pm9 an9 cd9 ct9),sl9⟩) (c9:PySem.W.codeIn K cd9 "Times.__init__"=true) (k9:PySem.W.keepIn K (.ref f9)=true)
 (a10:PySem.W.findIn K (.ref COver) "__init__"=some (some (.ref f10))) (i10:PySem.W.isFn K (.ref f10)=true)
 (l10:K.lookup f10=some ⟨oc10,od10,.func (PySem.W.fnOf "__init__" "Over.__init__" (aw ic) (au ic) (ah ic) .none kV10 dc10 pm10 an10 cd10 ct10),sl10⟩) (c10:PySem.W.codeIn K cd10 "Over.__init__"=true) (k10:PySem.W.keepIn K (.ref f10)=true)
 (a11:PySem.W.findIn K (.ref CPower) "__init__"=some (some (.ref f11))) (i11:PySem.W.isFn K (.ref f11)=true)
 (l11:K.lookup f11=some ⟨oc11,od11,.func (PySem.W.fnOf "__init__" "Power.__init__" (aw ib) (au ib) (ah ib) .none kV11 dc11 pm11 an11 cd11 ct11),sl11⟩) (c11:PySem.W.codeIn K cd11 "Power.__init__"=true) (k11:PySem.W.keepIn K (.ref f11)=true)
 (a12:PySem.W.findIn K (.ref CRooted) "__init__"=some (some (.ref f12))) (i12:PySem.W.isFn K (.ref f12)=true)
 (l12:K.lookup f12=some ⟨oc12,od12,.func (PySem.W.fnOf "__init__" "Rooted.__init__" (aw gX) (au gX) (ah gX) .none kV12 dc12 pm12 an12 cd12 ct12),sl12⟩) (c12:PySem.W.codeIn K cd12 "Rooted.__init__"=true) (k12:PySem.W.keepIn K (.ref f12)=true)
 (a13:PySem.W.nsIn K mainGlobals "poly"=some (some (.ref f13)))
 (l13:K.lookup f13=some ⟨oc13,od13,.func (PySem.W.fnOf "poly" "poly" (aw gy) (au gy) (ah gy) .none kV13 dc13 pm13 an13 cd13 ct13),sl13⟩) (c13:PySem.W.codeIn K cd13 "poly"=true) (k13:PySem.W.keepIn K (.ref f13)=true)
 (a14:PySem.W.nsIn K mainGlobals "coefficient"=some (some (.ref f14)))
 (l14:K.lookup f14=some ⟨oc14,od14,.func (PySem.W.fnOf "coefficient" "coefficient" (aw gE) (au gE) (ah gE) .none kV14 dc14 pm14 an14 cd14 ct14),sl14⟩) (c14:PySem.W.codeIn K cd14 "coefficient"=true) (k14:PySem.W.keepIn K (.ref f14)=true)
 (a15:PySem.W.nsIn K mainGlobals "added"=some (some (.ref f15)))
 (l15:K.lookup f15=some ⟨oc15,od15,.func (PySem.W.fnOf "added" "added" (aw gF) (au gF) (ah gF) .none kV15 dc15 pm15 an15 cd15 ct15),sl15⟩) (c15:PySem.W.codeIn K cd15 "added"=true) (k15:PySem.W.keepIn K (.ref f15)=true)
 (a16:PySem.W.nsIn K mainGlobals "run_end"=some (some (.ref f16)))
 (l16:K.lookup f16=some ⟨oc16,od16,.func (PySem.W.fnOf "run_end" "run_end" (aw gm) (au gm) (ah gm) .none kV16 dc16 pm16 an16 cd16 ct16),sl16⟩) (c16:PySem.W.codeIn K cd16 "run_end"=true) (k16:PySem.W.keepIn K (.ref f16)=true)
 (a17:PySem.W.nsIn K mainGlobals "mark_end"=some (some (.ref f17)))
 (l17:K.lookup f17=some ⟨oc17,od17,.func (PySem.W.fnOf "mark_end" "mark_end" (aw gA) (au gA) (ah gA) .none kV17 dc17 pm17 an17 cd17 ct17),sl17⟩) (c17:PySem.W.codeIn K cd17 "mark_end"=true) (k17:PySem.W.keepIn K (.ref f17)=true)
 (a18:PySem.W.nsIn K mainGlobals "marks_of"=some (some (.ref f18)))
 (l18:K.lookup f18=some ⟨oc18,od18,.func (PySem.W.fnOf "marks_of" "marks_of" (aw gz) (au gz) (ah gz) .none kV18 dc18 pm18 an18 cd18 ct18),sl18⟩) (c18:PySem.W.codeIn K cd18 "marks_of"=true) (k18:PySem.W.keepIn K (.ref f18)=true)
 (a19:PySem.W.findIn K (.ref CNoText) "__init__"=some (some (.ref f19)))
 (l19:K.lookup f19=some ⟨oc19,od19,.func (PySem.W.fnOf "__init__" "NoText.__init__" (aw ie) (au ie) (ah ie) .none kV19 dc19 pm19 an19 cd19 ct19),sl19⟩) (c19:PySem.W.codeIn K cd19 "NoText.__init__"=true) (k19:PySem.W.keepIn K (.ref f19)=true)
 (a20:PySem.W.findIn K (.ref CC1) "__init__"=some (some (.ref f20))) (i20:PySem.W.isFn K (.ref f20)=true)
 (l20:K.lookup f20=some ⟨oc20,od20,.func (PySem.W.fnOf "__init__" "Reading.__init__" (aw hZ) (au hZ) (ah hZ) .none kV20 dc20 pm20 an20 cd20 ct20),sl20⟩) (c20:PySem.W.codeIn K cd20 "Reading.__init__"=true) (k20:PySem.W.keepIn K (.ref f20)=true)
 (a21:PySem.W.findIn K (.ref CC1) "seen"=some (some (.ref f21))) (i21:PySem.W.isFn K (.ref f21)=true)
 (l21:K.lookup f21=some ⟨oc21,od21,.func (PySem.W.fnOf "seen" "Reading.seen" (aw gZ) (au gZ) (ah gZ) .none kV21 dc21 pm21 an21 cd21 ct21),sl21⟩) (c21:PySem.W.codeIn K cd21 "Reading.seen"=true) (k21:PySem.W.keepIn K (.ref f21)=true)
 (a22:PySem.W.findIn K (.ref CC1) "begin"=some (some (.ref f22))) (i22:PySem.W.isFn K (.ref f22)=true)
 (l22:K.lookup f22=some ⟨oc22,od22,.func (PySem.W.fnOf "begin" "Reading.begin" (aw hV) (au hV) (ah hV) .none kV22 dc22 pm22 an22 cd22 ct22),sl22⟩) (c22:PySem.W.codeIn K cd22 "Reading.begin"=true) (k22:PySem.W.keepIn K (.ref f22)=true)
 (a23:PySem.W.findIn K (.ref CC1) "step"=some (some (.ref f23))) (i23:PySem.W.isFn K (.ref f23)=true)
 (l23:K.lookup f23=some ⟨oc23,od23,.func (PySem.W.fnOf "step" "Reading.step" (aw gY) (au gY) (ah gY) .none kV23 dc23 pm23 an23 cd23 ct23),sl23⟩) (c23:PySem.W.codeIn K cd23 "Reading.step"=true) (k23:PySem.W.keepIn K (.ref f23)=true)
 (a24:PySem.W.findIn K (.ref CC1) "passes"=some (some (.ref f24))) (i24:PySem.W.isFn K (.ref f24)=true)
 (l24:K.lookup f24=some ⟨oc24,od24,.func (PySem.W.fnOf "passes" "Reading.passes" (aw g7) (au g7) (ah g7) .none kV24 dc24 pm24 an24 cd24 ct24),sl24⟩) (c24:PySem.W.codeIn K cd24 "Reading.passes"=true) (k24:PySem.W.keepIn K (.ref f24)=true)
 (a25:PySem.W.findIn K (.ref CC1) "demand"=some (some (.ref f25))) (i25:PySem.W.isFn K (.ref f25)=true)
 (l25:K.lookup f25=some ⟨oc25,od25,.func (PySem.W.fnOf "demand" "Reading.demand" (aw hU) (au hU) (ah hU) .none kV25 dc25 pm25 an25 cd25 ct25),sl25⟩) (c25:PySem.W.codeIn K cd25 "Reading.demand"=true) (k25:PySem.W.keepIn K (.ref f25)=true)
 (a26:PySem.W.findIn K (.ref CC1) "enter"=some (some (.ref f26))) (i26:PySem.W.isFn K (.ref f26)=true)
 (l26:K.lookup f26=some ⟨oc26,od26,.func (PySem.W.fnOf "enter" "Reading.enter" (aw hJ) (au hJ) (ah hJ) .none kV26 dc26 pm26 an26 cd26 ct26),sl26⟩) (c26:PySem.W.codeIn K cd26 "Reading.enter"=true) (k26:PySem.W.keepIn K (.ref f26)=true)
 (a27:PySem.W.findIn K (.ref CC1) "leave"=some (some (.ref f27))) (i27:PySem.W.isFn K (.ref f27)=true)
 (l27:K.lookup f27=some ⟨oc27,od27,.func (PySem.W.fnOf "leave" "Reading.leave" (aw g8) (au g8) (ah g8) .none kV27 dc27 pm27 an27 cd27 ct27),sl27⟩) (c27:PySem.W.codeIn K cd27 "Reading.leave"=true) (k27:PySem.W.keepIn K (.ref f27)=true)
 (a28:PySem.W.findIn K (.ref CC1) "finish"=some (some (.ref f28))) (i28:PySem.W.isFn K (.ref f28)=true)
 (l28:K.lookup f28=some ⟨oc28,od28,.func (PySem.W.fnOf "finish" "Reading.finish" (aw g9) (au g9) (ah g9) .none kV28 dc28 pm28 an28 cd28 ct28),sl28⟩) (c28:PySem.W.codeIn K cd28 "Reading.finish"=true) (k28:PySem.W.keepIn K (.ref f28)=true)
 (a29:PySem.W.nsIn K mainGlobals "made_of"=some (some (.ref f29)))
 (l29:K.lookup f29=some ⟨oc29,od29,.func (PySem.W.fnOf "made_of" "made_of" (aw gB) (au gB) (ah gB) .none kV29 dc29 pm29 an29 cd29 ct29),sl29⟩) (c29:PySem.W.codeIn K cd29 "made_of"=true) (k29:PySem.W.keepIn K (.ref f29)=true)
 (a30:PySem.W.nsIn K mainGlobals "is_whole"=some (some (.ref f30)))
 (l30:K.lookup f30=some ⟨oc30,od30,.func (PySem.W.fnOf "is_whole" "is_whole" (aw gC) (au gC) (ah gC) .none kV30 dc30 pm30 an30 cd30 ct30),sl30⟩) (c30:PySem.W.codeIn K cd30 "is_whole"=true) (k30:PySem.W.keepIn K (.ref f30)=true)
 (a31:PySem.W.nsIn K mainGlobals "is_name"=some (some (.ref f31)))
 (l31:K.lookup f31=some ⟨oc31,od31,.func (PySem.W.fnOf "is_name" "is_name" (aw gD) (au gD) (ah gD) .none kV31 dc31 pm31 an31 cd31 ct31),sl31⟩) (c31:PySem.W.codeIn K cd31 "is_name"=true) (k31:PySem.W.keepIn K (.ref f31)=true)
 (a32:PySem.W.nsIn K mainGlobals "read_whole"=some (some (.ref f32)))
 (l32:K.lookup f32=some ⟨oc32,od32,.func (PySem.W.fnOf "read_whole" "read_whole" (aw gp) (au gp) (ah gp) .none kV32 dc32 pm32 an32 cd32 ct32),sl32⟩) (c32:PySem.W.codeIn K cd32 "read_whole"=true) (k32:PySem.W.keepIn K (.ref f32)=true)
 (a33:PySem.W.nsIn K mainGlobals "read_fraction"=some (some (.ref f33)))
 (l33:K.lookup f33=some ⟨oc33,od33,.func (PySem.W.fnOf "read_fraction" "read_fraction" (aw gv) (au gv) (ah gv) .none kV33 dc33 pm33 an33 cd33 ct33),sl33⟩) (c33:PySem.W.codeIn K cd33 "read_fraction"=true) (k33:PySem.W.keepIn K (.ref f33)=true)
 (a34:PySem.W.nsIn K mainGlobals "read_exponent"=some (some (.ref f34)))
 (l34:K.lookup f34=some ⟨oc34,od34,.func (PySem.W.fnOf "read_exponent" "read_exponent" (aw gw) (au gw) (ah gw) .none kV34 dc34 pm34 an34 cd34 ct34),sl34⟩) (c34:PySem.W.codeIn K cd34 "read_exponent"=true) (k34:PySem.W.keepIn K (.ref f34)=true)
 (a35:PySem.W.nsIn K mainGlobals "read_place"=some (some (.ref f35)))
 (l35:K.lookup f35=some ⟨oc35,od35,.func (PySem.W.fnOf "read_place" "read_place" (aw gt) (au gt) (ah gt) .none kV35 dc35 pm35 an35 cd35 ct35),sl35⟩) (c35:PySem.W.codeIn K cd35 "read_place"=true) (k35:PySem.W.keepIn K (.ref f35)=true)
 (a36:PySem.W.nsIn K mainGlobals "read_term"=some (some (.ref f36)))
 (l36:K.lookup f36=some ⟨oc36,od36,.func (PySem.W.fnOf "read_term" "read_term" (aw gs) (au gs) (ah gs) .none kV36 dc36 pm36 an36 cd36 ct36),sl36⟩) (c36:PySem.W.codeIn K cd36 "read_term"=true) (k36:PySem.W.keepIn K (.ref f36)=true)
 (a37:PySem.W.nsIn K mainGlobals "read_terms"=some (some (.ref f37)))
 (l37:K.lookup f37=some ⟨oc37,od37,.func (PySem.W.fnOf "read_terms" "read_terms" (aw gq) (au gq) (ah gq) .none kV37 dc37 pm37 an37 cd37 ct37),sl37⟩) (c37:PySem.W.codeIn K cd37 "read_terms"=true) (k37:PySem.W.keepIn K (.ref f37)=true)
 (a38:PySem.W.nsIn K mainGlobals "read_given"=some (some (.ref f38)))
 (l38:K.lookup f38=some ⟨oc38,od38,.func (PySem.W.fnOf "read_given" "read_given" (aw gu) (au gu) (ah gu) .none kV38 dc38 pm38 an38 cd38 ct38),sl38⟩) (c38:PySem.W.codeIn K cd38 "read_given"=true) (k38:PySem.W.keepIn K (.ref f38)=true)
 (a39:PySem.W.nsIn K mainGlobals "read_brackets"=some (some (.ref f39)))
 (l39:K.lookup f39=some ⟨oc39,od39,.func (PySem.W.fnOf "read_brackets" "read_brackets" (aw dN) (au dN) (ah dN) .none kV39 dc39 pm39 an39 cd39 ct39),sl39⟩) (c39:PySem.W.codeIn K cd39 "read_brackets"=true) (k39:PySem.W.keepIn K (.ref f39)=true)
 (a40:PySem.W.nsIn K mainGlobals "read_atom"=some (some (.ref f40)))
 (l40:K.lookup f40=some ⟨oc40,od40,.func (PySem.W.fnOf "read_atom" "read_atom" (aw dO) (au dO) (ah dO) .none kV40 dc40 pm40 an40 cd40 ct40),sl40⟩) (c40:PySem.W.codeIn K cd40 "read_atom"=true) (k40:PySem.W.keepIn K (.ref f40)=true)
 (a41:PySem.W.nsIn K mainGlobals "read_power"=some (some (.ref f41)))
 (l41:K.lookup f41=some ⟨oc41,od41,.func (PySem.W.fnOf "read_power" "read_power" (aw dL) (au dL) (ah dL) .none kV41 dc41 pm41 an41 cd41 ct41),sl41⟩) (c41:PySem.W.codeIn K cd41 "read_power"=true) (k41:PySem.W.keepIn K (.ref f41)=true)
 (a42:PySem.W.nsIn K mainGlobals "read_factor"=some (some (.ref f42)))
 (l42:K.lookup f42=some ⟨oc42,od42,.func (PySem.W.fnOf "read_factor" "read_factor" (aw dM) (au dM) (ah dM) .none kV42 dc42 pm42 an42 cd42 ct42),sl42⟩) (c42:PySem.W.codeIn K cd42 "read_factor"=true) (k42:PySem.W.keepIn K (.ref f42)=true)
 (a43:PySem.W.nsIn K mainGlobals "read_product"=some (some (.ref f43)))
 (l43:K.lookup f43=some ⟨oc43,od43,.func (PySem.W.fnOf "read_product" "read_product" (aw dJ) (au dJ) (ah dJ) .none kV43 dc43 pm43 an43 cd43 ct43),sl43⟩) (c43:PySem.W.codeIn K cd43 "read_product"=true) (k43:PySem.W.keepIn K (.ref f43)=true)
 (a44:PySem.W.nsIn K mainGlobals "read_sum"=some (some (.ref f44)))
 (l44:K.lookup f44=some ⟨oc44,od44,.func (PySem.W.fnOf "read_sum" "read_sum" (aw dw) (au dw) (ah dw) .none kV44 dc44 pm44 an44 cd44 ct44),sl44⟩) (c44:PySem.W.codeIn K cd44 "read_sum"=true) (k44:PySem.W.keepIn K (.ref f44)=true)
 (a45:PySem.W.nsIn K mainGlobals "read"=some (some (.ref f45)))
 (l45:K.lookup f45=some ⟨oc45,od45,.func (PySem.W.fnOf "read" "read" (aw gx) (au gx) (ah gx) .none kV45 dc45 pm45 an45 cd45 ct45),sl45⟩) (c45:PySem.W.codeIn K cd45 "read"=true) (k45:PySem.W.keepIn K (.ref f45)=true)
 (a46:PySem.W.nsIn K mainGlobals "_law_within"=some (some (.ref f46)))
 (l46:K.lookup f46=some ⟨oc46,od46,.func (PySem.W.fnOf "_law_within" "_law_within" (aw gH) (au gH) (ah gH) .none kV46 dc46 pm46 an46 cd46 ct46),sl46⟩) (c46:PySem.W.codeIn K cd46 "_law_within"=true) (k46:PySem.W.keepIn K (.ref f46)=true)
 (a47:PySem.W.nsIn K mainGlobals "_law_alone"=some (some (.ref f47)))
 (l47:K.lookup f47=some ⟨oc47,od47,.func (PySem.W.fnOf "_law_alone" "_law_alone" (aw gS) (au gS) (ah gS) .none kV47 dc47 pm47 an47 cd47 ct47),sl47⟩) (c47:PySem.W.codeIn K cd47 "_law_alone"=true) (k47:PySem.W.keepIn K (.ref f47)=true)
 (a48:PySem.W.nsIn K mainGlobals "_law_fits"=some (some (.ref f48)))
 (l48:K.lookup f48=some ⟨oc48,od48,.func (PySem.W.fnOf "_law_fits" "_law_fits" (aw gN) (au gN) (ah gN) .none kV48 dc48 pm48 an48 cd48 ct48),sl48⟩) (c48:PySem.W.codeIn K cd48 "_law_fits"=true) (k48:PySem.W.keepIn K (.ref f48)=true)
 (a49:PySem.W.nsIn K mainGlobals "_law_joined"=some (some (.ref f49)))
 (l49:K.lookup f49=some ⟨oc49,od49,.func (PySem.W.fnOf "_law_joined" "_law_joined" (aw gK) (au gK) (ah gK) .none kV49 dc49 pm49 an49 cd49 ct49),sl49⟩) (c49:PySem.W.codeIn K cd49 "_law_joined"=true) (k49:PySem.W.keepIn K (.ref f49)=true)
 (a50:PySem.W.nsIn K mainGlobals "_law_word"=some (some (.ref f50)))
 (l50:K.lookup f50=some ⟨oc50,od50,.func (PySem.W.fnOf "_law_word" "_law_word" (aw gG) (au gG) (ah gG) .none kV50 dc50 pm50 an50 cd50 ct50),sl50⟩) (c50:PySem.W.codeIn K cd50 "_law_word"=true) (k50:PySem.W.keepIn K (.ref f50)=true)
 (a51:PySem.W.nsIn K mainGlobals "_law_given"=some (some (.ref f51)))
 (l51:K.lookup f51=some ⟨oc51,od51,.func (PySem.W.fnOf "_law_given" "_law_given" (aw gL) (au gL) (ah gL) .none kV51 dc51 pm51 an51 cd51 ct51),sl51⟩) (c51:PySem.W.codeIn K cd51 "_law_given"=true) (k51:PySem.W.keepIn K (.ref f51)=true)
 (a52:PySem.W.nsIn K mainGlobals "_law_atom"=some (some (.ref f52)))
 (l52:K.lookup f52=some ⟨oc52,od52,.func (PySem.W.fnOf "_law_atom" "_law_atom" (aw gR) (au gR) (ah gR) .none kV52 dc52 pm52 an52 cd52 ct52),sl52⟩) (c52:PySem.W.codeIn K cd52 "_law_atom"=true) (k52:PySem.W.keepIn K (.ref f52)=true)
 (a53:PySem.W.nsIn K mainGlobals "_law_both"=some (some (.ref f53)))
 (l53:K.lookup f53=some ⟨oc53,od53,.func (PySem.W.fnOf "_law_both" "_law_both" (aw gQ) (au gQ) (ah gQ) .none kV53 dc53 pm53 an53 cd53 ct53),sl53⟩) (c53:PySem.W.codeIn K cd53 "_law_both"=true) (k53:PySem.W.keepIn K (.ref f53)=true)
 (a54:PySem.W.nsIn K mainGlobals "_law_drawn"=some (some (.ref f54)))
 (l54:K.lookup f54=some ⟨oc54,od54,.func (PySem.W.fnOf "_law_drawn" "_law_drawn" (aw gO) (au gO) (ah gO) .none kV54 dc54 pm54 an54 cd54 ct54),sl54⟩) (c54:PySem.W.codeIn K cd54 "_law_drawn"=true) (k54:PySem.W.keepIn K (.ref f54)=true)
 (a55:PySem.W.nsIn K mainGlobals "_law_cell"=some (some (.ref f55)))
 (l55:K.lookup f55=some ⟨oc55,od55,.func (PySem.W.fnOf "_law_cell" "_law_cell" (aw gP) (au gP) (ah gP) .none kV55 dc55 pm55 an55 cd55 ct55),sl55⟩) (c55:PySem.W.codeIn K cd55 "_law_cell"=true) (k55:PySem.W.keepIn K (.ref f55)=true)
 (a56:PySem.W.nsIn K mainGlobals "_law_whole"=some (some (.ref f56)))
 (l56:K.lookup f56=some ⟨oc56,od56,.func (PySem.W.fnOf "_law_whole" "_law_whole" (aw gI) (au gI) (ah gI) .none kV56 dc56 pm56 an56 cd56 ct56),sl56⟩) (c56:PySem.W.codeIn K cd56 "_law_whole"=true) (k56:PySem.W.keepIn K (.ref f56)=true)
 (a57:PySem.W.nsIn K mainGlobals "_law_ratio"=some (some (.ref f57)))
 (l57:K.lookup f57=some ⟨oc57,od57,.func (PySem.W.fnOf "_law_ratio" "_law_ratio" (aw gJ) (au gJ) (ah gJ) .none kV57 dc57 pm57 an57 cd57 ct57),sl57⟩) (c57:PySem.W.codeIn K cd57 "_law_ratio"=true) (k57:PySem.W.keepIn K (.ref f57)=true)
 (a58:PySem.W.nsIn K mainGlobals "_law_like_leaf"=some (some (.ref f58)))
 (l58:K.lookup f58=some ⟨oc58,od58,.func (PySem.W.fnOf "_law_like_leaf" "_law_like_leaf" (aw eJ) (au eJ) (ah eJ) .none kV58 dc58 pm58 an58 cd58 ct58),sl58⟩) (c58:PySem.W.codeIn K cd58 "_law_like_leaf"=true) (k58:PySem.W.keepIn K (.ref f58)=true)
 (a59:PySem.W.nsIn K mainGlobals "_law_like"=some (some (.ref f59)))
 (l59:K.lookup f59=some ⟨oc59,od59,.func (PySem.W.fnOf "_law_like" "_law_like" (aw dQ) (au dQ) (ah dQ) .none kV59 dc59 pm59 an59 cd59 ct59),sl59⟩) (c59:PySem.W.codeIn K cd59 "_law_like"=true) (k59:PySem.W.keepIn K (.ref f59)=true)
 (a60:PySem.W.nsIn K mainGlobals "law"=some (some (.ref f60)))
 (l60:K.lookup f60=some ⟨oc60,od60,.func (PySem.W.fnOf "law" "law" (aw dP) (au dP) (ah dP) .none kV60 dc60 pm60 an60 cd60 ct60),sl60⟩) (c60:PySem.W.codeIn K cd60 "law"=true) (k60:PySem.W.keepIn K (.ref f60)=true)
 (z0:PySem.W.nsIn K mainGlobals "len"=some none)
 (z1:PySem.W.nsIn K mainGlobals "all"=some none)
 (z2:PySem.W.nsIn K mainGlobals "abs"=some none)
 (z3:PySem.W.nsIn K mainGlobals "str"=some none)
 (z4:PySem.W.nsIn K mainGlobals "max"=some none)
 (z5:PySem.W.nsIn K mainGlobals "range"=some none)
 (z6:PySem.W.nsIn K mainGlobals "list"=some none)
 (z7:PySem.W.nsIn K mainGlobals "isinstance"=some none)
 (z8:PySem.W.nsIn K mainGlobals "int"=some none)
 (z9:PySem.W.nsIn K mainGlobals "bool"=some none)
 (z10:PySem.W.nsIn K mainGlobals "sum"=some none)
 (aI_LONGEST:PySem.W.nsIn K mainGlobals "LONGEST"=some (some (.int 8 tk_LONGEST)))
 (aI_DEEPEST:PySem.W.nsIn K mainGlobals "DEEPEST"=some (some (.int 10 tk_DEEPEST)))
 (aI_FIGURES:PySem.W.nsIn K mainGlobals "FIGURES"=some (some (.str "0123456789" tk_FIGURES)))
 (aI_LETTERS:PySem.W.nsIn K mainGlobals "LETTERS"=some (some (.str "abcdefghijklmnopqrstuvwxyz" tk_LETTERS)))
 (aI_WORDS:PySem.W.nsIn K mainGlobals "WORDS"=some (some (.ref tp_WORDS)))
 (lI_WORDS:K.lookup tp_WORDS=some ⟨.type "tuple",odtp_WORDS,.seq #[.str "x" tk_WORDS_0,.str "sqrt" tk_WORDS_1,.str "cbrt" tk_WORDS_2,.str "root" tk_WORDS_3] ntp_WORDS,sltp_WORDS⟩)
 (aI_EXPONENTS:PySem.W.nsIn K mainGlobals "EXPONENTS"=some (some (.ref tp_EXPONENTS)))
 (lI_EXPONENTS:K.lookup tp_EXPONENTS=some ⟨.type "tuple",odtp_EXPONENTS,.seq #[.str "0" tk_EXPONENTS_0,.str "1" tk_EXPONENTS_1,.str "2" tk_EXPONENTS_2,.str "3" tk_EXPONENTS_3,.str "4" tk_EXPONENTS_4,.str "5" tk_EXPONENTS_5,.str "6" tk_EXPONENTS_6,.str "7" tk_EXPONENTS_7,.str "8" tk_EXPONENTS_8] ntp_EXPONENTS,sltp_EXPONENTS⟩)
 : ∃fd:FuncData,(∀(s:Shared) (v:Value),BindsTo s fd ⟨[v],[]⟩ [("_law_script",v)])/\∀base:Heap,K.In base->base.Ns mainGlobals mg->FnOk l.prog w K mg base CX0 104 fa fd ["_law_script"] (la K):=by
 have e:=hfa.symm.trans (PySem.W.mg_of X G a60);cases e;have T:Txt K mg:=⟨PySem.W.mg_none_of X G z0,PySem.W.mg_none_of X G z1,PySem.W.mg_none_of X G z2,PySem.W.mg_none_of X G z3,PySem.W.mg_none_of X G z4,PySem.W.mg_none_of X G z5,PySem.W.mg_none_of X G z6,PySem.W.mg_none_of X G z7,PySem.W.mg_none_of X G z8,PySem.W.mg_none_of X G z9,PySem.W.mg_none_of X G z10,⟨_,PySem.W.mg_of X G aI_LONGEST⟩,⟨_,PySem.W.mg_of X G aI_DEEPEST⟩,⟨_,PySem.W.mg_of X G aI_FIGURES⟩,⟨_,PySem.W.mg_of X G aI_LETTERS⟩,⟨_,PySem.W.mg_of X G aI_WORDS,λH=>.inr ⟨_,_,_,lI_WORDS,rfl,rfl,by show 4<=sizeLine;decide,.cons ⟨_,rfl⟩ (.cons ⟨_,rfl⟩ (.cons ⟨_,rfl⟩ (.cons ⟨_,rfl⟩ (.nil))))⟩⟩,⟨_,PySem.W.mg_of X G aI_EXPONENTS,λH=>.inr ⟨_,_,_,lI_EXPONENTS,rfl,rfl,by show 9<=sizeLine;decide,.cons ⟨_,rfl⟩ (.cons ⟨_,rfl⟩ (.cons ⟨_,rfl⟩ (.cons ⟨_,rfl⟩ (.cons ⟨_,rfl⟩ (.cons ⟨_,rfl⟩ (.cons ⟨_,rfl⟩ (.cons ⟨_,rfl⟩ (.cons ⟨_,rfl⟩ (.nil)))))))))⟩⟩⟩;have R1:QC K mg CC1:=⟨⟨pg1,hd1,po1,sa1⟩,n1_marks,n1_end,n1_done,n1_depth,PySem.W.mg_of X G aC1⟩;have R2:RCI K mg CRatio:=⟨⟨pg2,hd2,po2,sa2⟩,n2_top,n2_bottom,PySem.W.mg_of X G aC2,ha2,hn2,ht2,hm2⟩;have R3:PCI K mg CWhole "Whole" ["value"]:=⟨⟨pg3,hd3,po3,sa3⟩,E6.mpr ⟨n3_value,Fl _⟩,PySem.W.mg_of X G aC3,ha3,hn3,ht3,hm3⟩;have R4:PCI K mg CNamed "Named" ["word"]:=⟨⟨pg4,hd4,po4,sa4⟩,E6.mpr ⟨n4_word,Fl _⟩,PySem.W.mg_of X G aC4,ha4,hn4,ht4,hm4⟩;have R5:GCI K mg CGiven:=⟨⟨pg5,hd5,po5,sa5⟩,n5_poly,n5_low,n5_high,PySem.W.mg_of X G aC5,ha5,hn5,ht5,hm5⟩;have R6:PCI K mg CMinus "Minus" ["one"]:=⟨⟨pg6,hd6,po6,sa6⟩,E6.mpr ⟨n6_one,Fl _⟩,PySem.W.mg_of X G aC6,ha6,hn6,ht6,hm6⟩;have R7:PCI K mg CSum "Sum" ["one","other"]:=⟨⟨pg7,hd7,po7,sa7⟩,E6.mpr ⟨n7_one,E6.mpr ⟨n7_other,Fl _⟩⟩,PySem.W.mg_of X G aC7,ha7,hn7,ht7,hm7⟩;have R8:PCI K mg CLess "Less" ["one","other"]:=⟨⟨pg8,hd8,po8,sa8⟩,E6.mpr ⟨n8_one,E6.mpr ⟨n8_other,Fl _⟩⟩,PySem.W.mg_of X G aC8,ha8,hn8,ht8,hm8⟩;have R9:PCI K mg CTimes "Times" ["one","other"]:=⟨⟨pg9,hd9,po9,sa9⟩,E6.mpr ⟨n9_one,E6.mpr ⟨n9_other,Fl _⟩⟩,PySem.W.mg_of X G aC9,ha9,hn9,ht9,hm9⟩;have R10:PCI K mg COver "Over" ["one","other"]:=⟨⟨pg10,hd10,po10,sa10⟩,E6.mpr ⟨n10_one,E6.mpr ⟨n10_other,Fl _⟩⟩,PySem.W.mg_of X G aC10,ha10,hn10,ht10,hm10⟩;have R11:PCI K mg CPower "Power" ["one","power"]:=⟨⟨pg11,hd11,po11,sa11⟩,E6.mpr ⟨n11_one,E6.mpr ⟨n11_power,Fl _⟩⟩,PySem.W.mg_of X G aC11,ha11,hn11,ht11,hm11⟩;have R12:PCI K mg CRooted "Rooted" ["one","power"]:=⟨⟨pg12,hd12,po12,sa12⟩,E6.mpr ⟨n12_one,E6.mpr ⟨n12_power,Fl _⟩⟩,PySem.W.mg_of X G aC12,ha12,hn12,ht12,hm12⟩;have F1:=az (st:=gl) l1 c1 k1;have b1:=F1.binds (ps:=["one","other"]) λ_ _ _ _ _ _ us hl=>match us,hl with | [_,_],_=>rfl
 have F2:=A3 (st:=ia) l2 c2 k2;have b2:=FunD.bindsD (ps:=["self","top","bottom"]) (ds:=[]) (tup:=[.int 1 tk2_0]) 3 F2 t2 rfl rfl λ_ _ _ _ _ _ us hl=>match us,hl with | [_,_,_],_=>⟨_,rfl,rfl⟩
 have bD2:=FunD.bindsD (ps:=["self","top","bottom"]) (ds:=[.int 1 tk2_0]) (tup:=[.int 1 tk2_0]) 2 F2 t2 rfl rfl λ_ _ _ _ _ _ us hl=>match us,hl with | [_,_],_=>⟨_,rfl,rfl⟩
 have F3:=az (st:=gT) l3 c3 k3;have b3:=F3.binds (ps:=["self","value"]) λ_ _ _ _ _ _ us hl=>match us,hl with | [_,_],_=>rfl
 have F4:=az (st:=ig) l4 c4 k4;have b4:=F4.binds (ps:=["self","word"]) λ_ _ _ _ _ _ us hl=>match us,hl with | [_,_],_=>rfl
 have F5:=az (st:=ik) l5 c5 k5;have b5:=F5.binds (ps:=["self","row","low","high"]) λ_ _ _ _ _ _ us hl=>match us,hl with | [_,_,_,_],_=>rfl
 have F6:=az (st:=ii) l6 c6 k6;have b6:=F6.binds (ps:=["self","one"]) λ_ _ _ _ _ _ us hl=>match us,hl with | [_,_],_=>rfl
 have F7:=az (st:=gW) l7 c7 k7;have b7:=F7.binds (ps:=["self","one","other"]) λ_ _ _ _ _ _ us hl=>match us,hl with | [_,_,_],_=>rfl
 have F8:=az (st:=ij) l8 c8 k8;have b8:=F8.binds (ps:=["self","one","other"]) λ_ _ _ _ _ _ us hl=>match us,hl with | [_,_,_],_=>rfl
 have F9:=az (st:=gU) l9 c9 k9;have b9:=F9.binds (ps:=["self","one","other"]) λ_ _ _ _ _ _ us hl=>match us,hl with | [_,_,_],_=>rfl
 have F10:=az (st:=ic) l10 c10 k10;have b10:=F10.binds (ps:=["self","one","other"]) λ_ _ _ _ _ _ us hl=>match us,hl with | [_,_,_],_=>rfl
 have F11:=az (st:=ib) l11 c11 k11;have b11:=F11.binds (ps:=["self","one","exponent"]) λ_ _ _ _ _ _ us hl=>match us,hl with | [_,_,_],_=>rfl
 have F12:=az (st:=gX) l12 c12 k12;have b12:=F12.binds (ps:=["self","one","exponent"]) λ_ _ _ _ _ _ us hl=>match us,hl with | [_,_,_],_=>rfl
 have F13:=az (st:=gy) l13 c13 k13;have b13:=F13.binds (ps:=["row"]) λ_ _ _ _ _ _ us hl=>match us,hl with | [_],_=>rfl
 have F14:=az (st:=gE) l14 c14 k14;have b14:=F14.binds (ps:=["row","place"]) λ_ _ _ _ _ _ us hl=>match us,hl with | [_,_],_=>rfl
 have F15:=az (st:=gF) l15 c15 k15;have b15:=F15.binds (ps:=["first","second"]) λ_ _ _ _ _ _ us hl=>match us,hl with | [_,_],_=>rfl
 have F16:=az (st:=gm) l16 c16 k16;have b16:=F16.binds (ps:=["text","at","signs"]) λ_ _ _ _ _ _ us hl=>match us,hl with | [_,_,_],_=>rfl
 have F17:=az (st:=gA) l17 c17 k17;have b17:=F17.binds (ps:=["text","at"]) λ_ _ _ _ _ _ us hl=>match us,hl with | [_,_],_=>rfl
 have F18:=az (st:=gz) l18 c18 k18;have b18:=F18.binds (ps:=["text"]) λ_ _ _ _ _ _ us hl=>match us,hl with | [_],_=>rfl
 have F19:=az (st:=ie) l19 c19 k19;have b19:=F19.binds (ps:=["self","at"]) λ_ _ _ _ _ _ us hl=>match us,hl with | [_,_],_=>rfl
 have F20:=az (st:=hZ) l20 c20 k20;have b20:=F20.binds (ps:=["self","text"]) λ_ _ _ _ _ _ us hl=>match us,hl with | [_,_],_=>rfl
 have F21:=az (st:=gZ) l21 c21 k21;have b21:=F21.binds (ps:=["self"]) λ_ _ _ _ _ _ us hl=>match us,hl with | [_],_=>rfl
 have F22:=az (st:=hV) l22 c22 k22;have b22:=F22.binds (ps:=["self"]) λ_ _ _ _ _ _ us hl=>match us,hl with | [_],_=>rfl
 have F23:=az (st:=gY) l23 c23 k23;have b23:=F23.binds (ps:=["self"]) λ_ _ _ _ _ _ us hl=>match us,hl with | [_],_=>rfl
 have F24:=az (st:=g7) l24 c24 k24;have b24:=F24.binds (ps:=["self","mark"]) λ_ _ _ _ _ _ us hl=>match us,hl with | [_,_],_=>rfl
 have F25:=az (st:=hU) l25 c25 k25;have b25:=F25.binds (ps:=["self","mark"]) λ_ _ _ _ _ _ us hl=>match us,hl with | [_,_],_=>rfl
 have F26:=az (st:=hJ) l26 c26 k26;have b26:=F26.binds (ps:=["self"]) λ_ _ _ _ _ _ us hl=>match us,hl with | [_],_=>rfl
 have F27:=az (st:=g8) l27 c27 k27;have b27:=F27.binds (ps:=["self"]) λ_ _ _ _ _ _ us hl=>match us,hl with | [_],_=>rfl
 have F28:=az (st:=g9) l28 c28 k28;have b28:=F28.binds (ps:=["self"]) λ_ _ _ _ _ _ us hl=>match us,hl with | [_],_=>rfl
 have F29:=az (st:=gB) l29 c29 k29;have b29:=F29.binds (ps:=["word","signs"]) λ_ _ _ _ _ _ us hl=>match us,hl with | [_,_],_=>rfl
 have F30:=az (st:=gC) l30 c30 k30;have b30:=F30.binds (ps:=["word"]) λ_ _ _ _ _ _ us hl=>match us,hl with | [_],_=>rfl
 have F31:=az (st:=gD) l31 c31 k31;have b31:=F31.binds (ps:=["word"]) λ_ _ _ _ _ _ us hl=>match us,hl with | [_],_=>rfl
 have F32:=az (st:=gp) l32 c32 k32;have b32:=F32.binds (ps:=["reading"]) λ_ _ _ _ _ _ us hl=>match us,hl with | [_],_=>rfl
 have F33:=az (st:=gv) l33 c33 k33;have b33:=F33.binds (ps:=["reading"]) λ_ _ _ _ _ _ us hl=>match us,hl with | [_],_=>rfl
 have F34:=az (st:=gw) l34 c34 k34;have b34:=F34.binds (ps:=["reading"]) λ_ _ _ _ _ _ us hl=>match us,hl with | [_],_=>rfl
 have F35:=az (st:=gt) l35 c35 k35;have b35:=F35.binds (ps:=["reading"]) λ_ _ _ _ _ _ us hl=>match us,hl with | [_],_=>rfl
 have F36:=az (st:=gs) l36 c36 k36;have b36:=F36.binds (ps:=["reading","sign"]) λ_ _ _ _ _ _ us hl=>match us,hl with | [_,_],_=>rfl
 have F37:=az (st:=gq) l37 c37 k37;have b37:=F37.binds (ps:=["reading"]) λ_ _ _ _ _ _ us hl=>match us,hl with | [_],_=>rfl
 have F38:=az (st:=gu) l38 c38 k38;have b38:=F38.binds (ps:=["reading"]) λ_ _ _ _ _ _ us hl=>match us,hl with | [_],_=>rfl
 have F39:=az (st:=dN) l39 c39 k39;have b39:=F39.binds (ps:=["reading"]) λ_ _ _ _ _ _ us hl=>match us,hl with | [_],_=>rfl
 have F40:=az (st:=dO) l40 c40 k40;have b40:=F40.binds (ps:=["reading"]) λ_ _ _ _ _ _ us hl=>match us,hl with | [_],_=>rfl
 have F41:=az (st:=dL) l41 c41 k41;have b41:=F41.binds (ps:=["reading"]) λ_ _ _ _ _ _ us hl=>match us,hl with | [_],_=>rfl
 have F42:=az (st:=dM) l42 c42 k42;have b42:=F42.binds (ps:=["reading"]) λ_ _ _ _ _ _ us hl=>match us,hl with | [_],_=>rfl
 have F43:=az (st:=dJ) l43 c43 k43;have b43:=F43.binds (ps:=["reading"]) λ_ _ _ _ _ _ us hl=>match us,hl with | [_],_=>rfl
 have F44:=az (st:=dw) l44 c44 k44;have b44:=F44.binds (ps:=["reading"]) λ_ _ _ _ _ _ us hl=>match us,hl with | [_],_=>rfl
 have F45:=az (st:=gx) l45 c45 k45;have b45:=F45.binds (ps:=["text"]) λ_ _ _ _ _ _ us hl=>match us,hl with | [_],_=>rfl
 have F46:=az (st:=gH) l46 c46 k46;have b46:=F46.binds (ps:=["_law_one","_law_rank","_law_loose"]) λ_ _ _ _ _ _ us hl=>match us,hl with | [_,_,_],_=>rfl
 have F47:=az (st:=gS) l47 c47 k47;have b47:=F47.binds (ps:=["_law_one","_law_cell_here"]) λ_ _ _ _ _ _ us hl=>match us,hl with | [_,_],_=>rfl
 have F48:=az (st:=gN) l48 c48 k48;have b48:=F48.binds (ps:=["_law_one"]) λ_ _ _ _ _ _ us hl=>match us,hl with | [_],_=>rfl
 have F49:=az (st:=gK) l49 c49 k49;have b49:=F49.binds (ps:=["_law_marks","_law_turn"]) λ_ _ _ _ _ _ us hl=>match us,hl with | [_,_],_=>rfl
 have F50:=az (st:=gG) l50 c50 k50;have b50:=F50.binds (ps:=["_law_cell_here"]) λ_ _ _ _ _ _ us hl=>match us,hl with | [_],_=>rfl
 have F51:=az (st:=gL) l51 c51 k51;have b51:=F51.binds (ps:=["_law_cell_here"]) λ_ _ _ _ _ _ us hl=>match us,hl with | [_],_=>rfl
 have F52:=az (st:=gR) l52 c52 k52;have b52:=F52.binds (ps:=["_law_cell_here"]) λ_ _ _ _ _ _ us hl=>match us,hl with | [_],_=>rfl
 have F53:=az (st:=gQ) l53 c53 k53;have b53:=F53.binds (ps:=["_law_one","_law_other","_law_cell_here"]) λ_ _ _ _ _ _ us hl=>match us,hl with | [_,_,_],_=>rfl
 have F54:=az (st:=gO) l54 c54 k54;have b54:=F54.binds (ps:=["_law_deeds"]) λ_ _ _ _ _ _ us hl=>match us,hl with | [_],_=>rfl
 have F55:=az (st:=gP) l55 c55 k55;have b55:=F55.binds (ps:=["_law_script","_law_k"]) λ_ _ _ _ _ _ us hl=>match us,hl with | [_,_],_=>rfl
 have F56:=az (st:=gI) l56 c56 k56;have b56:=F56.binds (ps:=["_law_found"]) λ_ _ _ _ _ _ us hl=>match us,hl with | [_],_=>rfl
 have F57:=az (st:=gJ) l57 c57 k57;have b57:=F57.binds (ps:=["_law_r","_law_due"]) λ_ _ _ _ _ _ us hl=>match us,hl with | [_,_],_=>rfl
 have F58:=az (st:=eJ) l58 c58 k58;have b58:=F58.binds (ps:=["_law_found","_law_tree"]) λ_ _ _ _ _ _ us hl=>match us,hl with | [_,_],_=>rfl
 have F59:=az (st:=dQ) l59 c59 k59;have b59:=F59.binds (ps:=["_law_found","_law_tree"]) λ_ _ _ _ _ _ us hl=>match us,hl with | [_,_],_=>rfl
 have F60:=az (st:=dP) l60 c60 k60;have b60:=F60.binds (ps:=["_law_script"]) λ_ _ _ _ _ _ us hl=>match us,hl with | [_],_=>rfl
 refine⟨PySem.W.fnOf "law" "law" (aw dP) (au dP) (ah dP) .none kV60 dc60 pm60 an60 cd60 ct60,λs v=>.of_eq rfl,λbase KB GB=>?_⟩;have XE:EXC K mg base CNoText:=⟨PySem.W.mg_of X G aENoText⟩;have C1:Cal l.prog w K mg base 1 "shared_by_two" ["one","other"] sp2 _ _:=⟨xv F1 T  ,PySem.W.mg_of X G a1,k1,b1⟩;have K2:KCal l.prog w K mg base 2 CRatio "Ratio" ["self","top","bottom"] (lb CRatio) _ _ _ [.int 1]:=⟨yt F2 T R2 C1,⟨mk2,a2,i2,kc2⟩,PySem.W.mg_of X G aC2,b2,bD2,.cons ⟨_,rfl⟩ .nil⟩;have K3:KCal l.prog w K mg base 1 CWhole "Whole" ["self","value"] (cn CWhole "value") _ _ _ []:=⟨yf F3 T R3 ,⟨mk3,a3,i3,kc3⟩,PySem.W.mg_of X G aC3,b3,b3,.nil⟩;have K4:KCal l.prog w K mg base 1 CNamed "Named" ["self","word"] (cn CNamed "word") _ _ _ []:=⟨yx F4 T R4 ,⟨mk4,a4,i4,kc4⟩,PySem.W.mg_of X G aC4,b4,b4,.nil⟩;have K5:KCal l.prog w K mg base 1 CGiven "Given" ["self","row","low","high"] (mT CGiven) _ _ _ []:=⟨yA F5 T R5 ,⟨mk5,a5,i5,kc5⟩,PySem.W.mg_of X G aC5,b5,b5,.nil⟩;have K6:KCal l.prog w K mg base 1 CMinus "Minus" ["self","one"] (cn CMinus "one") _ _ _ []:=⟨yy F6 T R6 ,⟨mk6,a6,i6,kc6⟩,PySem.W.mg_of X G aC6,b6,b6,.nil⟩;have K7:KCal l.prog w K mg base 1 CSum "Sum" ["self","one","other"] (aY CSum "one" "other") _ _ _ []:=⟨yh F7 T R7 ,⟨mk7,a7,i7,kc7⟩,PySem.W.mg_of X G aC7,b7,b7,.nil⟩;have K8:KCal l.prog w K mg base 1 CLess "Less" ["self","one","other"] (aY CLess "one" "other") _ _ _ []:=⟨yz F8 T R8 ,⟨mk8,a8,i8,kc8⟩,PySem.W.mg_of X G aC8,b8,b8,.nil⟩;have K9:KCal l.prog w K mg base 1 CTimes "Times" ["self","one","other"] (aY CTimes "one" "other") _ _ _ []:=⟨yg F9 T R9 ,⟨mk9,a9,i9,kc9⟩,PySem.W.mg_of X G aC9,b9,b9,.nil⟩;have K10:KCal l.prog w K mg base 1 COver "Over" ["self","one","other"] (aY COver "one" "other") _ _ _ []:=⟨yv F10 T R10 ,⟨mk10,a10,i10,kc10⟩,PySem.W.mg_of X G aC10,b10,b10,.nil⟩;have K11:KCal l.prog w K mg base 1 CPower "Power" ["self","one","exponent"] (aY CPower "one" "power") _ _ _ []:=⟨yu F11 T R11 ,⟨mk11,a11,i11,kc11⟩,PySem.W.mg_of X G aC11,b11,b11,.nil⟩;have K12:KCal l.prog w K mg base 1 CRooted "Rooted" ["self","one","exponent"] (aY CRooted "one" "power") _ _ _ []:=⟨yi F12 T R12 ,⟨mk12,a12,i12,kc12⟩,PySem.W.mg_of X G aC12,b12,b12,.nil⟩;have C13:Cal l.prog w K mg base 1 "poly" ["row"] (kX K) _ _:=⟨xL F13 T  ,PySem.W.mg_of X G a13,k13,b13⟩;have C14:Cal l.prog w K mg base 1 "coefficient" ["row","place"] (gh K) _ _:=⟨xS F14 T  ,PySem.W.mg_of X G a14,k14,b14⟩;have C15:Cal l.prog w K mg base 2 "added" ["first","second"] (m4 K dG) _ _:=⟨xT F15 T  C13 C14,PySem.W.mg_of X G a15,k15,b15⟩;have C16:Cal l.prog w K mg base 1 "run_end" ["text","at","signs"] mK _ _:=⟨xw F16 T  ,PySem.W.mg_of X G a16,k16,b16⟩;have C17:Cal l.prog w K mg base 2 "mark_end" ["text","at"] mP _ _:=⟨xN F17 T  C16,PySem.W.mg_of X G a17,k17,b17⟩;have C18:Cal l.prog w K mg base 3 "marks_of" ["text"] mO _ _:=⟨xM F18 T  C17,PySem.W.mg_of X G a18,k18,b18⟩;have C19:XCal l.prog w K mg base 1 CNoText "NoText" "at" ["self","at"] _ _:=⟨yw F19 T (XCls.of yCNoText) yNNoText,xm KB GB aENoText yXNoText,yKNoText,b19,XCls.of yCNoText,⟨Ch e6NoText,e0NoText,e1NoText,e2NoText,e3NoText,e4NoText,e5NoText,e6NoText⟩,yNNoText⟩;have K1:KCal l.prog w K mg base 4 CC1 "Reading" ["self","text"] (mJ CC1) _ _ _ []:=⟨yr F20 T R1 C18,⟨mk1,a20,i20,kc1⟩,PySem.W.mg_of X G aC1,b20,b20,.nil⟩;have C21:MCal l.prog w K mg base 1 CC1 "seen" ["self"] (cA CC1) _ _:=⟨yk F21 T R1 ,⟨a21,i21,k21⟩,b21⟩;have C22:MCal l.prog w K mg base 1 CC1 "begin" ["self"] (eI CC1) _ _:=⟨yq F22 T R1 ,⟨a22,i22,k22⟩,b22⟩;have C23:MCal l.prog w K mg base 2 CC1 "step" ["self"] (cZ CC1) _ _:=⟨yj F23 T R1 C21,⟨a23,i23,k23⟩,b23⟩;have C24:MCal l.prog w K mg base 2 CC1 "passes" ["self","mark"] (cT CC1) _ _:=⟨yl F24 T R1 C21,⟨a24,i24,k24⟩,b24⟩;have C25:MCalV l.prog w K mg base 3 CC1 "demand" ["self","mark"] (gg CC1 CNoText) _ _:=⟨yp F25 T R1 C24 C22 C19,⟨a25,i25,k25⟩,b25⟩;have C26:MCalV l.prog w K mg base 4 CC1 "enter" ["self"] (gf CC1 CNoText) _ _:=⟨yo F26 T R1 C25 C22 C19,⟨a26,i26,k26⟩,b26⟩;have C27:MCalV l.prog w K mg base 4 CC1 "leave" ["self"] (gc CC1 CNoText) _ _:=⟨ym F27 T R1 C25,⟨a27,i27,k27⟩,b27⟩;have C28:MCalV l.prog w K mg base 3 CC1 "finish" ["self"] (mW CC1 CNoText) _ _:=⟨yn F28 T R1 C22 C19,⟨a28,i28,k28⟩,b28⟩;have C29:Cal l.prog w K mg base 1 "made_of" ["word","signs"] kZ _ _:=⟨xO F29 T  ,PySem.W.mg_of X G a29,k29,b29⟩;have C30:Cal l.prog w K mg base 2 "is_whole" ["word"] fC _ _:=⟨xQ F30 T  C29,PySem.W.mg_of X G a30,k30,b30⟩;have C31:Cal l.prog w K mg base 2 "is_name" ["word"] iR _ _:=⟨xR F31 T  C29,PySem.W.mg_of X G a31,k31,b31⟩;have C32:CalV l.prog w K mg base 3 "read_whole" ["reading"] (mI CC1 CNoText) _ _:=⟨xx F32 T  R1 C30 C21 C22 C23 C19,PySem.W.mg_of X G a32,k32,b32⟩;have C33:CalV l.prog w K mg base 4 "read_fraction" ["reading"] (mV CC1 CNoText CRatio) _ _:=⟨xF F33 T  R1 C24 C32 K2 C21 C22 C19,PySem.W.mg_of X G a33,k33,b33⟩;have C34:CalV l.prog w K mg base 3 "read_exponent" ["reading"] (gd CC1 CNoText) _ _:=⟨xH F34 T  R1 C21 C23 C22 C19,PySem.W.mg_of X G a34,k34,b34⟩;have C35:CalV l.prog w K mg base 4 "read_place" ["reading"] (mM CC1 CNoText) _ _:=⟨xD F35 T  R1 C25 C24 C34,PySem.W.mg_of X G a35,k35,b35⟩;have C36:CalV l.prog w K mg base 5 "read_term" ["reading","sign"] (mH CC1 CNoText) _ _:=⟨xz F36 T  R1 C30 C21 C23 C24 C35 C13,PySem.W.mg_of X G a36,k36,b36⟩;have C37:CalV l.prog w K mg base 6 "read_terms" ["reading"] (mG CC1 CNoText) _ _:=⟨xy F37 T  R1 C36 C24 C21 C15 C23,PySem.W.mg_of X G a37,k37,b37⟩;have C38:CalV l.prog w K mg base 7 "read_given" ["reading"] (iS CC1 CNoText CGiven CRatio) _ _:=⟨xE F38 T  R1 C26 C37 C25 C33 C27 K5,PySem.W.mg_of X G a38,k38,b38⟩;have C39:RawC K mg "read_brackets" dN ["reading"] _ _:=⟨F39,PySem.W.mg_of X G a39,k39,b39⟩;have C40:RawC K mg "read_atom" dO ["reading"] _ _:=⟨F40,PySem.W.mg_of X G a40,k40,b40⟩;have C41:RawC K mg "read_power" dL ["reading"] _ _:=⟨F41,PySem.W.mg_of X G a41,k41,b41⟩;have C42:RawC K mg "read_factor" dM ["reading"] _ _:=⟨F42,PySem.W.mg_of X G a42,k42,b42⟩;have C43:RawC K mg "read_product" dJ ["reading"] _ _:=⟨F43,PySem.W.mg_of X G a43,k43,b43⟩;have C44:RawC K mg "read_sum" dw ["reading"] _ _:=⟨F44,PySem.W.mg_of X G a44,k44,b44⟩;have C45:CalV l.prog w K mg base 73 "read" ["text"] (mL CNoText ⟨CWhole,CNamed,CGiven,CMinus,CSum,CLess,CTimes,COver,CPower,CRooted,CRatio⟩) _ _:=⟨xK F45 T  R1 K1 C28 C26 C27 C30 C21 K3 C23 C31 K4 C24 K12 C38 C34 K11 K6 K9 K10 K7 K8 C39 C40 C41 C42 C43 C44,PySem.W.mg_of X G a45,k45,b45⟩;have C46:Cal l.prog w K mg base 1 "_law_within" ["_law_one","_law_rank","_law_loose"] kW _ _:=⟨xV F46 T  ,PySem.W.mg_of X G a46,k46,b46⟩;have C47:Cal l.prog w K mg base 2 "_law_alone" ["_law_one","_law_cell_here"] mZ _ _:=⟨ye F47 T  C46,PySem.W.mg_of X G a47,k47,b47⟩;have C48:Cal l.prog w K mg base 1 "_law_fits" ["_law_one"] mU _ _:=⟨x9 F48 T  ,PySem.W.mg_of X G a48,k48,b48⟩;have C49:Cal l.prog w K mg base 1 "_law_joined" ["_law_marks","_law_turn"] mS _ _:=⟨x6 F49 T  ,PySem.W.mg_of X G a49,k49,b49⟩;have C50:Cal l.prog w K mg base 1 "_law_word" ["_law_cell_here"] mF _ _:=⟨xU F50 T  ,PySem.W.mg_of X G a50,k50,b50⟩;have C51:Cal l.prog w K mg base 1 "_law_given" ["_law_cell_here"] gj _ _:=⟨x8 F51 T  ,PySem.W.mg_of X G a51,k51,b51⟩;have C52:Cal l.prog w K mg base 2 "_law_atom" ["_law_cell_here"] gj _ _:=⟨yd F52 T  C50 C51,PySem.W.mg_of X G a52,k52,b52⟩;have C53:Cal l.prog w K mg base 2 "_law_both" ["_law_one","_law_other","_law_cell_here"] mY _ _:=⟨yc F53 T  C46,PySem.W.mg_of X G a53,k53,b53⟩;have C54:Cal l.prog w K mg base 3 "_law_drawn" ["_law_deeds"] mX _ _:=⟨ya F54 T  C53 C48 C47 C52,PySem.W.mg_of X G a54,k54,b54⟩;have C55:Cal l.prog w K mg base 1 "_law_cell" ["_law_script","_law_k"] (gh K) _ _:=⟨yb F55 T  ,PySem.W.mg_of X G a55,k55,b55⟩;have C56:Cal l.prog w K mg base 1 "_law_whole" ["_law_found"] fB _ _:=⟨xW F56 T  ,PySem.W.mg_of X G a56,k56,b56⟩;have C57:Cal l.prog w K mg base 2 "_law_ratio" ["_law_r","_law_due"] (kY CRatio) _ _:=⟨xX F57 T  R2 C56,PySem.W.mg_of X G a57,k57,b57⟩;have C58:RawC K mg "_law_like_leaf" eJ ["_law_found","_law_tree"] _ _:=⟨F58,PySem.W.mg_of X G a58,k58,b58⟩;have C59:RawC K mg "_law_like" dQ ["_law_found","_law_tree"] _ _:=⟨F59,PySem.W.mg_of X G a59,k59,b59⟩;exact xP F60 T  R3 R4 R5 R6 R7 R8 R9 R10 R11 R12 C54 C49 C55 C45 C56 C57 C58 C59
theorem walk{l:PySem.W.OpenLaw}{q:Program}{loose:List Str}{XP:(Str->Option Value)->Heap->Prop}{YP:World->Heap->Prop}{d:DefRec}{K:Params->PySem.W.Frag}(hn:l.most=some 63)(hdf:d.params.defaults=[])
 (hY:∀(w:World) (h:Heap),YP w h->(K w.params).In h)
 (F:∀(w:World) (mg:Str->Option Value) (fa:Addr) (h:Heap),(K w.params).In h->h.Ns mainGlobals mg->mg d.name=some (.ref fa) ->
   ∃fd:FuncData,(∀(s:Shared) (u:Value),BindsTo s fd ⟨[u],[]⟩ [("_law_script",u)])/\∀base:Heap,(K w.params).In base->base.Ns mainGlobals mg->FnOk l.prog w (K w.params) mg base CX0 104 fa fd ["_law_script"] (la (K w.params))) :
 PySem.W.WalkO q loose XP YP l.row.toRowW d [] (λf vs=>PySem.call f vs) :=
 L2.walk_of (n:=63) (k:=104) (x:="_law_script") (CX:=λ_=>CX0) (sp:=λw=>la (K w.params)) hn (by decide) hdf ⟨rfl,by decide,by decide⟩ hY F (λ_ _ a ns hl _ hS=>⟨a,ns,rfl,hS,hl,λ_=>rfl⟩) λ_ _ _ _ _ z=>z
section
end
end R64
open PySem PySem.W PyProof.Rows
set_option maxRecDepth 100000 in
set_option maxHeartbeats 0 in
theorem PySem.Challenge.cw_rootspan_k64_tree_read_loosely_holds : PySem.Challenge.rw_rootspan_k64_tree_read_loosely.Holds := by
 w_on;o_law;k_head;(case hw=>w_witness2)
 k_fill
 refine R64.walk (l:=PySem.Challenge.rw_rootspan_k64_tree_read_loosely) rfl rfl (λw h Y=>PySem.W.kIn_of Y) ?F
 case F =>
  intro w mg fa h KX G hmg
  refine' R64.all_mk KX G hmg ?aC1 ?pg1 ?hd1 ?po1 ?sa1 ?mk1 ?kc1 ?n1_marks ?n1_end ?n1_done ?n1_depth ?aC2 ?pg2 ?hd2 ?po2 ?sa2 ?mk2 ?kc2 ?n2_top ?n2_bottom ?ha2 ?hn2 ?ht2 ?hm2 ?aC3 ?pg3 ?hd3 ?po3 ?sa3 ?mk3 ?kc3 ?n3_value ?ha3 ?hn3 ?ht3 ?hm3 ?aC4 ?pg4 ?hd4 ?po4 ?sa4 ?mk4 ?kc4 ?n4_word ?ha4 ?hn4 ?ht4 ?hm4 ?aC5 ?pg5 ?hd5 ?po5 ?sa5 ?mk5 ?kc5 ?n5_poly ?n5_low ?n5_high ?ha5 ?hn5 ?ht5 ?hm5 ?aC6 ?pg6 ?hd6 ?po6 ?sa6 ?mk6 ?kc6 ?n6_one ?ha6 ?hn6 ?ht6 ?hm6 ?aC7 ?pg7 ?hd7 ?po7 ?sa7 ?mk7 ?kc7 ?n7_one ?n7_other ?ha7 ?hn7 ?ht7 ?hm7 ?aC8 ?pg8 ?hd8 ?po8 ?sa8 ?mk8 ?kc8 ?n8_one ?n8_other ?ha8 ?hn8 ?ht8 ?hm8 ?aC9 ?pg9 ?hd9 ?po9 ?sa9 ?mk9 ?kc9 ?n9_one ?n9_other ?ha9 ?hn9 ?ht9 ?hm9 ?aC10 ?pg10 ?hd10 ?po10 ?sa10 ?mk10 ?kc10 ?n10_one ?n10_other ?ha10 ?hn10 ?ht10 ?hm10 ?aC11 ?pg11 ?hd11 ?po11 ?sa11 ?mk11 ?kc11 ?n11_one ?n11_power ?ha11 ?hn11 ?ht11 ?hm11 ?aC12 ?pg12 ?hd12 ?po12 ?sa12 ?mk12 ?kc12 ?n12_one ?n12_power ?ha12 ?hn12 ?ht12 ?hm12 ?aENoText ?e0NoText ?e1NoText ?e2NoText ?e3NoText ?e4NoText ?e5NoText ?e6NoText ?yXNoText ?yCNoText ?yKNoText ?yNNoText ?a1 ?l1 ?c1 ?k1 ?a2 ?i2 ?l2 ?c2 ?k2 ?t2 ?a3 ?i3 ?l3 ?c3 ?k3 ?a4 ?i4 ?l4 ?c4 ?k4 ?a5 ?i5 ?l5 ?c5 ?k5 ?a6 ?i6 ?l6 ?c6 ?k6 ?a7 ?i7 ?l7 ?c7 ?k7 ?a8 ?i8 ?l8 ?c8 ?k8 ?a9 ?i9 ?l9 ?c9 ?k9 ?a10 ?i10 ?l10 ?c10 ?k10 ?a11 ?i11 ?l11 ?c11 ?k11 ?a12 ?i12 ?l12 ?c12 ?k12 ?a13 ?l13 ?c13 ?k13 ?a14 ?l14 ?c14 ?k14 ?a15 ?l15 ?c15 ?k15 ?a16 ?l16 ?c16 ?k16 ?a17 ?l17 ?c17 ?k17 ?a18 ?l18 ?c18 ?k18 ?a19 ?l19 ?c19 ?k19 ?a20 ?i20 ?l20 ?c20 ?k20 ?a21 ?i21 ?l21 ?c21 ?k21 ?a22 ?i22 ?l22 ?c22 ?k22 ?a23 ?i23 ?l23 ?c23 ?k23 ?a24 ?i24 ?l24 ?c24 ?k24 ?a25 ?i25 ?l25 ?c25 ?k25 ?a26 ?i26 ?l26 ?c26 ?k26 ?a27 ?i27 ?l27 ?c27 ?k27 ?a28 ?i28 ?l28 ?c28 ?k28 ?a29 ?l29 ?c29 ?k29 ?a30 ?l30 ?c30 ?k30 ?a31 ?l31 ?c31 ?k31 ?a32 ?l32 ?c32 ?k32 ?a33 ?l33 ?c33 ?k33 ?a34 ?l34 ?c34 ?k34 ?a35 ?l35 ?c35 ?k35 ?a36 ?l36 ?c36 ?k36 ?a37 ?l37 ?c37 ?k37 ?a38 ?l38 ?c38 ?k38 ?a39 ?l39 ?c39 ?k39 ?a40 ?l40 ?c40 ?k40 ?a41 ?l41 ?c41 ?k41 ?a42 ?l42 ?c42 ?k42 ?a43 ?l43 ?c43 ?k43 ?a44 ?l44 ?c44 ?k44 ?a45 ?l45 ?c45 ?k45 ?a46 ?l46 ?c46 ?k46 ?a47 ?l47 ?c47 ?k47 ?a48 ?l48 ?c48 ?k48 ?a49 ?l49 ?c49 ?k49 ?a50 ?l50 ?c50 ?k50 ?a51 ?l51 ?c51 ?k51 ?a52 ?l52 ?c52 ?k52 ?a53 ?l53 ?c53 ?k53 ?a54 ?l54 ?c54 ?k54 ?a55 ?l55 ?c55 ?k55 ?a56 ?l56 ?c56 ?k56 ?a57 ?l57 ?c57 ?k57 ?a58 ?l58 ?c58 ?k58 ?a59 ?l59 ?c59 ?k59 ?a60 ?l60 ?c60 ?k60 ?z0 ?z1 ?z2 ?z3 ?z4 ?z5 ?z6 ?z7 ?z8 ?z9 ?z10 ?aI_LONGEST ?aI_DEEPEST ?aI_FIGURES ?aI_LETTERS ?aI_WORDS ?lI_WORDS ?aI_EXPONENTS ?lI_EXPONENTS
  (case aC1=>k_is)
  (case pg1=>k_is)
  (case hd1=>k_is)
  (case po1=>k_is)
  (case sa1=>k_is)
  (case mk1=>k_is)
  (case kc1=>k_is)
  (case n1_marks=>k_is)
  (case n1_end=>k_is)
  (case n1_done=>k_is)
  (case n1_depth=>k_is)
  (case aC2=>k_is)
  (case pg2=>k_is)
  (case hd2=>k_is)
  (case po2=>k_is)
  (case sa2=>k_is)
  (case mk2=>k_is)
  (case kc2=>k_is)
  (case n2_top=>k_is)
  (case n2_bottom=>k_is)
  (case ha2=>k_is)
  (case hn2=>k_is)
  (case ht2=>k_is)
  (case hm2=>k_is)
  (case aC3=>k_is)
  (case pg3=>k_is)
  (case hd3=>k_is)
  (case po3=>k_is)
  (case sa3=>k_is)
  (case mk3=>k_is)
  (case kc3=>k_is)
  (case n3_value=>k_is)
  (case ha3=>k_is)
  (case hn3=>k_is)
  (case ht3=>k_is)
  (case hm3=>k_is)
  (case aC4=>k_is)
  (case pg4=>k_is)
  (case hd4=>k_is)
  (case po4=>k_is)
  (case sa4=>k_is)
  (case mk4=>k_is)
  (case kc4=>k_is)
  (case n4_word=>k_is)
  (case ha4=>k_is)
  (case hn4=>k_is)
  (case ht4=>k_is)
  (case hm4=>k_is)
  (case aC5=>k_is)
  (case pg5=>k_is)
  (case hd5=>k_is)
  (case po5=>k_is)
  (case sa5=>k_is)
  (case mk5=>k_is)
  (case kc5=>k_is)
  (case n5_poly=>k_is)
  (case n5_low=>k_is)
  (case n5_high=>k_is)
  (case ha5=>k_is)
  (case hn5=>k_is)
  (case ht5=>k_is)
  (case hm5=>k_is)
  (case aC6=>k_is)
  (case pg6=>k_is)
  (case hd6=>k_is)
  (case po6=>k_is)
  (case sa6=>k_is)
  (case mk6=>k_is)
  (case kc6=>k_is)
  (case n6_one=>k_is)
  (case ha6=>k_is)
  (case hn6=>k_is)
  (case ht6=>k_is)
  (case hm6=>k_is)
  (case aC7=>k_is)
  (case pg7=>k_is)
  (case hd7=>k_is)
  (case po7=>k_is)
  (case sa7=>k_is)
  (case mk7=>k_is)
  (case kc7=>k_is)
  (case n7_one=>k_is)
  (case n7_other=>k_is)
  (case ha7=>k_is)
  (case hn7=>k_is)
  (case ht7=>k_is)
  (case hm7=>k_is)
  (case aC8=>k_is)
  (case pg8=>k_is)
  (case hd8=>k_is)
  (case po8=>k_is)
  (case sa8=>k_is)
  (case mk8=>k_is)
  (case kc8=>k_is)
  (case n8_one=>k_is)
  (case n8_other=>k_is)
  (case ha8=>k_is)
  (case hn8=>k_is)
  (case ht8=>k_is)
  (case hm8=>k_is)
  (case aC9=>k_is)
  (case pg9=>k_is)
  (case hd9=>k_is)
  (case po9=>k_is)
  (case sa9=>k_is)
  (case mk9=>k_is)
  (case kc9=>k_is)
  (case n9_one=>k_is)
  (case n9_other=>k_is)
  (case ha9=>k_is)
  (case hn9=>k_is)
  (case ht9=>k_is)
  (case hm9=>k_is)
  (case aC10=>k_is)
  (case pg10=>k_is)
  (case hd10=>k_is)
  (case po10=>k_is)
  (case sa10=>k_is)
  (case mk10=>k_is)
  (case kc10=>k_is)
  (case n10_one=>k_is)
  (case n10_other=>k_is)
  (case ha10=>k_is)
  (case hn10=>k_is)
  (case ht10=>k_is)
  (case hm10=>k_is)
  (case aC11=>k_is)
  (case pg11=>k_is)
  (case hd11=>k_is)
  (case po11=>k_is)
  (case sa11=>k_is)
  (case mk11=>k_is)
  (case kc11=>k_is)
  (case n11_one=>k_is)
  (case n11_power=>k_is)
  (case ha11=>k_is)
  (case hn11=>k_is)
  (case ht11=>k_is)
  (case hm11=>k_is)
  (case aC12=>k_is)
  (case pg12=>k_is)
  (case hd12=>k_is)
  (case po12=>k_is)
  (case sa12=>k_is)
  (case mk12=>k_is)
  (case kc12=>k_is)
  (case n12_one=>k_is)
  (case n12_power=>k_is)
  (case ha12=>k_is)
  (case hn12=>k_is)
  (case ht12=>k_is)
  (case hm12=>k_is)
  (case aENoText=>k_is)
  (case e0NoText=>k_is)
  (case e1NoText=>k_is)
  (case e2NoText=>k_is)
  (case e3NoText=>k_is)
  (case e4NoText=>k_is)
  (case e5NoText=>k_is)
  (case e6NoText=>k_is)
  (case yCNoText=>first |rfl |with_unfolding_all rfl)
  (case yKNoText=>k_is)
  (case yNNoText=>k_is)
  (case a1=>k_is)
  (case l1=>k_is)
  (case c1=>k_is)
  (case k1=>k_is)
  (case a2=>k_is)
  (case i2=>k_is)
  (case l2=>k_is)
  (case c2=>k_is)
  (case k2=>k_is)
  (case t2=>k_is)
  (case a3=>k_is)
  (case i3=>k_is)
  (case l3=>k_is)
  (case c3=>k_is)
  (case k3=>k_is)
  (case a4=>k_is)
  (case i4=>k_is)
  (case l4=>k_is)
  (case c4=>k_is)
  (case k4=>k_is)
  (case a5=>k_is)
  (case i5=>k_is)
  (case l5=>k_is)
  (case c5=>k_is)
  (case k5=>k_is)
  (case a6=>k_is)
  (case i6=>k_is)
  (case l6=>k_is)
  (case c6=>k_is)
  (case k6=>k_is)
  (case a7=>k_is)
  (case i7=>k_is)
  (case l7=>k_is)
  (case c7=>k_is)
  (case k7=>k_is)
  (case a8=>k_is)
  (case i8=>k_is)
  (case l8=>k_is)
  (case c8=>k_is)
  (case k8=>k_is)
  (case a9=>k_is)
  (case i9=>k_is)
  (case l9=>k_is)
  (case c9=>k_is)
  (case k9=>k_is)
  (case a10=>k_is)
  (case i10=>k_is)
  (case l10=>k_is)
  (case c10=>k_is)
  (case k10=>k_is)
  (case a11=>k_is)
  (case i11=>k_is)
  (case l11=>k_is)
  (case c11=>k_is)
  (case k11=>k_is)
  (case a12=>k_is)
  (case i12=>k_is)
  (case l12=>k_is)
  (case c12=>k_is)
  (case k12=>k_is)
  (case a13=>k_is)
  (case l13=>k_is)
  (case c13=>k_is)
  (case k13=>k_is)
  (case a14=>k_is)
  (case l14=>k_is)
  (case c14=>k_is)
  (case k14=>k_is)
  (case a15=>k_is)
  (case l15=>k_is)
  (case c15=>k_is)
  (case k15=>k_is)
  (case a16=>k_is)
  (case l16=>k_is)
  (case c16=>k_is)
  (case k16=>k_is)
  (case a17=>k_is)
  (case l17=>k_is)
  (case c17=>k_is)
  (case k17=>k_is)
  (case a18=>k_is)
  (case l18=>k_is)
  (case c18=>k_is)
  (case k18=>k_is)
  (case a19=>k_is)
  (case l19=>k_is)
  (case c19=>k_is)
  (case k19=>k_is)
  (case a20=>k_is)
  (case i20=>k_is)
  (case l20=>k_is)
  (case c20=>k_is)
  (case k20=>k_is)
  (case a21=>k_is)
  (case i21=>k_is)
  (case l21=>k_is)
  (case c21=>k_is)
  (case k21=>k_is)
  (case a22=>k_is)
  (case i22=>k_is)
  (case l22=>k_is)
  (case c22=>k_is)
  (case k22=>k_is)
  (case a23=>k_is)
  (case i23=>k_is)
  (case l23=>k_is)
  (case c23=>k_is)
  (case k23=>k_is)
  (case a24=>k_is)
  (case i24=>k_is)
  (case l24=>k_is)
  (case c24=>k_is)
  (case k24=>k_is)
  (case a25=>k_is)
  (case i25=>k_is)
  (case l25=>k_is)
  (case c25=>k_is)
  (case k25=>k_is)
  (case a26=>k_is)
  (case i26=>k_is)
  (case l26=>k_is)
  (case c26=>k_is)
  (case k26=>k_is)
  (case a27=>k_is)
  (case i27=>k_is)
  (case l27=>k_is)
  (case c27=>k_is)
  (case k27=>k_is)
  (case a28=>k_is)
  (case i28=>k_is)
  (case l28=>k_is)
  (case c28=>k_is)
  (case k28=>k_is)
  (case a29=>k_is)
  (case l29=>k_is)
  (case c29=>k_is)
  (case k29=>k_is)
  (case a30=>k_is)
  (case l30=>k_is)
  (case c30=>k_is)
  (case k30=>k_is)
  (case a31=>k_is)
  (case l31=>k_is)
  (case c31=>k_is)
  (case k31=>k_is)
  (case a32=>k_is)
  (case l32=>k_is)
  (case c32=>k_is)
  (case k32=>k_is)
  (case a33=>k_is)
  (case l33=>k_is)
  (case c33=>k_is)
  (case k33=>k_is)
  (case a34=>k_is)
  (case l34=>k_is)
  (case c34=>k_is)
  (case k34=>k_is)
  (case a35=>k_is)
  (case l35=>k_is)
  (case c35=>k_is)
  (case k35=>k_is)
  (case a36=>k_is)
  (case l36=>k_is)
  (case c36=>k_is)
  (case k36=>k_is)
  (case a37=>k_is)
  (case l37=>k_is)
  (case c37=>k_is)
  (case k37=>k_is)
  (case a38=>k_is)
  (case l38=>k_is)
  (case c38=>k_is)
  (case k38=>k_is)
  (case a39=>k_is)
  (case l39=>k_is)
  (case c39=>k_is)
  (case k39=>k_is)
  (case a40=>k_is)
  (case l40=>k_is)
  (case c40=>k_is)
  (case k40=>k_is)
  (case a41=>k_is)
  (case l41=>k_is)
  (case c41=>k_is)
  (case k41=>k_is)
  (case a42=>k_is)
  (case l42=>k_is)
  (case c42=>k_is)
  (case k42=>k_is)
  (case a43=>k_is)
  (case l43=>k_is)
  (case c43=>k_is)
  (case k43=>k_is)
  (case a44=>k_is)
  (case l44=>k_is)
  (case c44=>k_is)
  (case k44=>k_is)
  (case a45=>k_is)
  (case l45=>k_is)
  (case c45=>k_is)
  (case k45=>k_is)
  (case a46=>k_is)
  (case l46=>k_is)
  (case c46=>k_is)
  (case k46=>k_is)
  (case a47=>k_is)
  (case l47=>k_is)
  (case c47=>k_is)
  (case k47=>k_is)
  (case a48=>k_is)
  (case l48=>k_is)
  (case c48=>k_is)
  (case k48=>k_is)
  (case a49=>k_is)
  (case l49=>k_is)
  (case c49=>k_is)
  (case k49=>k_is)
  (case a50=>k_is)
  (case l50=>k_is)
  (case c50=>k_is)
  (case k50=>k_is)
  (case a51=>k_is)
  (case l51=>k_is)
  (case c51=>k_is)
  (case k51=>k_is)
  (case a52=>k_is)
  (case l52=>k_is)
  (case c52=>k_is)
  (case k52=>k_is)
  (case a53=>k_is)
  (case l53=>k_is)
  (case c53=>k_is)
  (case k53=>k_is)
  (case a54=>k_is)
  (case l54=>k_is)
  (case c54=>k_is)
  (case k54=>k_is)
  (case a55=>k_is)
  (case l55=>k_is)
  (case c55=>k_is)
  (case k55=>k_is)
  (case a56=>k_is)
  (case l56=>k_is)
  (case c56=>k_is)
  (case k56=>k_is)
  (case a57=>k_is)
  (case l57=>k_is)
  (case c57=>k_is)
  (case k57=>k_is)
  (case a58=>k_is)
  (case l58=>k_is)
  (case c58=>k_is)
  (case k58=>k_is)
  (case a59=>k_is)
  (case l59=>k_is)
  (case c59=>k_is)
  (case k59=>k_is)
  (case a60=>k_is)
  (case l60=>k_is)
  (case c60=>k_is)
  (case k60=>k_is)
  (case z0=>k_is)
  (case z1=>k_is)
  (case z2=>k_is)
  (case z3=>k_is)
  (case z4=>k_is)
  (case z5=>k_is)
  (case z6=>k_is)
  (case z7=>k_is)
  (case z8=>k_is)
  (case z9=>k_is)
  (case z10=>k_is)
  (case aI_LONGEST=>k_is)
  (case aI_DEEPEST=>k_is)
  (case aI_FIGURES=>k_is)
  (case aI_LETTERS=>k_is)
  (case aI_WORDS=>k_is)
  (case lI_WORDS=>k_is)
  (case aI_EXPONENTS=>k_is)
  (case lI_EXPONENTS=>k_is)
  (case yXNoText=>first |rfl |with_unfolding_all rfl)
