import PyProof.Rows.All
import Wide.All
import OpenK.AllK
import Wide.FinOn
import Lean
import PyProof.EqAt
import PyProof.EqKinds
import PyProof.TupleCall
import PySem.Challenge.RW_rootspan_k85_papers_by_hand
set_option Elab.async false
set_option linter.all false
set_option maxRecDepth 100000
local macro_rules | `(tactic|omega)=>`(tactic|first |lia |omega (splitDisjunctions:=true))
noncomputable section
namespace Al
def KF:=@List.length_map
def KG:=@Int.mul_pos
def KH:=@Nat.le_refl
def KI:=@Int.le_of_lt
def KJ:=@Nat.zero_le
def KK:=@Rat.le_of_lt
def KL:=@List.length_pos_iff
def KM:=@Int.mul_ne_zero
def KN:=@Int.mul_nonneg
def KO:=@Int.mul_zero
def KP:=@List.mem_singleton
def KQ:=@Int.mul_assoc
def KR:=@Rat.mul_le_mul_of_nonneg_right
def KS:=@List.mem_cons
def KT:=@Int.mul_le_mul_of_nonneg_right
def KU:=@Rat.mul_nonneg
def KW:=@Rat.le_refl
def KY:=@Rat.mul_le_mul_of_nonneg_left
def KZ:=@Nat.le_trans
def K0:=@List.size_toArray
def K3:=@Rat.intCast_mul
def K4:=@Int.one_mul
def K5:=@Int.pow_succ
def K6:=@Int.le_refl
def K7:=@Rat.mul_pos
def K8:=@Int.mul_comm
def K9:=@Int.mul_eq_zero
def La:=@Rat.div_mul_cancel
def Lb:=@List.length_append
def Lc:=@Int.zero_mul
def Ld:=@Rat.intCast_lt_intCast
def Le:=@Int.mul_one
def Lf:=@Rat.not_lt
def Lg:=@Nat.lt_of_lt_of_le
def Lh:=@Nat.ne_of_lt
def Li:=@Int.not_lt
def Lj:=@Int.natAbs_mul
def Lk:=@Rat.le_total
def Ll:=@List.mem_cons_of_mem
def Lm:=@Bool.false_ne_true
def Ln:=@Int.ne_of_gt
def Lo:=@Int.mul_lt_mul_of_pos_right
def Lp:=@Int.natAbs_natCast
def Lr:=@List.length_cons
def Ls:=@List.mem_cons_self
def Lu:=@List.map_append
def Lv:=@List.length_eq_zero_iff
def Lw:=@Int.zero_add
def Lx:=@Nat.mul_le_mul_right
def Ly:=@Int.not_le
def Lz:=@List.mem_append_right
def LA:=@Nat.le_of_not_lt
def LB:=@List.take_length
def LC:=@Int.lt_or_gt_of_ne
def LD:=@Rat.mul_lt_mul_of_pos_right
def LF:=@Rat.not_le
def LG:=@List.length_take
def LH:=@Int.add_zero
def LI:=@Int.pow_zero
def LJ:=@Nat.lt_irrefl
def LK:=@Nat.lt_succ_self
def LL:=@List.length_drop
def LM:=@Nat.sub_zero
def LO:=@List.mem_map
def LP:=@Int.natCast_mul
def LQ:=@List.take_add_one
def LR:=@Int.mul_pos_of_neg_of_neg
def LS:=@Int.lt_of_mul_lt_mul_right
def LU:=@Int.lt_or_le
def LV:=@List.not_mem_nil
def LW:=@List.length_set
def LX:=@Nat.sub_self
def LY:=@List.length_range
def LZ:=@Nat.gcd_dvd_left
def L0:=@Nat.le_of_lt
def L1:=@List.mem_append
def L3:=@Nat.le_of_eq
def L4:=@List.replicate_succ
def L5:=@List.lookup_cons
def L6:=@Int.add_comm
def L7:=@List.map_map
def L8:=@List.eq_nil_of_length_eq_zero
def L9:=@Int.mul_le_mul
def Ma:=@List.drop_zero
def Mb:=@Int.natCast_pow
def Mc:=@Int.toNat_of_nonneg
def Md:=@Bool.eq_iff_iff
def Me:=@List.map_cons
def Mf:=@Nat.pow_le_pow_right
def Mg:=@Int.natAbs_pos
def Mh:=@Nat.gcd_dvd_right
def Mi:=@Int.ofNat_dvd_left
def Mj:=@Int.pow_pos
def Ml:=@Rat.intCast_add
def Mm:=@List.mem_append_left
def Mn:=@List.append_nil
def Mo:=@Bool.and_eq_true
def Mp:=@List.all_eq_true
def Mr:=@List.getElem_mem
def Ms:=@Int.mul_nonneg_of_nonpos_of_nonpos
def Mt:=@Nat.le_mul_of_pos_left
def Mu:=@List.map_congr_left
def Mv:=@Nat.dvd_trans
def Mw:=@Int.natCast_nonneg
def Mx:=@Int.mul_neg_of_pos_of_neg
def Mz:=@Int.lt_trichotomy
def MA:=@Int.lt_or_eq_of_le
def MB:=@Nat.min_le_left
def MC:=@List.mem_range
def MD:=@List.flatten_cons
def ME:=@List.append_assoc
def MF:=@List.drop_eq_getElem_cons
def MG:=@Nat.mul_le_mul
def MH:=@Int.natAbs_sub_le
def MI:=@Nat.add_le_add
def MJ:=@Rat.intCast_inj
def MK:=@Rat.intCast_sub
def ML:=@List.mem_of_mem_drop
def MM:=@List.drop_length
def MN:=@List.length_replicate
def MO:=@Nat.lt_of_le_of_lt
def MP:=@Int.natAbs_dvd_natAbs
def MQ:=@Int.mul_neg_of_neg_of_pos
def MR:=@List.length_eq_one_iff
def MS:=@Int.mul_le_mul_of_nonneg_left
def MT:=@Rat.le_iff_lt_or_eq
def MU:=@Int.le_of_mul_le_mul_right
def MV:=@Int.mul_lt_mul_of_pos_left
def MW:=@Rat.mul_lt_mul_of_pos_left
end Al
open Al
namespace PySem.W.Fast
def tw15574293894841852237:=()
def tw16430181400848225912:=()
def tw7179870125365477014:=()
def tw15917433646517774099:=()
def tw34510628630076889:=()
def tw6460647644348156487:=()
def tw9490509578103001181:=()
def tw1727033435327777270:=()
def tw5491722436204626107:=()
def tw17509679312861971821:=()
def tw2657998207629030000:=()
def tw7997744548010265001:=()
def tw10203095273010274965:=()
def tw10033691743217879596:=()
def tw13464306355532663764:=()
def tw15142767991021293818:=()
def tw13344086908264267751:=()
def tw7302385925691024871:=()
def tw14076466294423603482:=()
def tw8555951705341387909:=()
def tw9945682823342113004:=()
def tw16489423559614405080:=()
def tw17022727979166533983:=()
def tw11383002297938696104:=()
def tw4634125675616971126:=()
def tw18220444753048720669:=()
def tw10439028715633609340:=()
def tw16012127613292770573:=()
def tw13754749113918715783:=()
def tw117809072696767297:=()
def tw14970208716303831198:=()
def tw9814074035031948091:=()
def tw17047607023368480397:=()
def tw7494431742982257363:=()
def tw5973933417675771298:=()
def tw5353230464878159913:=()
def tw11083714186706107812:=()
def tw11605358495312477751:=()
def tw4804438709491283373:=()
def tw14553699807592528196:=()
def tw15665006785495999937:=()
def tw11437645667175499336:=()
def tw17751498364720977560:=()
def tw9569333988599293139:=()
def tw798505176437279472:=()
def tw121736958293288868:=()
def tw15168627989722848023:=()
def tw14189597642713313193:=()
def tw10352083124967882121:=()
def tw2275512708895656426:=()
def tw4230942686886624886:=()
def tw14988404438021548630:=()
def tw9567712731721842776:=()
def tw11568755030824664760:=()
def tw12511583111438320521:=()
def tw8753777056522384779:=()
def tw1481205943459623407:=()
def tw8858082047417859548:=()
def tw4407812835208159532:=()
def tw3778744455803664116:=()
def tw5652186802483058829:=()
def tw6441400697570149592:=()
def tw15312096249067232979:=()
def tw587481854560447429:=()
def tw14667122655146411943:=()
def tw14781280173859517089:=()
def tw1458484639503362121:=()
def tw15472937803979678243:=()
def tw11915775538799119351:=()
def tw2624429575131548321:=()
def tw11103979731500315073:=()
def tw9759701935951730804:=()
def tw16333712456610905689:=()
def tw11617594255251484901:=()
def tw13714846230252475263:=()
def tw16611738316982116333:=()
def tw10983201610596685250:=()
def tw10567862030276341877:=()
def tw6779775294680152589:=()
def tw8919926793751968562:=()
def tw17025915165968706711:=()
def tw17579729846049223918:=()
def tw4655273894327398796:=()
def tw9664164994176310844:=()
def tw6739302611331588934:=()
def tw4124313059867303180:=()
def tw7842785054881148550:=()
def tw14620547129690119106:=()
def tw14280369775921969237:=()
def tw9552748307329914665:=()
def tw6761975136360052306:=()
def tw8473172113133301050:=()
def tw1018623127981293907:=()
def tw4225003464788959813:=()
def tw6058645432467084255:=()
def tw10519681896455238260:=()
def tw682196367131127301:=()
def tw9841534562046769868:=()
def tw3425851007272549990:=()
def tw16649740602452923888:=()
def tw491307417770942154:=()
def tw8294081383037724808:=()
def tw693827969490686332:=()
def tw2303902077837407787:=()
def tw10043505005397409474:=()
def tw17448931735555373016:=()
def tw5437846171191973669:=()
def tw17775337103380886383:=()
def tw6966795078463644498:=()
def tw16125389202667024836:=()
def tw6817700123342995315:=()
def tw510436280002825443:=()
def tw3137084319003763794:=()
def tw14916731523151260704:=()
def tw12443957138918574115:=()
def tw1834123393564657670:=()
def tw1636719450548067573:=()
def tw16974403245207538238:=()
def tw12276916711724544312:=()
def tw754345541331735402:=()
def tw887333594679275615:=()
def tw3713832697135902723:=()
def tw15581255590250617211:=()
def tw16762618283390626541:=()
def tw14036036390627601313:=()
def tw17113979386690093325:=()
def tw16118143627710733802:=()
def tw5040477105575104254:=()
def tw1945614278687407133:=()
def tw15667046500755693613:=()
def tw11189526338253076565:=()
def tw12501416716446695452:=()
def tw8998933450190294738:=()
def tw17202649669510874814:=()
def tw9801448755830933403:=()
def tw10497438914665446048:=()
def tw13282891261243699159:=()
def tw13071922946850173944:=()
def tw4108903858260319844:=()
def tw8848138165077174780:=()
def tw6814608579103669755:=()
def tw17794522234113598814:=()
def tw9368431376587727941:=()
def tw1644462891248983240:=()
def tw5398015600775891500:=()
def tw13990344916902118168:=()
def tw2947711784723544868:=()
def tw2991485923874407323:=()
def tw9003715876082398846:=()
def tw4375928633550697421:=()
def tw5784339136642875720:=()
def tw613635357389835607:=()
def tw9639527666307704894:=()
def tw342980671276900928:=()
def tw17510241717609377401:=()
def tw3647914525024282244:=()
def tw14456637818403074796:=()
def tw9072886165332629612:=()
def tw1062061485121870374:=()
def tw14066702924867162868:=()
def tw11455603365843550832:=()
def tw10076292746475820947:=()
def tw17951508374860556963:=()
def tw2728506950687464789:=()
def tw13639583881303656790:=()
def tw2196755661347904893:=()
def tw16137247889660506229:=()
def tw14759697332875475097:=()
def tw13220001581099423227:=()
def tw3900212835504274286:=()
def tw1819828014117379814:=()
def tw17520571218551397928:=()
def tw11528043775890502411:=()
def tw4448829796172946290:=()
def tw3711756214147210476:=()
def tw10335560535273193287:=()
def tw10927159784706263533:=()
def tw7803793654247338017:=()
def tw1040363790824315858:=()
def tw5440382548544613810:=()
def tw14164497268428762949:=()
def tw15728906036670219610:=()
def tw3106732852057654108:=()
def tw14691403669092741899:=()
def tw14499448292534493780:=()
def tw8312614782551123188:=()
def tw11642090947938417244:=()
def tw13767088640429683462:=()
def tw4624312717381932729:=()
def tw18083713279478909599:=()
def tw1083866928637960266:=()
def tw1804375064517845119:=()
def tw17192548868669991417:=()
def tw12094838035721259772:=()
def tw16542137460736057072:=()
def tw3534267793044256138:=()
def tw1968121286418562212:=()
def tw554330723666383406:=()
def tw4909417758600750403:=()
def tw12310306005560794347:=()
def tw1200535102168996066:=()
def tw1686962278284416187:=()
def tw6770988972091946937:=()
def tw17607611562682401008:=()
def tw15653139484102003643:=()
def tw11578614927324039687:=()
def tw3646667412056169860:=()
def tw8969504156058620920:=()
def tw11582608138839915274:=()
def tw14292443746343891614:=()
def tw3624812827056117107:=()
def tw15708942188061326332:=()
def tw5399975420531457906:=()
def tw2691760187932667333:=()
def tw11964944171384152925:=()
def tw2561792553770448192:=()
def tw16988692941592457395:=()
def tw17754774180327083032:=()
def tw7209532952407592609:=()
def tw7977308279164359592:=()
def tw3328273110417073008:=()
def tw2515945871834215311:=()
def tw9907043524092576658:=()
def tw14125177293400857946:=()
def tw13654896572307062545:=()
def tw4571567346534919294:=()
def tw1214498495811053208:=()
def tw15503776875894910194:=()
def tw4745175033745109883:=()
def tw138016319896088941:=()
def tw17450872260574662510:=()
def tw5574463659963006716:=()
def tw17233817090183754221:=()
def tw7003106513401205430:=()
def tw2346915798548496485:=()
def tw7536740188006615213:=()
def tw12982366688584029535:=()
def tw3394256150381084071:=()
def tw5239479755380360394:=()
def tw9967293437407205387:=()
def tw6632628937427351780:=()
def tw13090440211614713747:=()
def tw8277777091188149587:=()
def tw9934652660719451454:=()
def tw10103268118186696781:=()
def tw9179892937774557357:=()
def tw6894169790648171639:=()
def tw8898083582035725900:=()
def tw1435112499984555740:=()
def tw10171510209886811787:=()
def tw10636978370116181765:=()
def tw6704359491891235658:=()
def tw8503385264971178755:=()
def tw5938790222963933406:=()
def tw5651863216913558041:=()
def tw10825878064203191313:=()
def tw2339881237938145121:=()
def tw15331818820405511509:=()
def tw18063749342114988831:=()
def tw18423620444559712372:=()
def tw14555122044094865921:=()
def tw11750167753259734729:=()
def tw16121385152797456379:=()
def tw13260927663191444795:=()
def tw8266643310632422927:=()
def tw14601392024903901039:=()
def tw8550460259401718997:=()
def tw16507618138757345339:=()
def tw9795864090928391900:=()
def tw9394698887238648880:=()
def tw17051561737775305056:=()
def tw10373874271058284005:=()
def tw4468431643435546059:=()
def tw4216227334756393590:=()
def tw13416664629240271887:=()
def tw17258754866542024673:=()
def tw1551999944185797869:=()
def tw4660616153130333885:=()
def tw8745699222823996622:=()
def tw12895633456891417782:=()
def tw9048057724902252775:=()
def tw18078371020819390413:=()
def tw3290385241904716521:=()
def tw12797866400919272364:=()
def tw7158657036414820479:=()
def tw5264532881602313990:=()
def tw7748380572280888871:=()
def tw2251048395154547832:=()
def tw5988342152806951468:=()
def tw11604682586221037757:=()
def tw9456396075784648423:=()
def tw14791973176693804138:=()
def tw9632059858246574015:=()
def tw17169485545524031938:=()
def tw4507444451264810196:=()
def tw5513317718411560870:=()
def tw18053289384433935106:=()
def tw8998060630481211194:=()
def tw8053768496966856043:=()
def tw10407743261801519681:=()
def tw1995451457558044054:=()
def tw11455459025381659470:=()
def tw12447305034526181260:=()
def tw7481362924200031687:=()
def tw12003823832460243786:=()
def tw10064389924350814050:=()
def tw17068404565004538413:=()
def tw11878087294176254625:=()
def tw11837050634622172121:=()
def tw11213813961469295658:=()
def tw18219202732717597911:=()
def tw17719993626064887562:=()
def tw13406534957435691944:=()
def tw15157587543529287112:=()
def tw12405054825618335480:=()
def tw8070826156262119220:=()
def tw724101805679340962:=()
def tw1787269219515455348:=()
def tw17628693984883128154:=()
def tw8216425108575941667:=()
def tw51270352792939974:=()
def tw9318208674714711872:=()
def tw4472493808649332681:=()
def tw5382890541373013857:=()
def tw15532677092459175522:=()
def tw16368428977050997009:=()
def tw5280333010874677018:=()
def tw16085523244097300302:=()
def tw15386929561299310943:=()
def tw5093901922281276180:=()
def tw18021363320622832427:=()
def tw13388117817693961613:=()
def tw18038311953694562020:=()
def tw2114400488318327642:=()
def tw5620232018047540475:=()
def tw1291640540167930381:=()
def tw6083733553628241707:=()
def tw3463107535721445779:=()
def tw13274368828281213401:=()
def tw17619476564011743586:=()
def tw12350192356507004232:=()
def tw573510447253997119:=()
def tw3616006988146472371:=()
def tw4516441963361119265:=()
def tw16182027602451579486:=()
def tw16676957243989281741:=()
def tw7057163990188905742:=()
def tw17270139362365508323:=()
def tw12794459826379424255:=()
def tw4467604634327659613:=()
def tw15835018215299134438:=()
def tw17275224850126144930:=()
def tw10520091584904429745:=()
def tw4441035355134201142:=()
def tw1453837307083044466:=()
def tw6473000360585717629:=()
def tw6321921662527980242:=()
def tw15526314636686355113:=()
def tw3686904140252726872:=()
def tw2067508976058198326:=()
def tw8185509207248538266:=()
def tw8678073598786461740:=()
def tw16746914638117748006:=()
def tw7022586828244670156:=()
def tw3856359645182075771:=()
def tw5794323455304083870:=()
def tw10051122650801173988:=()
def tw9628429899423029257:=()
def tw13715421628905140588:=()
def tw17158175012162122277:=()
def tw5785357087606640428:=()
def tw570071740275919447:=()
def tw1894483881968005296:=()
def tw5466288714164049702:=()
def tw18217594109604284052:=()
def tw15209335911948549198:=()
def tw13007859544213843904:=()
def tw16303032108359670647:=()
def tw11441599074990455824:=()
def tw10096210514089306133:=()
def tw9728418846330058864:=()
def tw1475531064484211456:=()
def tw13952330088670425150:=()
def tw12891918399141138196:=()
def tw16268823044108772457:=()
def tw1367156062155980905:=()
def tw10066890474954160591:=()
def tw17677504503313648867:=()
def tw2229513126735458564:=()
def tw5369194080601785594:=()
def tw3855646888000826180:=()
def tw12555487927228993034:=()
def tw12747378401314459450:=()
def tw1140651808598398462:=()
def tw10656176455462864063:=()
def tw12997728198408514615:=()
def tw12530288529203517722:=()
def tw4462133538390013596:=()
def tw6360671549917381093:=()
def tw8682232111335444338:=()
def tw11964686350143618367:=()
def tw9013918317547915644:=()
def tw15413485041320005701:=()
def tw15702636204379996134:=()
def tw3447373959155934610:=()
def tw18174957082074551966:=()
def tw14900151568570140134:=()
def tw13631275276144885416:=()
def tw932999839177547108:=()
def tw5674281276595715346:=()
def tw7632169193929034661:=()
end PySem.W.Fast
namespace L2
open PySem PySem.Spec PyProof.Rows
abbrev Key:=Sum Int Str
noncomputable def xz:Key->Value->Bool
 |.inl k,v=>Value.isInt k v
 |.inr x,v=>Value.isStrOf x v
noncomputable def Fi(w:World):Key->Int
 |.inl k=>hashInt k
 |.inr x=>hashStr w x
theorem gm:∀{k:Key} {v:Value},xz k v=true->(∃i t,k=Sum.inl i/\v=Value.int i t)\/(∃x t,k=Sum.inr x/\v=Value.str x t)
 |.inl i,v,h=>by obtain⟨t,e⟩:=Value.isInt_shape (k:=i) (v:=v) h;exact .inl ⟨i,t,rfl,e⟩
 |.inr x,v,h=>by obtain⟨t,e⟩:=Value.isStrOf_shape (x:=x) (v:=v) h;exact .inr ⟨x,t,rfl,e⟩
theorem Fh(a b:Int):decide ((Sum.inl a:Key)=Sum.inl b)=(a == b):=by
 by_cases e:a=b
 ·subst e;simp
 ·have h:¬(Sum.inl a:Key)=Sum.inl b:=λq=>e (Sum.inl.inj q)
  rw[decide_eq_false h];exact(beq_eq_false_iff_ne.mpr e).symm
theorem Fd(a b:Str):decide ((Sum.inr a:Key)=Sum.inr b)=decide (a=b):=by
 by_cases e:a=b
 ·subst e;simp
 ·have h:¬(Sum.inr a:Key)=Sum.inr b:=λq=>e (Sum.inr.inj q)
  rw[decide_eq_false h,decide_eq_false e]
theorem Fg(a:Int)(b:Str):decide ((Sum.inl a:Key)=Sum.inr b)=false:=decide_eq_false (λq=>nomatch q)
theorem Fe(a:Str)(b:Int):decide ((Sum.inr a:Key)=Sum.inl b)=false:=decide_eq_false (λq=>nomatch q)
noncomputable def xm(prog:Program)(w:World):PySem.KeyKind prog w Key where
 is:=xz
 hash:=Fi w
 inj:=λv a b ha hb=>by
  rcases gm ha with⟨i,t,rfl,rfl⟩ |⟨x,t,rfl,rfl⟩
  ·rcases gm hb with⟨j,u,rfl,e⟩ |⟨y,u,rfl,e⟩
   ·injection e with e1 _;rw[e1]
   ·exact nomatch e
  ·rcases gm hb with⟨j,u,rfl,e⟩ |⟨y,u,rfl,e⟩
   ·exact nomatch e
   ·injection e with e1 _;rw[e1]
 byValue:=λk v h=>by rcases gm h with⟨i,t,rfl,rfl⟩ |⟨x,t,rfl,rfl⟩<;>rfl
 pyHash:=λhv h=>by
  rcases gm hv with⟨i,t,rfl,rfl⟩ |⟨x,t,rfl,rfl⟩
  ·exact wpAny_pyHash_int h
  ·exact wpAny_pyHash_str h
 eqBool:=λhu hv h=>by
  rcases gm hu with⟨i,t,rfl,rfl⟩ |⟨x,t,rfl,rfl⟩
  ·rcases gm hv with⟨j,u,rfl,rfl⟩ |⟨y,u,rfl,rfl⟩
   ·rw[Fh]at h;exact wpAny_eqBool_int h
   ·rw[Fg]at h;exact SeqAt.EqAt.int_str i t y u _ _ _ _ h
  ·rcases gm hv with⟨j,u,rfl,rfl⟩ |⟨y,u,rfl,rfl⟩
   ·rw[Fe]at h;exact SeqAt.EqAt.str_int x t j u _ _ _ _ h
   ·rw[Fd]at h;exact wpAny_eqBool_str h
 «strs»:=λk x t v h=>by
  rcases gm h with⟨i,u,rfl,e⟩ |⟨y,u,rfl,e⟩
  ·exact nomatch e
  ·injection e with e1 _
   subst e1;cases v<;>rfl
inductive V where
 |non |bl (b:Bool) |int (i:Int) |str (x:Str) |byt (b:Array UInt8) |flt (b:UInt64) |ref (a:Addr) |ty (n:String)
 deriving DecidableEq
noncomputable def RelV:V->Value->Prop
 |.non,u=>u=Value.none
 |.bl b,u=>u=Value.bool b
 |.int i,u=>∃t,u=Value.int i t
 |.str x,u=>∃t,u=Value.str x t
 |.byt b,u=>∃t,u=Value.bytes b t
 |.flt b,u=>∃t,u=Value.float b t
 |.ref a,u=>u=Value.ref a
 |.ty n,u=>u=Value.type n
abbrev Vals:List V->List Value->Prop:=Paired RelV
theorem Vals.length{xs:List V}{us:List Value}(r:Vals xs us):xs.length=us.length:=Paired.length r
theorem Vals.get:∀{xs:List V} {us:List Value} {i:Nat} {x:V},Vals xs us->xs[i]?=some x->∃u,us[i]?=some u/\RelV x u
 |_,_,_,_,.nil,e=>by simp at e
 |_,_,0,_,.cons r _,e=>by simp at e;subst e;exact⟨_,rfl,r⟩
 |_,_,i+1,x,.cons _ t,e=>by obtain⟨u,h1,h2⟩:=Vals.get (i:=i) (x:=x) t (by simpa using e);exact⟨u,by simpa using h1,h2⟩
theorem Vals.set{x:V}{u:Value}(r:RelV x u):∀{xs:List V} {us:List Value} (i:Nat),Vals xs us->Vals (xs.set i x) (us.set i u)
 |_,_,_,.nil=>.nil
 |_,_,0,.cons _ t=>.cons r t
 |_,_,i+1,.cons q t=>.cons q (Vals.set r i t)
theorem Vals.append:∀{xs ys:List V} {us ws:List Value},Vals xs us->Vals ys ws->Vals (xs++ys) (us++ws)
 |_,_,_,_,.nil,s=>s
 |_,_,_,_,.cons r t,s=>.cons r (Vals.append t s)
theorem Vals.take:∀{xs:List V} {us:List Value} (n:Nat),Vals xs us->Vals (xs.take n) (us.take n)
 |_,_,0,_=>.nil
 |_,_,_+1,.nil=>.nil
 |_,_,n+1,.cons r t=>.cons r (Vals.take n t)
theorem Vals.drop:∀{xs:List V} {us:List Value} (n:Nat),Vals xs us->Vals (xs.drop n) (us.drop n)
 |_,_,0,r=>r
 |_,_,_+1,.nil=>.nil
 |_,_,n+1,.cons _ t=>Vals.drop n t
noncomputable def RelO:Option V->Option Value->Prop
 |some v,some u=>RelV v u
 |none,none=>True
 |_,_=>False
noncomputable def KV{κ:Type}:List (κ×V)->List (κ×Value)->Prop:=Paired λ(p:κ×V) (q:κ×Value)=>p.1=q.1/\RelV p.2 q.2
noncomputable def kV:Key->V
 |.inl i=>.int i
 |.inr x=>.str x
inductive HO where
 |lst (xs:List V)
 |tup (xs:List V)
 |dK (kvs:List (Key×V)) |dT (kvs:List (List Key×V))
 |set (S:Int->Bool) (n:Nat)
 |ins (C dx:Addr) (fs:List (Str×V))
 |own (x:Addr)
 |xd (fs:List (Str×V))
 |met (f x:Addr)
 |rng (lo hi:Int)
 |frz (o:Obj) (u:HO)
 |tbl (ps:Array Value)
 |ext (φ:Heap->Prop)
abbrev Hp:=Addr->Option HO
noncomputable def upd(H:Hp)(a:Addr)(o:HO):Hp:=λb=>if b=a then some o else H b
theorem ay{H:Hp}{a:Addr}{o:HO}:upd H a o a=some o:=by unfold upd;rw[if_pos rfl]
theorem upd_ne{H:Hp}{a b:Addr}{o:HO}(h:b≠a):upd H a o b=H b:=by unfold upd;rw[if_neg h]
theorem lC{H:Hp}{a:Addr}{o u:HO}:upd (upd H a o) a u=upd H a u:=by funext b;unfold upd;split<;>rfl
theorem aX{H:Hp}{a b:Addr}{o:HO}(h:H a=some o)(h':H b=none):a≠b:=by intro e;subst e;rw[h]at h';cases h'
section
variable (P:Program)(w:World)
noncomputable def ObjOk(H:Hp)(h:Heap)(a:Addr):HO->Prop
 |.lst xs=>xs.length<=sizeLine/\∃(its:List Value) (n:Nat),Vals xs its/\h.get? a=some { cls:=.type "list",data:=.seq its.toArray n }
 |.tup xs=>xs.length<=sizeLine/\∃its:List Value,Vals xs its/\IsTup h a its.toArray
 |.dK kvs=>kvs.length<=sizeLine/\(a == sysModules)=false/\∃vs,KV kvs vs/\h.DictOf (xm P w) a vs
 |.dT kvs=>kvs.length<=sizeLine/\(a == sysModules)=false/\∃xs:List (List Key×Addr×Value),
  Paired (λ(p:List Key×V) (q:List Key×Addr×Value)=>p.1=q.1/\H q.2.1=some (.tup (p.1.map kV))/\RelV p.2 q.2.2) kvs xs /\
  ∃o es ep,h.get? a=some o/\o.ExactDict/\o.data=.dict es ep/\es.toList=xs.map (entryOfKey (tupleKind (xm P w)))/\(xs.map (·.1)).Nodup
 |.set S n=>h.SetOf (intKind P w) a S n
 |.ins C dx fs=>H dx=some (.own a)/\fs.length<=1000/\dx≠a/\h.get? a=some (PySem.W.instObj C dx) /\
  ∃mA,h.Ns1 dx mA/\(∀f,RelO (fs.lookup f) (mA f))/\PySem.Within mA (fs.map (·.1))
 |.own _=>∃o,h.get? a=some o
 |.xd fs=>∃mA,h.Ns1 a mA/\∀f,RelO (fs.lookup f) (mA f)
 |.rng lo hi=>∃t u v,h.get? a=some { cls:=.type "range",data:=.fields #[.int lo t,.int hi u,.int 1 v] }
 |.frz o u=>h.get? a=some o/\ObjOk H h a u
 |.tbl ps=>h.get? a=some { cls:=.none,data:=.fields ps }
 |.met f x=>h.get? a=some (PySem.W.methodObj (.ref f) (.ref x))
 |.ext φ=>φ h/\(∃o,h.get? a=some o)/\∀h1 h2:Heap,φ h1->(∀o,h1.get? a=some o->h2.get? a=some o)->φ h2
def HOk(H:Hp)(h:Heap):Prop:=∀a o,H a=some o->ObjOk P w H h a o
end
section
variable {P:Program}{w:World}{H H':Hp}{h h':Heap}{a:Addr}{o:HO}
theorem ObjOk.lt(x:ObjOk P w H h a o):a<h.objs.size:=by
 cases o with
 |lst xs=>obtain⟨_,_,_,_,e⟩:=x;exact Heap.lt_size e
 |tup xs=>obtain⟨_,_,_,p⟩:=x;exact p.lt
 |dK kvs=>obtain⟨_,_,_,_,o,_,_,e,_⟩:=x;exact Heap.lt_size e
 |dT kvs=>obtain⟨_,_,_,_,o,_,_,e,_⟩:=x;exact Heap.lt_size e
 |set S n=>obtain⟨o,_,_,_,e,_⟩:=x;exact Heap.lt_size e
 |ins C dx fs=>obtain⟨_,_,_,e,_⟩:=x;exact Heap.lt_size e
 |own y=>obtain⟨_,e⟩:=x;exact Heap.lt_size e
 |xd fs=>obtain⟨_,⟨_,_,_,e,_⟩,_⟩:=x;exact Heap.lt_size e
 |rng lo hi=>obtain⟨_,_,_,e⟩:=x;exact Heap.lt_size e
 |frz ob u=>obtain⟨e,_⟩:=x;exact Heap.lt_size e
 |tbl ps=>exact Heap.lt_size (show h.get? a=some _ from x)
 |met f y=>exact Heap.lt_size (show h.get? a=some _ from x)
 |ext φ=>obtain⟨_,⟨_,e⟩,_⟩:=x;exact Heap.lt_size e
theorem Paired.mapP{α β:Type}{F G:α->β->Prop}:∀{l₁:List α} {l₂:List β},Paired F l₁ l₂->(∀a b,F a b->G a b)->Paired G l₁ l₂
 |_,_,.nil,_=>.nil
 |_,_,.cons r t,f=>.cons (f _ _ r) (Paired.mapP t f)
theorem ObjOk.stay(x:ObjOk P w H h a o)(k:∀b u,(b=a\/H b=some (.own a))->h.get? b=some u->h'.get? b=some u)
 (ho:∀b,H b=some (.own a)->H' b=some (.own a)) (ht:∀b xs,H b=some (.tup xs)->H' b=some (.tup xs)):ObjOk P w H' h' a o:=by
 induction o with
 |lst xs=>obtain⟨z,its,n,r,e⟩:=x;exact⟨z,its,n,r,k _ _ (.inl rfl) e⟩
 |tup xs=>obtain⟨z,its,r,ob,e,c⟩:=x;exact⟨z,its,r,ob,k _ _ (.inl rfl) e,c⟩
 |dK kvs=>obtain⟨z,y,vs,r,ob,es,ep,e,c⟩:=x;exact⟨z,y,vs,r,ob,es,ep,k _ _ (.inl rfl) e,c⟩
 |dT kvs =>obtain⟨z,y,xs,r,ob,es,ep,e,c⟩:=x;exact⟨z,y,xs,Paired.mapP r λp q z=>⟨z.1,ht _ _ z.2.1,z.2.2⟩,ob,es,ep,k _ _ (.inl rfl) e,c⟩
 |set S n=>obtain⟨ob,es,ep,t,e,c⟩:=x;exact⟨ob,es,ep,t,k _ _ (.inl rfl) e,c⟩
 |ins C dx fs =>obtain⟨d,z,ne,e,mA,⟨od,es,ep,e2,c⟩,r⟩:=x;exact⟨ho _ d,z,ne,k _ _ (.inl rfl) e,mA,⟨od,es,ep,k _ _ (.inr d) e2,c⟩,r⟩
 |own y=>obtain⟨ob,e⟩:=x;exact⟨ob,k _ _ (.inl rfl) e⟩
 |xd fs=>obtain⟨mA,⟨od,es,ep,e,c⟩,r⟩:=x;exact⟨mA,⟨od,es,ep,k _ _ (.inl rfl) e,c⟩,r⟩
 |rng lo hi=>obtain⟨t,u,v,e⟩:=x;exact⟨t,u,v,k _ _ (.inl rfl) e⟩
 |frz ob u ih=>obtain⟨e,q⟩:=x;exact⟨k _ _ (.inl rfl) e,ih q⟩
 |tbl ps =>have e:h.get? a=some { cls:=.none,data:=.fields ps }:=x;show h'.get? a=some { cls:=.none,data:=.fields ps };exact k a _ (.inl rfl) e
 |met f y =>have e:h.get? a=some (PySem.W.methodObj (.ref f) (.ref y)):=x;show h'.get? a=some (PySem.W.methodObj (.ref f) (.ref y));exact k a _ (.inl rfl) e
 |ext φ=>obtain⟨p,⟨o,e⟩,st⟩:=x;exact⟨st _ _ p λo q=>k _ _ (.inl rfl) q,⟨o,k _ _ (.inl rfl) e⟩,st⟩
theorem HOk.lt(x:HOk P w H h)(e:H a=some o):a<h.objs.size:=(x a o e).lt
theorem HOk.fresh(x:HOk P w H h)(e:h.objs.size<=a):H a=none:=by
 cases q:H a with
 |none=>rfl
 |some u=>exact absurd (Lg (x.lt q) e) (LJ _)
theorem HOk.kept(x:HOk P w H h)(k:∀b u,h.get? b=some u->h'.get? b=some u):HOk P w H h':=λa o e =>(x a o e).stay (λb u _ q=>k b u q) (λ_ q=>q) λ_ _ q=>q
theorem HOk.laid(x:HOk P w H h)(k:∀b u,h.get? b=some u->h'.get? b=some u)(hp:h.objs.size<=a)(new:ObjOk P w (upd H a o) h' a o):HOk P w (upd H a o) h':=λb u e=>by
 have hn:=x.fresh hp;by_cases hb:b=a
 ·subst hb;rw[ay]at e;cases e;exact new
 ·rw[upd_ne hb]at e;exact(x b u e).stay (λc v _ q=>k c v q) (λc q=>by rw[upd_ne (aX q hn)];exact q) λc xs q=>by rw[upd_ne (aX q hn)];exact q
end
def Rd(H:Hp)(a:Addr)(u:HO):Prop:=H a=some u\/∃o,H a=some (.frz o u)
theorem Rd.of{H:Hp}{a:Addr}{u:HO}(h:H a=some u):Rd H a u:=.inl h
theorem Rd.ok{P:Program}{w:World}{H:Hp}{h:Heap}{a:Addr}{u:HO}(r:Rd H a u)(x:HOk P w H h):ObjOk P w H h a u:=by
 rcases r with r |⟨o,r⟩
 ·exact x a u r
 ·obtain⟨_,q⟩:=x a _ r;exact q
noncomputable def Mut:Option HO->Prop
 |some (.lst _)=>True
 |some (.dK _)=>True
 |some (.dT _)=>True
 |some (.set _ _)=>True
 |some (.ins _ _ _)=>True
 |some (.ext _)=>True
 |_=>False
section
variable {P:Program}{w:World}{H:Hp}{h h':Heap}{x e:Addr}{o':HO}
theorem HOk.write(ok:HOk P w H h)(mu:Mut (H x))(he:e=x\/H e=some (.own x))(k:∀b u,b≠e->h.get? b=some u->h'.get? b=some u)(heo:∃u,h'.get? e=some u)
 (new:ObjOk P w (upd H x o') h' x o'):HOk P w (upd H x o') h':=λb u q=>by
 have nown:∀c y,H c=some (.own y)->c≠x:=λc y r z=>by subst z;rw[r]at mu;exact mu
 have ntup:∀c xs,H c=some (.tup xs)->c≠x:=λc xs r z=>by subst z;rw[r]at mu;exact mu
 by_cases hb:b=x
 ·subst hb;rw[ay]at q;cases q;exact new
 ·rw[upd_ne hb]at q;by_cases hbe:b=e
  ·have q':H b=some (.own x):=by
    rcases he with z |z
    ·exact absurd (hbe.trans z) hb
    ·rw[hbe];exact z
   rw[q]at q';cases q';obtain⟨v,hv⟩:=heo;exact⟨v,by rw[hbe];exact hv⟩
  ·refine(ok b u q).stay (λc v hc r=>k c v ?_ r) (λc r=>by rw[upd_ne (nown c b r)];exact r) λc xs r=>by rw[upd_ne (ntup c xs r)];exact r
   rcases hc with rfl |hc
   ·exact hbe
   ·rintro rfl;rcases he with z |z
    ·exact nown c b hc z
    ·rw[hc]at z;cases z;exact hb rfl
end
structure Un(fs ex:List Addr)(H H':Hp)(h h':Heap):Prop where
 keep:∀b o,h.get? b=some o->H b=none->b∉fs->b∉ex->h'.get? b=some o
 slot:∀b o,h.get? b=some o->H b=none->b∈fs->b∉ex->∃sl,h'.get? b=some { o with slots:=sl }
 free:∀b o,h.get? b=some o->H b=none->b∉ex->H' b=none
 there:∀b o,h.get? b=some o->b∉ex->∃o',h'.get? b=some o'
 tups:∀b xs,H b=some (.tup xs)->H' b=some (.tup xs)
 frzs:∀b o u,H b=some (.frz o u)->H' b=some (.frz o u)
 tbls:∀b ps,H b=some (.tbl ps)->∃more,H' b=some (.tbl (ps++more))
section
variable {fs fs' ex ex':List Addr}{H H1 H2:Hp}{h h1 h2 h':Heap}{a x e:Addr}{o:HO}
theorem Un.any(u:Un fs ex H H1 h h1){b:Addr}{ob:Obj}(q:h.get? b=some ob)(n:H b=none)(hx:b∉ex):∃sl,h1.get? b=some { ob with slots:=sl }:=by
 by_cases hb:b∈fs
 ·exact u.slot b ob q n hb hx
 ·exact⟨ob.slots,u.keep b ob q n hb hx⟩
theorem Un.kept(k:∀b u,h.get? b=some u->h'.get? b=some u):Un fs ex H H h h' :=
 ⟨λb ob q _ _ _=>k b ob q,λb ob q _ _ _=>⟨ob.slots,k b ob q⟩,λ_ _ _ n _=>n,λb ob q _=>⟨ob,k b ob q⟩,λ_ _ q=>q,λ_ _ _ q=>q,λ_ ps q=>⟨#[],by rw[q];simp⟩⟩
theorem Un.refl:Un fs ex H H h h:=Un.kept λ_ _ q=>q
theorem Un.laid(k:∀b u,h.get? b=some u->h'.get? b=some u)(hp:h.objs.size<=a)(hn:H a=none):Un fs ex H (upd H a o) h h' where
 keep:=λb u q _ _ _=>k b u q
 slot:=λb u q _ _ _=>⟨u.slots,k b u q⟩
 free:=λb u q n _=>by rw[upd_ne (Lh (Lg (Heap.lt_size q) hp))];exact n
 there:=λb u q _=>⟨u,k b u q⟩
 tups:=λb xs q=>by rw[upd_ne (aX q hn)];exact q
 frzs:=λb u xs q=>by rw[upd_ne (aX q hn)];exact q
 tbls:=λb ps q=>⟨#[],by rw[upd_ne (aX q hn),q];simp⟩
theorem Un.write(mu:Mut (H x))(he:e=x\/H e=some (.own x))(k:∀b u,b≠e->h.get? b=some u->h'.get? b=some u)(heo:∃u,h'.get? e=some u):Un fs ex H (upd H x o) h h':=by
 have hx:∀b,H b=none->b≠x:=λb n z=>by subst z;rw[n]at mu;exact mu
 have hb:∀b,H b=none->b≠e:=λb n z=>by
  subst z;rcases he with r |r
  ·exact hx b n r
  ·rw[n]at r;cases r
 have hm:∀b u,H b=some u->¬Mut (some u)->b≠x:=λb u q nm z=>by subst z;rw[q]at mu;exact nm mu
 refine⟨λb u q n _ _=>k b u (hb b n) q,λb u q n _ _=>⟨u.slots,k b u (hb b n) q⟩,λb u q n _=>by rw[upd_ne (hx b n)];exact n,λb u q _=>?_,
  λb xs q=>by rw[upd_ne (hm b _ q λz=>z)];exact q,λb u xs q=>by rw[upd_ne (hm b _ q λz=>z)];exact q,λb ps q=>⟨#[],by rw[upd_ne (hm b _ q λz=>z),q];simp⟩⟩
 by_cases hbe:b=e
 ·subst hbe;exact heo
 ·exact⟨u,k b u hbe q⟩
end
noncomputable def trk(h:Heap)(H:Hp):List Addr:=(List.range h.objs.size).filter λa=>(H a).isSome
noncomputable def fI(h:Heap)(H:Hp):Heap:=PySem.W.hideAll h (trk h H)
theorem FA(h:Heap)(H:Hp):(fI h H).objs.size=h.objs.size:=PySem.W.hideAll_size _ _
theorem FB{h:Heap}{H:Hp}{b:Addr}{o:Obj}(e:h.get? b=some o)(n:H b=none):(fI h H).get? b=some o :=
 PySem.W.hideAll_get _ e λhm=>by have q:(H b).isSome=true:=(List.mem_filter.mp hm).2;rw[n]at q;simp at q
theorem Er{h:Heap}{H:Hp}{b:Addr}{o:Obj}(e:(fI h H).get? b=some o):h.get? b=some o/\H b=none:=by
 have e':h.get? b=some o:=PySem.W.of_hideAll (trk h H) e;refine⟨e',?_⟩;cases q:H b with
 |none=>rfl
 |some x =>have hm:b∈trk h H:=List.mem_filter.mpr ⟨MC.mpr (Heap.lt_size e'),by simp[q]⟩;have z:(fI h H).get? b=none:=PySem.W.hideAll_none (trk h H) hm;rw[z]at e;cases e
noncomputable def Ht(g h:Heap)(L:Addr):List (Addr×Obj):=(List.range h.objs.size).filterMap λa=>if a=L\/(g.get? a).isSome=true then none else(h.get? a).map λo=>(a,o)
noncomputable def rest(g h:Heap)(L d:Addr):List (Addr×Obj):=(Ht g h L).filter λp=>decide (p.1≠d)
structure Mod(K:PySem.W.Frag)(mg:Str->Option Value)(base:Heap):Prop where
 kin:K.In base
 glob:base.Ns mainGlobals mg
 blt:∃mb,base.Ns builtinsNs mb/\∀x:Str,x≠"__name__"->mb x=bootBuiltins x
 nolimit:base.NoLimit
structure Cx where
 prog:Program
 w:World
 K:PySem.W.Frag
 mg:Str->Option Value
 base:Heap
 A:Around
 N:List Str
 s₀:Shared
 H₀:Hp
 env:Env
 outer:List Env
 stack:List Env
 ex:List Addr
 fn:Str->Bool
 calm:Bool
 pn:List (Addr×Obj)
 xe:Value->Shared->Prop
noncomputable def frs(l:List Env):List Addr:=l.filterMap (·.frame)
abbrev Cx.fs(X:Cx):List Addr:=frs X.outer
def Vis(sc:Scope)(x:Str):Prop:=sc.names.lookup x=some .local\/sc.names.lookup x=some .cell\/sc.names.lookup x=some .free
def Loc(sc:Scope)(x:Str):Prop:=sc.names.lookup x=some .local\/sc.names.lookup x=some .cell
noncomputable def Hz(env:Env)(h:Heap)(m:Str->Option Value)(x:Str)(u:Value):Prop :=
 (env.kindOf x=some .local/\m x=some u)\/((env.kindOf x=some .cell\/env.kindOf x=some .free)/\∃c,env.cells.lookup x=some c/\h.IsCell c (some u))
structure Cx.Ok(X:Cx):Prop where
 mod:Mod X.K X.mg X.base
 kind:X.env.scope.kind=.function
 glob:X.env.globals=mainGlobals
 blt:X.env.builtins=builtinsNs
 above:X.s₀.heap.objs.size<=X.env.locals
 inj:∀x y c,X.env.cells.lookup x=some c->X.env.cells.lookup y=some c->x=y
 has:∀x,(X.env.kindOf x=some .cell\/X.env.kindOf x=some .free)->∃c,X.env.cells.lookup x=some c
 cab:∀x c,X.fn x=true->X.env.cells.lookup x=some c->X.s₀.heap.objs.size<=c
 hd:X.calm=true->X.A.handled=none
 frames:X.A.frames=some X.stack
 stk:X.stack=X.outer\/(X.stack=X.env::X.outer/\X.env.frame=some X.env.locals)
 exf:∀b∈X.ex,b≠X.env.locals/\∀x c,X.env.cells.lookup x=some c->c≠b
 bs:∀b o,X.base.get? b=some o->X.s₀.heap.get? b=some o/\X.H₀ b=none
 bsz:X.base.objs.size<=X.s₀.heap.objs.size
 noex:∀b o,X.base.get? b=some o->b∉X.ex
 exfs:∀b∈X.ex,b∉X.fs
 funs:X.s₀.heap.FunFrames X.base X.outer
 frf:∀b∈X.fs,X.H₀ b=none
structure Inv(X:Cx)(pins:List (Addr×Obj))(σ:List (Option V))(H:Hp)(s:Shared):Prop where
 ok:X.Ok
 os:s.os=X.s₀.os
 bare:AllBare s.gens
 base:Un X.fs X.ex X.H₀ H X.s₀.heap s.heap
 loc:∃m,s.heap.Ns X.env.locals m/\∀(i:Nat) (x:Str) (v:V),X.N[i]?=some x->σ[i]?=some (some v)->Vis X.env.scope x->∃u,RelV v u/\Hz X.env s.heap m x u
 cell:∀x c,X.env.cells.lookup x=some c->∃v,s.heap.IsCell c v
 free:H X.env.locals=none
 freeC:∀x c,X.env.cells.lookup x=some c->H c=none
 pin:∀p∈X.pn++pins,s.heap.get? p.1=some p.2/\H p.1=none/\p.1≠X.env.locals/\p.1∉X.fs/\∀v,p.2.data≠.cell v
 hok:HOk X.prog X.w H s.heap
 len:σ.length=X.N.length
section
variable {X:Cx}{pins:List (Addr×Obj)}{σ:List (Option V)}{H H':Hp}{s:Shared}{h':Heap}
theorem Cx.Ok.nofr(ok:X.Ok){b:Addr}{o:Obj}(e:X.base.get? b=some o):b∉X.fs:=λhb=>by have:=(ok.funs.mem hb).1;rw[e]at this;cases this
theorem Inv.bs(I:Inv X pins σ H s):∀b o,X.base.get? b=some o->s.heap.get? b=some o/\H b=none:=λb o e =>⟨I.base.keep b o (I.ok.bs b o e).1 (I.ok.bs b o e).2 (I.ok.nofr e) (I.ok.noex b o e),I.base.free b o (I.ok.bs b o e).1 (I.ok.bs b o e).2 (I.ok.noex b o e)⟩
theorem Inv.bk(I:Inv X pins σ H s):∀b o,X.base.get? b=some o->s.heap.get? b=some o:=λb o e=>(I.bs b o e).1
theorem Inv.mod(I:Inv X pins σ H s):Mod X.K X.mg X.base:=I.ok.mod
theorem Inv.kIn(I:Inv X pins σ H s):X.K.In s.heap:=I.ok.mod.kin.keeps I.bk
theorem Inv.nolimit(I:Inv X pins σ H s):s.heap.NoLimit:=I.ok.mod.nolimit.keeps I.bk
theorem Inv.fr(I:Inv X pins σ H s):∃m,Fr X.base X.env.locals s.heap m :=
 let⟨m,hn,_⟩:=I.loc
 ⟨m,hn,I.bk,KZ I.ok.bsz I.ok.above⟩
theorem Inv.lt(I:Inv X pins σ H s):X.env.locals<s.heap.objs.size:=let⟨_,hn,_⟩:=I.loc;hn.lt
theorem Inv.sz(I:Inv X pins σ H s):X.s₀.heap.objs.size<=s.heap.objs.size:=KZ I.ok.above (L0 I.lt)
theorem Inv.nofs(I:Inv X pins σ H s){a:Addr}(h:s.heap.objs.size<=a):a∉X.fs:=λhb=>by obtain⟨_,o,ho,_⟩:=I.ok.funs.mem hb;exact absurd (Lg (Heap.lt_size ho) (KZ I.sz h)) (LJ _)
theorem Inv.cne(I:Inv X pins σ H s):∀x c,X.env.cells.lookup x=some c->c≠X.env.locals:=λx c e z=>by obtain⟨v,o,ho,hd⟩:=I.cell x c e;obtain⟨m,⟨o',es,ep,ho',hd',_⟩,_⟩:=I.loc;rw[z,ho']at ho;cases ho;rw[hd']at hd;cases hd
theorem Inv.funs(I:Inv X pins σ H s):s.heap.FunFrames X.base X.outer:=by
 have all:∀(l:List Env),(∀b∈frs l,b∈X.fs)->X.s₀.heap.FunFrames X.base l->s.heap.FunFrames X.base l:=by
  intro l
  induction l with
  |nil=>intro _ _;trivial
  |cons env r ih =>
   intro hs hl;obtain⟨hk,⟨L,o,hf,hn,ho,hd⟩,hr⟩:=hl;have hL:L∈X.fs:=hs L (by unfold frs;rw[List.filterMap_cons,hf];exact Ls);obtain⟨sl,e⟩:=I.base.slot L o ho (I.ok.frf L hL) hL λz=>I.ok.exfs L z hL
   exact⟨hk,⟨L,_,hf,hn,e,hd⟩,ih (λb hb=>hs b (by unfold frs;rw[List.filterMap_cons,hf];exact Ll _ hb)) hr⟩
 exact all X.outer (λ_ hb=>hb) I.ok.funs
theorem Inv.stack(I:Inv X pins σ H s):s.heap.FunFrames X.base X.stack:=by
 rcases I.ok.stk with e |⟨e,hf⟩
 ·rw[e];exact I.funs
 ·rw[e];obtain⟨m,hn,_⟩:=I.loc;refine .cons (by rw[I.ok.kind];decide) hf hn ?_ I.funs;exact Heap.get?_none_of_le (KZ I.ok.bsz I.ok.above)
theorem Inv.stkSub(I:Inv X pins σ H s):∀b∈frs X.stack,b∈X.env.locals::X.fs:=λb hb=>by
 rcases I.ok.stk with e |⟨e,hf⟩
 ·rw[e]at hb;exact Ll _ hb
 ·rw[e]at hb;unfold frs at hb
  rw[List.filterMap_cons,hf]at hb;exact hb
theorem Inv.stkFree(I:Inv X pins σ H s):∀b∈frs X.stack,H b=none:=λb hb=>by
 rcases KS.mp (I.stkSub b hb)with e |hb
 ·rw[e];exact I.free
 ·obtain⟨_,o,ho,_⟩:=I.ok.funs.mem hb;exact I.base.free b o ho (I.ok.frf b hb) λz=>I.ok.exfs b z hb
theorem Inv.step{g':Array GenState}{t':Nat}{d':Drawn}{ch:List Addr}(I:Inv X pins σ H s)
 (hch:∀b∈ch,(b∈X.ex\/X.s₀.heap.objs.size<=b)/\b≠X.env.locals/\(∀x c,X.env.cells.lookup x=some c->c≠b)/\∀p∈X.pn++pins,p.1≠b)
 (keep:∀b o,b≠X.env.locals->b∉X.fs->b∉ch->s.heap.get? b=some o->H b=none->h'.get? b=some o)
 (slot:∀b o,b≠X.env.locals->b∈X.fs->b∉ch->s.heap.get? b=some o->H b=none->∃sl,h'.get? b=some { o with slots:=sl }) (free:∀b o,b∉ch->s.heap.get? b=some o->H b=none->H' b=none)
 (there:∀b o,b∉ch->s.heap.get? b=some o->∃o',h'.get? b=some o')
 (tups:∀b xs,H b=some (.tup xs)->H' b=some (.tup xs)) (frzs:∀b o u,H b=some (.frz o u)->H' b=some (.frz o u)) (tbls:∀b ps,H b=some (.tbl ps)->∃more,H' b=some (.tbl (ps++more)))
 (ns:∀m,s.heap.Ns X.env.locals m->h'.Ns X.env.locals m) (hok:HOk X.prog X.w H' h') (hg:AllBare g') :
 Inv X pins σ H' { s with heap:=h',gens:=g',drawn:=d',toks:=t' }:=by
 have neL:∀b o,X.s₀.heap.get? b=some o->b≠X.env.locals:=λb o e=>Lh (Lg (Heap.lt_size e) I.ok.above)
 have neC:∀b o,X.s₀.heap.get? b=some o->b∉X.ex->b∉ch:=λb o e hx hb=>by
  rcases(hch b hb).1 with z |z
  ·exact hx z
  ·exact absurd (Lg (Heap.lt_size e) z) (LJ _)
 have cellK:∀x c,X.env.cells.lookup x=some c->∀v,s.heap.IsCell c v->h'.IsCell c v:=λx c e v ⟨o,ho,hd⟩=>by
  have nch:c∉ch:=λz=>(hch c z).2.2.1 x c e rfl
  by_cases hc:c∈X.fs
  ·obtain⟨sl,q⟩:=slot c o (I.cne x c e) hc nch ho (I.freeC x c e);exact⟨_,q,hd⟩
  ·exact⟨o,keep c o (I.cne x c e) hc nch ho (I.freeC x c e),hd⟩
 refine⟨I.ok,I.os,hg,⟨λb o e n hb hx=>?_,λb o e n hb hx=>?_,λb o e n hx=>?_,λb o e hx=>?_,λb xs e=>tups b xs (I.base.tups b xs e),λb o xs e=>frzs b o xs (I.base.frzs b o xs e),λb ps e=>?_⟩,?_,λx c e=>?_,?_,λx c e=>?_,λp hp=>?_,hok,I.len⟩
 ·exact keep b o (neL b o e) hb (neC b o e hx) (I.base.keep b o e n hb hx) (I.base.free b o e n hx)
 ·obtain⟨sl,e1⟩:=I.base.slot b o e n hb hx;obtain⟨sl',e2⟩:=slot b _ (neL b o e) hb (neC b o e hx) e1 (I.base.free b o e n hx);exact⟨sl',e2⟩
 ·obtain⟨o',e1⟩:=I.base.there b o e hx;exact free b o' (neC b o e hx) e1 (I.base.free b o e n hx)
 ·obtain⟨o',e1⟩:=I.base.there b o e hx;exact there b o' (neC b o e hx) e1
 ·obtain⟨m1,e1⟩:=I.base.tbls b ps e;obtain⟨m2,e2⟩:=tbls b _ e1;exact⟨m1++m2,by rw[e2,Array.append_assoc]⟩
 ·obtain⟨m,hn,hl⟩:=I.loc;refine⟨m,ns m hn,λi x v e1 e2 e3=>?_⟩;obtain⟨u,r,l⟩:=hl i x v e1 e2 e3;refine⟨u,r,?_⟩;rcases l with l |⟨k,c,e,z⟩
  ·exact .inl l
  ·exact .inr ⟨k,c,e,cellK x c e _ z⟩
 ·obtain⟨v,z⟩:=I.cell x c e;exact⟨v,cellK x c e v z⟩
 ·obtain⟨m,⟨o,_,_,ho,_⟩,_⟩:=I.loc;exact free _ o (λz=>(hch _ z).2.1 rfl) ho I.free
 ·obtain⟨v,o,ho,hd⟩:=I.cell x c e;exact free c o (λz=>(hch c z).2.2.1 x c e rfl) ho (I.freeC x c e)
 ·obtain⟨e,n,ne,nf,d⟩:=I.pin p hp;have nch:p.1∉ch:=λz=>(hch p.1 z).2.2.2 p hp rfl
  exact⟨keep p.1 p.2 ne nf nch e n,free p.1 p.2 nch e n,ne,nf,d⟩
theorem Inv.un{t':Nat}(I:Inv X pins σ H s)(u:Un X.fs [] H H' s.heap h')(hok:HOk X.prog X.w H' h'):Inv X pins σ H' { s with heap:=h',toks:=t' }:=by
 obtain⟨m,⟨o,es,ep,ho,r⟩,_⟩:=id I.loc;obtain⟨sl,hL⟩:=u.any ho I.free (by simp)
 exact I.step (g':=s.gens) (d':=s.drawn) (ch:=[]) (λ_ z=>nomatch z) (λb o _ hb _ e n=>u.keep b o e n hb (by simp)) (λb o _ hb _ e n=>u.slot b o e n hb (by simp)) (λb o _ e n=>u.free b o e n (by simp)) (λb o _ e=>u.there b o e (by simp)) u.tups u.frzs u.tbls (λm' hm=>by
  obtain⟨o',es',ep',ho',r'⟩:=hm;rw[ho]at ho';cases ho'
  exact⟨_,es',ep',hL,r'⟩) hok I.bare
theorem Inv.call{g':Array GenState}{t':Nat}{d':Drawn}{ch:List Addr}(I:Inv X pins σ H s)(u:Un (frs X.stack) ch H H' s.heap h')(hok:HOk X.prog X.w H' h')(hg:AllBare g')
 (hch:∀b∈ch,(b∈X.ex\/X.s₀.heap.objs.size<=b)/\b≠X.env.locals/\(∀x c,X.env.cells.lookup x=some c->c≠b)/\∀p∈X.pn++pins,p.1≠b) :
 Inv X pins σ H' { s with heap:=h',gens:=g',drawn:=d',toks:=t' }:=by
 obtain⟨m,⟨o,es,ep,ho,r⟩,_⟩:=id I.loc;obtain⟨sl,hL⟩:=u.any ho I.free λz=>(hch _ z).2.1 rfl
 exact I.step (ch:=ch) hch (λb o hL hb hc e n=>u.keep b o e n (λz=>(KS.mp (I.stkSub b z)).elim hL hb) hc) (λb o _ _ hc e n=>u.any e n hc) (λb o hc e n=>u.free b o e n hc) (λb o hc e=>u.there b o e hc) u.tups u.frzs u.tbls (λm' hm=>by
  obtain⟨o',es',ep',ho',r'⟩:=hm;rw[ho]at ho';cases ho'
  exact⟨_,es',ep',hL,r'⟩) hok hg
theorem Inv.turned{t':Nat}{it:Addr}(I:Inv X pins σ H s)(k:∀b o,b≠it->s.heap.get? b=some o->h'.get? b=some o)(hn:H it=none)(hL:it≠X.env.locals)
 (h1:it∈X.ex\/X.s₀.heap.objs.size<=it) (h2:∀x c,X.env.cells.lookup x=some c->c≠it) (h3:∀p∈X.pn++pins,p.1≠it):Inv X pins σ H { s with heap:=h',toks:=t' }:=by
 have nit:∀b u,H b=some u->b≠it:=λb u e z=>by rw[z,hn]at e;cases e
 refine I.step (g':=s.gens) (d':=s.drawn) (ch:=[it]) (λb hb=>?_) (λb o _ _ hc e _=>k b o (λz=>hc (by simp[z])) e) (λb o _ _ hc e _=>⟨o.slots,k b o (λz=>hc (by simp[z])) e⟩) (λ_ _ _ _ n=>n)
  (λb o hc e=>⟨o,k b o (λz=>hc (by simp[z])) e⟩) (λ_ _ e=>e) (λ_ _ _ e=>e) (λb ps e=>⟨#[],by rw[e];simp⟩) (λm hm=>?_) (λb u e=>?_) I.bare
 ·have e:b=it:=by simpa using hb
  subst e;exact⟨h1,hL,h2,h3⟩
 ·obtain⟨o,es,ep,ho,r⟩:=hm;exact⟨o,es,ep,k _ o (Ne.symm hL) ho,r⟩
 ·refine(I.hok b u e).stay (λc v hc q=>k c v ?_ q) (λ_ q=>q) λ_ _ q=>q
  rcases hc with z |z
  ·rw[z];exact nit b u e
  ·exact nit c _ z
theorem Inv.tok(I:Inv X pins σ H s)(t:Nat):Inv X pins σ H { s with toks:=t }:=I.un (h':=s.heap) (t':=t) Un.refl I.hok
theorem Inv.kept{t':Nat}(I:Inv X pins σ H s)(k:∀b u,s.heap.get? b=some u->h'.get? b=some u):Inv X pins σ H { s with heap:=h',toks:=t' }:=I.un (Un.kept k) (I.hok.kept k)
theorem Inv.laid{a:Addr}{o:HO}{t':Nat}(I:Inv X pins σ H s)(k:∀b u,s.heap.get? b=some u->h'.get? b=some u)(hp:s.heap.objs.size<=a)(new:ObjOk X.prog X.w (upd H a o) h' a o) :
 Inv X pins σ (upd H a o) { s with heap:=h',toks:=t' }:=I.un (Un.laid k hp (I.hok.fresh hp)) (I.hok.laid k hp new)
theorem Inv.write{x e:Addr}{o:HO}{t':Nat}(I:Inv X pins σ H s)(mu:Mut (H x))(he:e=x\/H e=some (.own x))(k:∀b u,b≠e->s.heap.get? b=some u->h'.get? b=some u)(heo:∃u,h'.get? e=some u)
 (new:ObjOk X.prog X.w (upd H x o) h' x o):Inv X pins σ (upd H x o) { s with heap:=h',toks:=t' }:=I.un (Un.write mu he k heo) (I.hok.write mu he k heo new)
theorem Inv.pins_of{pins':List (Addr×Obj)}(I:Inv X pins σ H s)(h:∀p∈pins',s.heap.get? p.1=some p.2/\H p.1=none/\p.1≠X.env.locals/\p.1∉X.fs/\∀v,p.2.data≠.cell v):Inv X pins' σ H s :=
 ⟨I.ok,I.os,I.bare,I.base,I.loc,I.cell,I.free,I.freeC,λp hp=>(L1.mp hp).elim (λz=>I.pin p (Mm _ z)) (h p),I.hok,I.len⟩
theorem wN{N:List Str}(hN:N.Nodup){i j:Nat}{x:Str}(a:N[i]?=some x)(b:N[j]?=some x):i=j:=by obtain⟨h1,e1⟩:=List.getElem?_eq_some_iff.mp a;obtain⟨h2,e2⟩:=List.getElem?_eq_some_iff.mp b;exact(List.getElem_inj hN).mp (e1.trans e2.symm)
theorem tP{M:Model}{A:Around}{E:Value->Shared->Prop}{i:Nat}{x:Str}{v:V}{u:Value}{Q:Unit->Shared->Prop}(I:Inv X pins σ H s)(hN:X.N.Nodup)(hi:X.N[i]?=some x)(hx:Loc X.env.scope x)(r:RelV v u)
 (h:∀s',Inv X pins (σ.set i (some v)) H s'->(∃a,Heap.SameBut a s.heap s'.heap/\(a=X.env.locals\/X.env.cells.lookup x=some a))->Q () s') (hf:X.fn x=true\/X.env.scope.names.lookup x=some .local:=by first |exact .inl rfl |exact .inr rfl |assumption):wpAny M A (storeName X.env x u) Q E s:=by
 obtain⟨m,hn,hl⟩:=id I.loc;have hcls:(X.env.scope.kind == .class || (X.env.scope.kind == .module&&X.env.locals != X.env.globals))=false:=by rw[I.ok.kind];rfl
 have hiσ:i<σ.length:=by rw[I.len];exact(List.getElem?_eq_some_iff.mp hi).1
 have cne:=I.cne
 have tracked:∀{a:Addr} {h':Heap},(∃o,s.heap.get? a=some o/\H a=none)->Heap.SameBut a s.heap h'->HOk X.prog X.w H h':=λ{a h'} ha hs b ob e=>by
  obtain⟨_,_,hfree⟩:=ha;refine(I.hok b ob e).stay (λc w' hc q=>(hs.2 c ?_).trans q) (λ_ q=>q) λ_ _ q=>q
  rintro rfl;rcases hc with rfl |hc
  ·rw[hfree]at e;cases e
  ·rw[hfree]at hc;cases hc
 rcases hx with hk |hk
 ·refine wpAny_storeName_local hk hn (λh' hn' hs=>?_) hcls;obtain⟨oL,_,_,hoL,_⟩:=id hn;refine h _ ⟨I.ok,I.os,I.bare,⟨λb o e n hb hx=>?_,λb o e n hb hx=>?_,I.base.free,λb o e hx=>?_,I.base.tups,I.base.frzs,I.base.tbls⟩,⟨_,hn',λj y v' e1 e2 e3=>?_⟩,λy c e=>?_,I.free,I.freeC,λp hp=>?_,tracked ⟨oL,hoL,I.free⟩ hs,by simpa using I.len⟩ ⟨_,hs,.inl rfl⟩
  ·exact(hs.2 b (Lh (Lg (Heap.lt_size e) I.ok.above))).trans (I.base.keep b o e n hb hx)
  ·obtain⟨sl,e1⟩:=I.base.slot b o e n hb hx;exact⟨sl,(hs.2 b (Lh (Lg (Heap.lt_size e) I.ok.above))).trans e1⟩
  ·obtain⟨o',e1⟩:=I.base.there b o e hx;exact⟨o',(hs.2 b (Lh (Lg (Heap.lt_size e) I.ok.above))).trans e1⟩
  ·by_cases hj:j=i
   ·subst hj;rw[hi]at e1;cases e1;rw[List.getElem?_set_self hiσ]at e2;cases e2;exact⟨u,r,.inl ⟨hk,by simp⟩⟩
   ·rw[List.getElem?_set_ne (Ne.symm hj)]at e2;obtain⟨u',r',q⟩:=hl j y v' e1 e2 e3;refine⟨u',r',?_⟩;rcases q with⟨k,e⟩ |⟨k,c,e,z⟩
    ·refine .inl ⟨k,?_⟩;have:y≠x:=λe=>hj (wN hN e1 (e ▸ hi))
     simp[this,e]
    ·exact .inr ⟨k,c,e,z.sameBut hs (cne y c e)⟩
  ·obtain⟨w',z⟩:=I.cell y c e;exact⟨w',z.sameBut hs (cne y c e)⟩
  ·obtain⟨e,n,ne,nf,d⟩:=I.pin p hp;exact⟨(hs.2 p.1 ne).trans e,n,ne,nf,d⟩
 ·have hfn:X.fn x=true:=by
   rcases hf with z |z
   ·exact z
   ·rw[z]at hk;cases hk
  obtain⟨c,hc⟩:=I.ok.has x (.inl hk);obtain⟨w',z⟩:=I.cell x c hc;refine wpAny_storeName_cell I.ok.kind hk hc z (λh' hc' hs=>?_);obtain⟨oc,hoc,hocd⟩:=id z;refine h { s with heap:=h' } ⟨I.ok,I.os,I.bare,⟨λb o e n hb hx=>?_,λb o e n hb hx=>?_,I.base.free,λb o e hx=>?_,I.base.tups,I.base.frzs,I.base.tbls⟩,⟨m,hn.sameBut hs (Ne.symm (cne x c hc)),λj y v' e1 e2 e3=>?_⟩,λy c' e=>?_,I.free,I.freeC,λp hp=>?_,tracked ⟨oc,hoc,I.freeC x c hc⟩ hs,by simpa using I.len⟩ ⟨c,hs,.inr hc⟩
  ·exact(hs.2 b (Lh (Lg (Heap.lt_size e) (I.ok.cab x c hfn hc)))).trans (I.base.keep b o e n hb hx)
  ·obtain⟨sl,e1⟩:=I.base.slot b o e n hb hx;exact⟨sl,(hs.2 b (Lh (Lg (Heap.lt_size e) (I.ok.cab x c hfn hc)))).trans e1⟩
  ·obtain⟨o',e1⟩:=I.base.there b o e hx;exact⟨o',(hs.2 b (Lh (Lg (Heap.lt_size e) (I.ok.cab x c hfn hc)))).trans e1⟩
  ·by_cases hj:j=i
   ·subst hj;rw[hi]at e1;cases e1;rw[List.getElem?_set_self hiσ]at e2;cases e2;exact⟨u,r,.inr ⟨.inl hk,c,hc,hc'⟩⟩
   ·rw[List.getElem?_set_ne (Ne.symm hj)]at e2;obtain⟨u',r',q⟩:=hl j y v' e1 e2 e3;refine⟨u',r',?_⟩;rcases q with q |⟨k,c',e,z'⟩
    ·exact .inl q
    ·refine .inr ⟨k,c',e,z'.sameBut hs ?_⟩;rintro rfl;exact hj (wN hN e1 (I.ok.inj _ _ _ e hc ▸ hi))
  ·by_cases hcc:c'=c
   ·subst hcc;exact⟨_,hc'⟩
   ·obtain⟨w2,z2⟩:=I.cell y c' e;exact⟨w2,z2.sameBut hs hcc⟩
  ·obtain⟨e,n,ne,nf,d⟩:=I.pin p hp;refine⟨(hs.2 p.1 ?_).trans e,n,ne,nf,d⟩;intro q;rw[q,hoc]at e;have q':oc=p.2:=Option.some.inj e;exact d w' (by rw[<- q'];exact hocd)
theorem tQ{M:Model}{A:Around}{E:Value->Shared->Prop}{i:Nat}{x:Str}{v:V}{u:Value}{Q:Unit->Shared->Prop}(I:Inv X pins σ H s)(hN:X.N.Nodup)(hi:X.N[i]?=some x)(hx:Loc X.env.scope x)(r:RelV v u)
 (h:∀s',Inv X pins (σ.set i (some v)) H s'->Q () s') (hf:X.fn x=true\/X.env.scope.names.lookup x=some .local:=by first |exact .inl rfl |exact .inr rfl |assumption):wpAny M A (storeName X.env x u) Q E s :=
 tP I hN hi hx r (λs' I' _=>h s' I') hf
theorem Inv.call'{s':Shared}{ch:List Addr}(I:Inv X pins σ H s)(ho:s'.os=s.os)(u:Un (frs X.stack) ch H H' s.heap s'.heap)(hok:HOk X.prog X.w H' s'.heap)(hg:AllBare s'.gens)
 (hch:∀b∈ch,(b∈X.ex\/X.s₀.heap.objs.size<=b)/\b≠X.env.locals/\(∀x c,X.env.cells.lookup x=some c->c≠b)/\∀p∈X.pn++pins,p.1≠b):Inv X pins σ H' s':=by
 obtain⟨h',g',d',t',o'⟩:=s';have e:o'=s.os:=ho;subst e;exact I.call (g':=g') (t':=t') (d':=d') u hok hg hch
end
abbrev XK:=Value->Option Addr->Hp->Prop
abbrev St:=List (Option V)
abbrev VK:=V->Hp->Prop
abbrev TE:=St->Hp->VK->Prop
abbrev TT:=St->Hp->(Bool->Hp->Prop)->Prop
abbrev TA:=St->Hp->(List V->Hp->Prop)->Prop
structure di where
 nx:St->Hp->Prop
 rt:VK
 bk:St->Hp->Prop:=λ_ _=>False
 ct:St->Hp->Prop:=λ_ _=>False
abbrev TS:=di->St->Hp->Prop
def EP(X:Cx)(pins:List (Addr×Obj))(σ:St)(Q:VK)(u:Value)(s':Shared):Prop:=∃v H',Inv X pins σ H' s'/\RelV v u/\Q v H'
def TP(X:Cx)(pins:List (Addr×Obj))(σ:St)(Q:Bool->Hp->Prop)(b:Bool)(s':Shared):Prop:=∃H',Inv X pins σ H' s'/\Q b H'
def AP(X:Cx)(pins:List (Addr×Obj))(σ:St)(Q:List V->Hp->Prop)(us:List Value)(s':Shared):Prop:=∃vs H',Inv X pins σ H' s'/\Vals vs us/\Q vs H'
noncomputable def SP(X:Cx)(pins:List (Addr×Obj))(D:di)(f:Flow)(s':Shared):Prop :=
 match f with
 |.next=>∃σ' H',Inv X pins σ' H' s'/\D.nx σ' H'
 |.brk=>∃σ' H',Inv X pins σ' H' s'/\D.bk σ' H'
 |.cont=>∃σ' H',Inv X pins σ' H' s'/\D.ct σ' H'
 |.ret u=>∃v σ' H',Inv X pins σ' H' s'/\RelV v u/\D.rt v H'
noncomputable def PE(X:Cx)(e:Expr)(t:TE):Prop :=
 ∀(pins:List (Addr×Obj)) (s:Shared) (σ:St) (H:Hp) (Q:VK),Inv X pins σ H s->t σ H Q->wpAny (model X.prog X.w) X.A (eval e X.env) (EP X pins σ Q) X.xe s
noncomputable def PT(X:Cx)(e:Expr)(t:TT):Prop :=
 ∀(pins:List (Addr×Obj)) (s:Shared) (σ:St) (H:Hp) (Q:Bool->Hp->Prop),Inv X pins σ H s->t σ H Q->wpAny (model X.prog X.w) X.A (isTrue e X.env (eval e X.env)) (TP X pins σ Q) X.xe s
noncomputable def PW(X:Cx)(e:Expr)(t:TT):Prop :=
 ∀(whole:Sem Value) (pins:List (Addr×Obj)) (s:Shared) (σ:St) (H:Hp) (Q:Bool->Hp->Prop),Inv X pins σ H s->t σ H Q->wpAny (model X.prog X.w) X.A (isTrue e X.env whole) (TP X pins σ Q) X.xe s
theorem PW.pt{X:Cx}{e:Expr}{t:TT}(h:PW X e t):PT X e t:=h _
noncomputable def PA(X:Cx)(es:List Expr)(t:TA):Prop :=
 ∀(pos:Pos) (pins:List (Addr×Obj)) (s:Shared) (σ:St) (H:Hp) (Q:List V->Hp->Prop),Inv X pins σ H s->t σ H Q->wpAny (model X.prog X.w) X.A (spliced (backTo pos (starEach es X.env))) (AP X pins σ Q) X.xe s
noncomputable def PS(X:Cx)(st:Stmt)(t:TS):Prop :=
 ∀(pins:List (Addr×Obj)) (s:Shared) (σ:St) (H:Hp) (D:di),Inv X pins σ H s->t D σ H->wpAny (model X.prog X.w) X.A (exec st X.env) (SP X pins D) X.xe s
noncomputable def PSs(X:Cx)(st:List Stmt)(t:TS):Prop :=
 ∀(pins:List (Addr×Obj)) (s:Shared) (σ:St) (H:Hp) (D:di),Inv X pins σ H s->t D σ H->wpAny (model X.prog X.w) X.A (execs st X.env) (SP X pins D) X.xe s
theorem thn{α:Type}{t:Sem α}{Q Q':α->Shared->Prop}{M:Model}{A:Around}{E:Value->Shared->Prop}{s:Shared}(h:wpAny M A t Q E s)(hQ:∀a s,Q a s->Q' a s):wpAny M A t Q' E s:=wpAny_mono h hQ λ_ _ x=>x
section
variable {X:Cx}
def fS(i:Nat):TE:=λσ H Q=>∃v,σ[i]?=some (some v)/\Q v H
def tC(v:V):TE:=λ_ H Q=>Q v H
theorem Cp{i:Nat}{x:Str}{pos:Pos}(hN:X.N[i]?=some x)(hv:Vis X.env.scope x)(hd:(x == ("__debug__":Str))=false:=by decide)(hcd:(x == ("__classdict__":Str))=false:=by decide):PE X (.Name x pos) (fS i):=by
 intro pins s σ H Q I h;obtain⟨v,e,h⟩:=h;obtain⟨m,hn,hl⟩:=I.loc;obtain⟨u,r,l⟩:=hl i x v hN e hv;have fin:EP X pins σ Q u s:=⟨v,H,I,r,h⟩;rcases l with⟨hk,hm⟩ |⟨hk,c,hc,hcell⟩
 ·exact wpAny_Name (wpAny_loadName_local I.ok.kind hk hn hm fin) hd
 ·rcases hk with hk |hk
  ·exact wpAny_Name (wpAny_loadName_cell I.ok.kind hk hc hcell fin) hd
  ·exact wpAny_Name (wpAny_loadName_free I.ok.kind hk hc hcell fin hcd) hd
theorem ac{i j pos}:PE X (.Constant (.int i) j pos) (tC (.int i)):=λ_ _ _ H _ I h=>wpAny_Constant_int ⟨.int i,H,I.tok _,⟨_,rfl⟩,h⟩
theorem cq{b j pos}:PE X (.Constant (.bool b) j pos) (tC (.bl b)):=λ_ _ _ H _ I h=>Constant_bool ⟨.bl b,H,I,rfl,h⟩
theorem cO{x j pos}:PE X (.Constant (.str x) j pos) (tC (.str x)):=λ_ _ _ H _ I h=>Calls.Constant_str ⟨.str x,H,I.tok _,⟨_,rfl⟩,h⟩
def Gl(X:Cx)(x:Str):Prop:=X.env.kindOf x=some .globalImplicit
theorem rH{E:Value->Shared->Prop}{pins:List (Addr×Obj)}{s:Shared}{σ:St}{H:Hp}{x:Str}{u:Value}{pos:Pos}{Q:Value->Shared->Prop}(I:Inv X pins σ H s)(hg:Gl X x)(hm:X.mg x=some u)(h:Q u s)
 (hd:(x == ("__debug__":Str))=false:=by decide):wpAny (model X.prog X.w) X.A (eval (.Name x pos) X.env) Q E s :=
 Calls.Name_function_global I.ok.kind hg (Calls.loadGlobal_global (by rw[I.ok.glob];exact I.mod.glob.keeps I.bk) hm h) hd
theorem gI{E:Value->Shared->Prop}{pins:List (Addr×Obj)}{s:Shared}{σ:St}{H:Hp}{x:Str}{u:Value}{pos:Pos}{Q:Value->Shared->Prop}(I:Inv X pins σ H s)(hg:Gl X x)(hm:X.mg x=none)(hv:bootBuiltins x=some u)(h:Q u s)
 (hn:x≠"__name__":=by decide) (hd:(x == ("__debug__":Str))=false:=by decide):wpAny (model X.prog X.w) X.A (eval (.Name x pos) X.env) Q E s:=by
 obtain⟨mb,h1,h2⟩:=I.mod.blt;exact Calls.Name_function_global I.ok.kind hg (Calls.loadGlobal_builtin (by rw[I.ok.glob];exact I.mod.glob.keeps I.bk) hm (by rw[I.ok.blt];exact h1.keeps I.bk) ((h2 x hn).trans hv) h) hd
theorem Cq{x:Str}{v:V}{u:Value}{pos:Pos}(hg:Gl X x)(hm:X.mg x=some u)(r:RelV v u)(hd:(x == ("__debug__":Str))=false:=by decide):PE X (.Name x pos) (tC v) :=
 λ_ _ _ H _ I h=>rH I hg hm ⟨v,H,I,r,h⟩ hd
theorem kD{x:Str}{v:V}{u:Value}{pos:Pos}(hg:Gl X x)(hm:X.mg x=none)(hv:bootBuiltins x=some u)(r:RelV v u)(hn:x≠"__name__":=by decide)(hd:(x == ("__debug__":Str))=false:=by decide):PE X (.Name x pos) (tC v) :=
 λ_ _ _ H _ I h=>gI I hg hm hv ⟨v,H,I,r,h⟩ hn hd
variable {a b:Expr}{ta tb:TE}{pos:Pos}
def tB(t:TE):TT:=λσ H Q=>t σ H λx H1=>∃c,x=.bl c/\Q c H1
theorem cw{e:Expr}{t:TE}(h:PE X e t)(he:∀whole,isTrue e X.env whole=(do let v <- whole;standAt e.pos;holding [v] (truthy v)):=by intro _;rfl):PT X e (tB t):=by intro pins s σ H Q I hw;refine isTrue_plain (thn (h pins s σ H _ I hw) λv s1 ⟨x,H1,I1,r1,q1⟩=>?_) (he _);obtain⟨d,rfl,q⟩:=q1;cases r1;exact wpAny_truthy_bool ⟨H1,I1,q⟩
variable {tA tB':TT}{rest:List Expr}
def tK(t u:TT):TT:=λσ H Q=>t σ H λc H1=>if c=true then u σ H1 Q else Q false H1
def tOr(t u:TT):TT:=λσ H Q=>t σ H λc H1=>if c=true then Q true H1 else u σ H1 Q
def tH(t:TT):TT:=λσ H Q=>t σ H λc H1=>Q (!c) H1
theorem gC(ha:PT X a tA):PW X (.BoolOp .And [a] pos) tA:=by
 intro wh pins s σ H Q I h;refine isTrue_and (thn (ha pins s σ H Q I h) λc s1 e=>?_);cases c with
 |true=>exact isTrue_and_nil e
 |false=>exact e
theorem fe(ha:PT X a tA):PW X (.BoolOp .Or [a] pos) tA:=by
 intro wh pins s σ H Q I h;refine isTrue_or (thn (ha pins s σ H Q I h) λc s1 e=>?_);cases c with
 |false=>exact isTrue_or_nil e
 |true=>exact e
theorem fY(ha:PT X a tA)(hb:PW X (.BoolOp .And (b::rest) pos) tB'):PW X (.BoolOp .And (a::b::rest) pos) (tK tA tB'):=by
 intro wh pins s σ H Q I h;refine isTrue_and (thn (ha pins s σ H _ I h) λc s1 ⟨H1,I1,q1⟩=>?_);cases c with
 |true=>exact hb wh pins s1 σ H1 Q I1 q1
 |false=>exact⟨H1,I1,q1⟩
theorem du(ha:PT X a tA)(hb:PW X (.BoolOp .Or (b::rest) pos) tB'):PW X (.BoolOp .Or (a::b::rest) pos) (tOr tA tB'):=by
 intro wh pins s σ H Q I h;refine isTrue_or (thn (ha pins s σ H _ I h) λc s1 ⟨H1,I1,q1⟩=>?_);cases c with
 |true=>exact⟨H1,I1,q1⟩
 |false=>exact hb wh pins s1 σ H1 Q I1 q1
theorem cF(ha:PT X a tA):PT X (.UnaryOp .Not a pos) (tH tA):=by intro pins s σ H Q I h;exact isTrue_not (ha pins s σ H (λc H1=>Q (!c) H1) I h)
def ol(ta tb:TE):TE:=λσ H Q=>ta σ H λx H1=>∃c,x=.bl c/\if c=true then tb σ H1 Q else Q (.bl false) H1
def tD(ta tb:TE):TE:=λσ H Q=>ta σ H λx H1=>∃c,x=.bl c/\if c=true then Q (.bl true) H1 else tb σ H1 Q
def tE(ta:TE):TE:=λσ H Q=>ta σ H λx H1=>∃c,x=.bl c/\Q (.bl (!c)) H1
theorem eN{op}{t:TE}(h:PE X a t):PE X (.BoolOp op [a] pos) t:=λpins s σ H Q I hw=>BoolOp_one (h pins s σ H Q I hw)
theorem eQ(ha:PE X a ta)(hb:PE X (.BoolOp .And (b::rest) pos) tb):PE X (.BoolOp .And (a::b::rest) pos) (ol ta tb):=by
 intro pins s σ H Q I h;refine BoolOp_and (thn (ha pins s σ H _ I h) λv s1 ⟨x,H1,I1,r1,q1⟩=>?_);obtain⟨c,rfl,q1⟩:=q1;cases r1;refine wpAny_truthy_bool ?_;cases c with
 |true=>exact hb pins s1 σ H1 Q I1 q1
 |false=>exact⟨.bl false,H1,I1,rfl,q1⟩
theorem wo(ha:PE X a ta)(hb:PE X (.BoolOp .Or (b::rest) pos) tb):PE X (.BoolOp .Or (a::b::rest) pos) (tD ta tb):=by
 intro pins s σ H Q I h;refine BoolOp_or (thn (ha pins s σ H _ I h) λv s1 ⟨x,H1,I1,r1,q1⟩=>?_);obtain⟨c,rfl,q1⟩:=q1;cases r1;refine wpAny_truthy_bool ?_;cases c with
 |false=>exact hb pins s1 σ H1 Q I1 q1
 |true=>exact⟨.bl true,H1,I1,rfl,q1⟩
theorem kC(ha:PE X a ta):PE X (.UnaryOp .Not a pos) (tE ta):=by intro pins s σ H Q I h;refine UnaryOp_ (thn (ha pins s σ H _ I h) λv s1 ⟨x,H1,I1,r1,q1⟩=>?_);obtain⟨c,rfl,q1⟩:=q1;cases r1;exact not_of (wpAny_truthy_bool ⟨.bl (!c),H1,I1,rfl,q1⟩)
def tIf(t:TT)(ta tb:TE):TE:=λσ H Q=>t σ H λc H1=>if c=true then ta σ H1 Q else tb σ H1 Q
theorem qZ{c:Expr}(hc:PT X c tA)(ha:PE X a ta)(hb:PE X b tb):PE X (.IfExp c a b pos) (tIf tA ta tb):=by
 intro pins s σ H Q I h;refine wpAny_IfExp (thn (hc pins s σ H _ I h) λd s1 ⟨H1,I1,q1⟩=>?_);cases d with
 |true=>exact ha pins s1 σ H1 Q I1 q1
 |false=>exact hb pins s1 σ H1 Q I1 q1
end
noncomputable def SqL(K:PySem.W.Frag)(H:Hp)(a:Addr)(xs:List V):Prop :=
 Rd H a (.lst xs) \/
  ∃(o:Obj) (its:Array Value) (n:Nat),K.lookup a=some o/\o.cls=.type "list"/\o.dict=none/\o.data=.seq its n/\its.size<=sizeLine/\Vals xs its.toList
noncomputable def SqT(K:PySem.W.Frag)(H:Hp)(a:Addr)(xs:List V):Prop :=
 Rd H a (.tup xs) \/
  ∃(o:Obj) (its:Array Value) (n:Nat),K.lookup a=some o/\o.cls=.type "tuple"/\o.data=.seq its n/\its.size<=sizeLine/\Vals xs its.toList
noncomputable def Hw:Value->Option V
 |.none=>some .non
 |.bool b=>some (.bl b)
 |.int i _=>some (.int i)
 |.str x _=>some (.str x)
 |.bytes b _=>some (.byt b)
 |.float b _=>some (.flt b)
 |.ref a=>some (.ref a)
 |.type n=>some (.ty n)
 |_=>none
theorem RelV.abs{x:V}{u:Value}(r:RelV x u):Hw u=some x:=by
 cases x with
 |non=>cases r;rfl
 |bl _=>cases r;rfl
 |int _=>obtain⟨t,rfl⟩:=r;rfl
 |str _=>obtain⟨t,rfl⟩:=r;rfl
 |byt _=>obtain⟨t,rfl⟩:=r;rfl
 |flt _=>obtain⟨t,rfl⟩:=r;rfl
 |ref _=>cases r;rfl
 |ty _=>cases r;rfl
theorem RelV.inj{x y:V}{u:Value}(r:RelV x u)(q:RelV y u):x=y:=Option.some.inj (r.abs.symm.trans q.abs)
theorem Vals.inj:∀{xs ys:List V} {us:List Value},Vals xs us->Vals ys us->xs=ys
 |_,_,_,.nil,.nil=>rfl
 |_,_,_,.cons r t,.cons r' t'=>by rw[r.inj r',Vals.inj t t']
section
variable {X:Cx}{pins:List (Addr×Obj)}{σ:St}{H:Hp}{s:Shared}{a:Addr}{xs ys:List V}
theorem SqL.of{K:PySem.W.Frag}(h:H a=some (.lst xs)):SqL K H a xs:=.inl (.inl h)
theorem SqT.of{K:PySem.W.Frag}(h:H a=some (.tup xs)):SqT K H a xs:=.inl (.inl h)
theorem Inv.list(I:Inv X pins σ H s)(h:SqL X.K H a xs):∃its:List Value,Vals xs its/\PlainL s.heap a its.toArray/\xs.length<=sizeLine:=by
 rcases h with h |⟨o,its,n,hk,hc,hd,hs,hz,r⟩
 ·obtain⟨z,its,n,r,e⟩:=h.ok I.hok;exact⟨its,r,⟨_,n,e,rfl,rfl,rfl⟩,z⟩
 ·refine⟨its.toList,r,⟨o,n,I.kIn a o hk,hc,hd,by simpa using hs⟩,?_⟩;have e:=r.length;simp only[Array.length_toList]at e;omega
theorem Inv.tuple(I:Inv X pins σ H s)(h:SqT X.K H a xs):∃its:List Value,Vals xs its/\IsTup s.heap a its.toArray/\xs.length<=sizeLine:=by
 rcases h with h |⟨o,its,n,hk,hc,hs,hz,r⟩
 ·obtain⟨z,its,r,p⟩:=h.ok I.hok;exact⟨its,r,p,z⟩
 ·refine⟨its.toList,r,⟨o,I.kIn a o hk,hc,n,by simpa using hs⟩,?_⟩;have e:=r.length;simp only[Array.length_toList]at e;omega
theorem Inv.list_inj(I:Inv X pins σ H s)(h:SqL X.K H a xs)(h':SqL X.K H a ys):xs=ys:=by
 obtain⟨its,r,⟨o,n,e,_,_,d⟩,_⟩:=I.list h;obtain⟨its',r',⟨o',n',e',_,_,d'⟩,_⟩:=I.list h';rw[e]at e';cases e';rw[d]at d'
 injection d' with d1 _
 have:its=its':=by simpa using congrArg Array.toList d1
 subst this;exact r.inj r'
theorem Inv.tuple_inj(I:Inv X pins σ H s)(h:SqT X.K H a xs)(h':SqT X.K H a ys):xs=ys:=by
 obtain⟨its,r,⟨o,e,_,n,d⟩,_⟩:=I.tuple h;obtain⟨its',r',⟨o',e',_,n',d'⟩,_⟩:=I.tuple h';rw[e]at e';cases e';rw[d]at d'
 injection d' with d1 _
 have:its=its':=by simpa using congrArg Array.toList d1
 subst this;exact r.inj r'
end
abbrev Cx.wish(X:Cx)(E:Value->Shared->Prop):Cx:={ X with xe:=E }
abbrev Cx.nox(X:Cx):Cx:=X.wish λ_ _=>False
theorem Cx.Ok.wish{X:Cx}(ok:X.Ok)(E:Value->Shared->Prop):(X.wish E).Ok :=
 ⟨ok.mod,ok.kind,ok.glob,ok.blt,ok.above,ok.inj,ok.has,ok.cab,ok.hd,ok.frames,ok.stk,ok.exf,ok.bs,ok.bsz,ok.noex,ok.exfs,ok.funs,ok.frf⟩
theorem Cx.Ok.unwish{X:Cx}{E:Value->Shared->Prop}(ok:(X.wish E).Ok):X.Ok :=
 ⟨ok.mod,ok.kind,ok.glob,ok.blt,ok.above,ok.inj,ok.has,ok.cab,ok.hd,ok.frames,ok.stk,ok.exf,ok.bs,ok.bsz,ok.noex,ok.exfs,ok.funs,ok.frf⟩
section
variable {X:Cx}{pins:List (Addr×Obj)}{σ:St}{H:Hp}{s:Shared}{E:Value->Shared->Prop}
theorem Inv.wish(I:Inv X pins σ H s)(E:Value->Shared->Prop):Inv (X.wish E) pins σ H s:=⟨I.ok.wish E,I.os,I.bare,I.base,I.loc,I.cell,I.free,I.freeC,I.pin,I.hok,I.len⟩
theorem Inv.unwish(I:Inv (X.wish E) pins σ H s):Inv X pins σ H s:=⟨I.ok.unwish,I.os,I.bare,I.base,I.loc,I.cell,I.free,I.freeC,I.pin,I.hok,I.len⟩
theorem SP.unwish{D:di}{f:Flow}{s':Shared}(h:SP (X.wish E) pins D f s'):SP X pins D f s':=by
 cases f with
 |next=>obtain⟨σ',H',I,q⟩:=h;exact⟨σ',H',I.unwish,q⟩
 |brk=>obtain⟨σ',H',I,q⟩:=h;exact⟨σ',H',I.unwish,q⟩
 |cont=>obtain⟨σ',H',I,q⟩:=h;exact⟨σ',H',I.unwish,q⟩
 |ret u=>obtain⟨v,σ',H',I,r,q⟩:=h;exact⟨v,σ',H',I.unwish,r,q⟩
theorem PE.nox{e:Expr}{t:TE}(h:PE X.nox e t):PE X e t:=λpins s σ H Q I hw =>wpAny_mono (h pins s σ H Q (I.wish _) hw) (λ_ _ ⟨v,H',I',r,q⟩=>⟨v,H',I'.unwish,r,q⟩) λ_ _ z=>False.elim z
theorem PT.nox{e:Expr}{t:TT}(h:PT X.nox e t):PT X e t:=λpins s σ H Q I hw =>wpAny_mono (h pins s σ H Q (I.wish _) hw) (λ_ _ ⟨H',I',q⟩=>⟨H',I'.unwish,q⟩) λ_ _ z=>False.elim z
theorem PSs.nox{st:List Stmt}{t:TS}(h:PSs X.nox st t):PSs X st t:=λpins s σ H D I hw =>wpAny_mono (h pins s σ H D (I.wish _) hw) (λ_ _ q=>q.unwish) λ_ _ z=>False.elim z
end
section
variable {X:Cx}{st:Stmt}{rest:List Stmt}{t u:TS}{e:Expr}{te:TE}{pos:Pos}
def tI:TS:=λD σ H=>D.nx σ H
def b8(t u:TS):TS:=λD σ H=>t { D with nx:=u D } σ H
theorem aS:PSs X [] tI:=λ_ _ σ H _ I h=>wpAny_execs_nil ⟨σ,H,I,h⟩
theorem af(h1:PS X st t)(h2:PSs X rest u):PSs X (st::rest) (b8 t u):=by
 intro pins s σ H D I h;refine wpAny_execs_cons (thn (h1 pins s σ H { D with nx:=u D } I h) λf s1 q=>?_);cases f with
 |next =>obtain⟨σ',H',I',q⟩:=q;exact h2 pins s1 σ' H' D I' q
 |ret v=>exact q
 |brk=>exact q
 |cont=>exact q
theorem ai(h1:PS X st t):PSs X [st] t:=by
 intro pins s σ H D I h;refine wpAny_execs_cons (thn (h1 pins s σ H D I h) λf s1 q=>?_);cases f with
 |next=>exact wpAny_execs_nil q
 |ret v=>exact q
 |brk=>exact q
 |cont=>exact q
theorem Inv.quiet{pins:List (Addr×Obj)}{σ:St}{H:Hp}{s:Shared}(I:Inv X pins σ H s):interactive X.env=false:=by simp[interactive,I.ok.kind]
def lK(te:TE):TS:=λD σ H=>te σ H λ_ H1=>D.nx σ H1
theorem f8(he:PE X e te)(hs:swapsWith e none pos.line X.env=pure false:=by rfl):PS X (.Expr e pos) (lK te):=by intro pins s σ H D I h;exact wpAny_Expr_any (thn (he pins s σ H _ I h) λv s1 ⟨x,H1,I1,r1,q1⟩=>⟨σ,H1,I1,q1⟩) I.quiet hs
def tz(te:TE):TS:=λD σ H=>te σ H D.rt
theorem ax(he:PE X e te):PS X (.Return (some e) pos) (tz te):=by intro pins s σ H D I h;exact wpAny_Return_some (thn (he pins s σ H _ I h) λv s1 ⟨x,H1,I1,r1,q1⟩=>⟨x,σ,H1,I1,r1,q1⟩)
def jY(c:TT)(t u:TS):TS:=λD σ H=>c σ H λb H1=>if b=true then t D σ H1 else u D σ H1
theorem aM{c:Expr}{a b:List Stmt}{tc:TT}(hc:PT X c tc)(ha:PSs X a t)(hb:PSs X b u):PS X (.If c a b pos) (jY tc t u):=by
 intro pins s σ H D I h;refine wpAny_If (thn (hc pins s σ H _ I h) λd s1 ⟨H1,I1,q1⟩=>?_);cases d with
 |true=>exact ha pins s1 σ H1 D I1 q1
 |false=>exact hb pins s1 σ H1 D I1 q1
def Af:TS:=λ_ _ _=>False
theorem wb:PS X st Af:=λ_ _ _ _ _ _ h=>h.elim
end
abbrev TG:=V->St->Hp->(St->Hp->Prop)->Prop
abbrev TGs:=List V->St->Hp->(St->Hp->Prop)->Prop
noncomputable def PG(X:Cx)(target:Expr)(t:TG):Prop :=
 ∀(pins:List (Addr×Obj)) (s:Shared) (σ:St) (H:Hp) (v:V) (u:Value) (Q:St->Hp->Prop),Inv X pins σ H s->RelV v u->t v σ H Q ->
  wpAny (model X.prog X.w) X.A (assign target X.env u) (λ_ s'=>∃σ' H',Inv X pins σ' H' s'/\Q σ' H') X.xe s
noncomputable def PGs(X:Cx)(ts:List Expr)(t:TGs):Prop :=
 ∀(pins:List (Addr×Obj)) (s:Shared) (σ:St) (H:Hp) (vs:List V) (us:List Value) (Q:St->Hp->Prop),Inv X pins σ H s->Vals vs us->t vs σ H Q ->
  wpAny (model X.prog X.w) X.A (assignInOrder ((assignEach ts X.env).map (·.2)) us) (λ_ s'=>∃σ' H',Inv X pins σ' H' s'/\Q σ' H') X.xe s
abbrev sE:=V->V->V->Hp->(Hp->Prop)->Prop
noncomputable def zc(X:Cx)(t:sE):Prop :=
 ∀(pins:List (Addr×Obj)) (s:Shared) (σ:St) (H:Hp) (o i v:V) (ov iv u:Value) (Q:Hp->Prop),Inv X pins σ H s->RelV o ov->RelV i iv->RelV v u->t o i v H Q ->
  wpAny (model X.prog X.w) X.A (setItem ov iv u) (λ_ s'=>∃H',Inv X pins σ H' s'/\Q H') X.xe s
section
variable {X:Cx}{pos:Pos}
def dW(i:Nat):TG:=λv σ H Q=>Q (σ.set i (some v)) H
theorem eK{i:Nat}{x:Str}(hN:X.N.Nodup)(hi:X.N[i]?=some x)(hx:Loc X.env.scope x)(hf:X.fn x=true\/X.env.scope.names.lookup x=some .local:=by first |exact .inl rfl |exact .inr rfl |assumption):PG X (.Name x pos) (dW i):=by intro pins s σ H v u Q I r h;exact wpAny_assign_Name (tQ I hN hi hx r (λs' I'=>⟨_,H,I',h⟩) hf)
noncomputable def FT:TGs:=λvs σ H Q=>vs=[]/\Q σ H
noncomputable def FU(t:TG)(u:TGs):TGs:=λvs σ H Q=>∃v r,vs=v::r/\t v σ H λσ' H'=>u r σ' H' Q
theorem jo:PGs X [] FT:=by intro pins s σ H vs us Q I r h;obtain⟨e,h⟩:=h;subst e;cases r;exact assignInOrder_nil ⟨σ,H,I,h⟩
theorem eJ{e:Expr}{es:List Expr}{t:TG}{u:TGs}(h1:PG X e t)(h2:PGs X es u)
 (hs:(assignEach (e::es) X.env).map (·.2)=assign e X.env::(assignEach es X.env).map (·.2):=by rfl):PGs X (e::es) (FU t u):=by
 intro pins s σ H vs us Q I r h;obtain⟨v,vr,e1,h⟩:=h;subst e1;cases r with
 |cons r rr =>rw[hs];refine assignInOrder_cons (thn (h1 pins s σ H _ _ _ I r h) λ_ s1 ⟨σ1,H1,I1,q1⟩=>?_);exact h2 pins s1 σ1 H1 _ _ Q I1 rr q1
def FR(K:PySem.W.Frag)(n:Nat)(t:TGs):TG:=λv σ H Q=>∃a xs,v=.ref a/\SqT K H a xs/\xs.length=n/\t xs σ H Q
theorem jp{es:List Expr}{k:Nat}{t:TGs}{n:Nat}(hc:X.calm=true)(h:PGs X es t)
 (hn:(assignEach es X.env).length=n:=by rfl) (hst:(assignEach es X.env).findIdx? (·.1)=none:=by rfl):PG X (.Tuple es k pos) (FR X.K n t):=by
 intro pins s σ H v u Q I r hw;obtain⟨a,xs,e1,hq,hl,hw⟩:=hw;subst e1;cases r;obtain⟨its,rv,ht,hz⟩:=I.tuple hq;refine assign_Tuple_tuple (I.ok.hd hc) ht (by simp[hn,<- hl,rv.length]) hst λh' hx=>?_
 have I1:Inv X pins σ H { s with heap:=h' }:=I.kept (t':=s.toks) λb o e=>hx b o (Lh (Heap.lt_size e)) e
 exact h pins _ σ H xs _ Q I1 (by simpa using rv) hw
def FS(to ti:TE)(t:sE):TG:=λv σ H Q=>to σ H λo H1=>ti σ H1 λi H2=>t o i v H2 λH3=>Q σ H3
theorem jq{o i:Expr}{to ti:TE}{t:sE}(ho:PE X o to)(hi:PE X i ti)(hs:zc X t)
 (ha:∀v,assign (.Subscript o i pos) X.env v=(do
   let ov <- holding [v] (eval o X.env)
   let iv <- holding [v,ov] (eval i X.env)
   standAt pos
   holding [v,ov,iv] (setItem ov iv v)
   release [v,ov,iv] []):=by intro _;rfl):PG X (.Subscript o i pos) (FS to ti t):=by
 intro pins s σ H v u Q I r h;rw[ha];refine wpAny_bind (wpAny_holding (thn (ho pins s σ H _ I h) λov s1 ⟨x,H1,I1,r1,q1⟩=>?_));refine wpAny_bind (wpAny_holding (thn (hi pins s1 σ H1 _ I1 q1) λiv s2 ⟨y,H2,I2,r2,q2⟩=>?_));refine wpAny_bind (wpAny_standAt (wpAny_bind (wpAny_holding (thn (hs pins s2 σ H2 x y v ov iv u _ I2 r1 r2 r q2) λ_ s3 ⟨H3,I3,q3⟩=>?_))));exact wpAny_release ⟨σ,H3,I3,q3⟩
def fB(te:TE)(g:TG):TS:=λD σ H=>te σ H λx H1=>g x σ H1 D.nx
theorem jj{tg e:Expr}{te:TE}{g:TG}(he:PE X e te)(hg:PG X tg g)(hs:swapsWithSole [tg] e pos.line X.env=pure false:=by rfl)(hw:swappedStores [tg] e X.env=pure none:=by rfl)
 (h1:(assignEach [tg] X.env).map (·.2)=[assign tg X.env]:=by rfl):PS X (.Assign [tg] e pos) (fB te g):=by
 intro pins s σ H D I h;refine wpAny_Assign_stores (thn (he pins s σ H _ I h) λv s1 ⟨x,H1,I1,r1,q1⟩=>?_) hs hw;rw[h1];exact thn (hg pins s1 σ H1 x v _ I1 r1 q1) λ_ s2 q=>q
theorem B6{i:Nat}{x:Str}{e:Expr}{te:TE}{pos':Pos}(hN:X.N.Nodup)(hi:X.N[i]?=some x)(hx:Loc X.env.scope x)(he:PE X e te)(hs:swapsWith e (some (.Name x pos')) pos.line X.env=pure false:=by rfl)(hf:X.fn x=true\/X.env.scope.names.lookup x=some .local:=by first |exact .inl rfl |exact .inr rfl |assumption) :
 PS X (.Assign [.Name x pos'] e pos) (fB te (dW i)):=by
 intro pins s σ H D I h;refine wpAny_Assign_Name (thn (he pins s σ H _ I h) λv s1 ⟨y,H1,I1,r1,q1⟩=>?_) hs;exact tQ I1 hN hi hx r1 (λs2 I2=>⟨_,H1,I2,q1⟩) hf
end
section
variable {X:Cx}{pos:Pos}
def Ab(c:TT)(tb:TS):TS:=λD σ H=>∃W:Nat->St->Hp->Prop,(∃m,W m σ H)/\∀m σ H,W m σ H ->
 c σ H λb H1=>if b=true then ∃N:St->Hp->Prop,(∀σ' H',N σ' H'->∃m',m'<m/\W m' σ' H')/\tb { D with nx:=N,ct:=N,bk:=D.nx } σ H1 else D.nx σ H1
theorem ff{c:Expr}{body:List Stmt}{tc:TT}{tb:TS}(hp:PassesOwn (model X.prog X.w) X.A X.env X.xe)(hc:PT X c tc)(hb:PSs X body tb):PS X (.While c body [] pos) (Ab tc tb):=by
 intro pins s σ H D I h;obtain⟨W,⟨m0,w0⟩,turn⟩:=h;refine wpAny_While (codeAny_whileLoop (λn s'=>∃σ' H',Inv X pins σ' H' s'/\W n σ' H') ?_ m0 ⟨σ,H,I,w0⟩);rintro n s1 ⟨σ1,H1,I1,w1⟩;refine wpAny_passesOwn hp (thn (hc pins s1 σ1 H1 _ I1 (turn n σ1 H1 w1)) λb s2 ⟨H2,I2,q2⟩=>?_);cases b with
 |true =>
  obtain⟨N,hN,q2⟩:=q2;rw[if_pos rfl];refine wpAny_passesOwn hp (thn (hb pins s2 σ1 H2 _ I2 q2) λf s3 q3=>?_);cases f with
  |next =>obtain⟨σ3,H3,I3,n3⟩:=q3;obtain⟨m',hm,w3⟩:=hN σ3 H3 n3;exact⟨m',hm,σ3,H3,I3,w3⟩
  |cont =>obtain⟨σ3,H3,I3,n3⟩:=q3;obtain⟨m',hm,w3⟩:=hN σ3 H3 n3;exact⟨m',hm,σ3,H3,I3,w3⟩
  |brk=>exact q3
  |ret v=>exact q3
 |false =>rw[if_neg Lm];exact wpAny_execs_nil ⟨σ1,H2,I2,q2⟩
end
structure It where
 go:Nat->Hp->Prop
 yld:Nat->Hp->V->Hp->Prop
 stop:Nat->Hp->Prop
noncomputable def fQ(X:Cx)(pins:List (Addr×Obj))(H:Hp)(b:Addr):Prop :=
 H b=none/\b≠X.env.locals/\b∉X.fs/\(b∈X.ex\/X.s₀.heap.objs.size<=b)/\(∀x c,X.env.cells.lookup x=some c->c≠b)/\∀p∈X.pn++pins,p.1≠b
theorem Inv.fpOk{X:Cx}{pins:List (Addr×Obj)}{σ:St}{H H':Hp}{s:Shared}{b:Addr}(I:Inv X pins σ H s)(hb:s.heap.objs.size<=b)(hn:H' b=none):fQ X pins H' b:=by
 refine⟨hn,Nat.ne_of_gt (Lg I.lt hb),I.nofs hb,.inr (KZ I.sz hb),λx c e z=>?_,λp hp z=>?_⟩
 ·obtain⟨v,q⟩:=I.cell x c e;exact absurd (Lg q.lt (by rw[z];exact hb)) (LJ _)
 ·exact absurd (Lg (Heap.lt_size (I.pin p hp).1) (by rw[z];exact hb)) (LJ _)
structure Turn(P:Program)(w:World)(K:PySem.W.Frag)(tg:Expr)(J:It)(fp:List Addr)(it:Addr)(tn:Nat->Heap->Prop):Prop where
 mem:it∈fp
 obj:∀i h,tn i h->∀b∈fp,∃o,h.get? b=some o/\∀v,o.data≠.cell v
 keep:∀i h h',tn i h->(∀b∈fp,∀o,h.get? b=some o->h'.get? b=some o)->tn i h'
 item:∀(X:Cx),X.prog=P->X.w=w->X.K=K->X.calm=true->∀(i:Nat) (pins:List (Addr×Obj)) (s:Shared) (σ:St) (H:Hp) (E:Value->Shared->Prop),Inv X pins σ H s->(∀b∈fp,fQ X pins H b)->tn i s.heap->J.go i H ->
  wpAny (model P w) X.A (pyNext (.ref it)) (λr s1=>∃u,r=some u /\
   wpAny (model P w) X.A (letOwnedTupleGo tg (.ref it) u) (λ_ s2=>∃x H',Inv X pins σ H' s2/\RelV x u/\J.yld i H x H'/\tn (i+1) s2.heap/\∀b∈fp,H' b=none) E s1) E s
 done:∀(X:Cx),X.prog=P->X.w=w->X.K=K->X.calm=true->∀(i:Nat) (pins:List (Addr×Obj)) (s:Shared) (σ:St) (H:Hp) (E:Value->Shared->Prop),Inv X pins σ H s->(∀b∈fp,fQ X pins H b)->tn i s.heap->J.stop i H ->
  wpAny (model P w) X.A (pyNext (.ref it)) (λr s1=>r=none/\Inv X pins σ H s1) E s
 self:∀(A:Around) (i:Nat) (s:Shared) (Q:Value->Shared->Prop) (E:Value->Shared->Prop),tn i s.heap->Q (.ref it) s->wpAny (model P w) A (pyIter (.ref it)) Q E s
abbrev TI:=St->Hp->(It->Hp->Prop)->Prop
noncomputable def PIE(X:Cx)(pins:List (Addr×Obj))(σ:St)(tg:Expr)(R:It->Hp->Prop)(itv:Value)(s2:Shared):Prop :=
 ∃(it:Addr) (fp:List Addr) (tn:Nat->Heap->Prop) (J:It) (H':Hp),itv=.ref it/\Inv X pins σ H' s2/\Turn X.prog X.w X.K tg J fp it tn/\tn 0 s2.heap/\(∀b∈fp,fQ X pins H' b)/\R J H'
noncomputable def PI(X:Cx)(tg iter:Expr)(wi:TI):Prop :=
 ∀(pins:List (Addr×Obj)) (s:Shared) (σ:St) (H:Hp) (R:It->Hp->Prop),Inv X pins σ H s->wi σ H R ->
  wpAny (model X.prog X.w) X.A (eval iter X.env) (λv s1=>wpAny (model X.prog X.w) X.A (pyIter v) (PIE X pins σ tg R) X.xe s1) X.xe s
theorem kQ{M:Model}{A:Around}{E:Value->Shared->Prop}{s:Shared}{tg:Expr}{it:Addr}{u:Value}{o:Obj}{n:String}{vs:Array Value}{Q:Unit->Shared->Prop}(ho:s.heap.get? it=some o)(hc:o.cls=.type n)(hd:o.data=.fields vs)
 (hn:["enumerate","zip","dict_itemiterator","dict_reverseitemiterator","odict_iterator","itertools.zip_longest","itertools.pairwise"].contains n=false) (hQ:Q () s):wpAny M A (letOwnedTupleGo tg (.ref it) u) Q E s:=by
 unfold letOwnedTupleGo
 cases tg<;>first
  |exact wpAny_pure hQ
  | (cases u<;>first
      |exact wpAny_pure hQ
      | (refine wpAny_bind (wpAny_load ho ?_)
         rw[hc,hd];show wpAny M A (if(["enumerate","zip","dict_itemiterator","dict_reverseitemiterator","odict_iterator","itertools.zip_longest","itertools.pairwise"].contains n&&vs[0]? == some (rawInt _))=true then _ else _) Q E s;rw[if_neg (by intro h;rw[hn,Bool.false_and]at h;cases h)]
         exact wpAny_pure hQ))
noncomputable def Itl(K:PySem.W.Frag)(a:Addr):It :=
 ⟨λi H=>∃xs x,SqL K H a xs/\xs[i]?=some x,λi H x H'=>H'=H/\∀xs,SqL K H a xs->xs[i]?=some x,λi H=>∃xs,SqL K H a xs/\xs.length<=i⟩
noncomputable def Itt(K:PySem.W.Frag)(a:Addr):It :=
 ⟨λi H=>∃xs x,SqT K H a xs/\xs[i]?=some x,λi H x H'=>H'=H/\∀xs,SqT K H a xs->xs[i]?=some x,λi H=>∃xs,SqT K H a xs/\xs.length<=i⟩
noncomputable def Itr(lo:Int)(n:Nat):It:=⟨λi _=>i<n,λi H x H'=>H'=H/\x=.int (lo+i),λi _=>n<=i⟩
theorem zL{P:Program}{w:World}{K:PySem.W.Frag}{tg:Expr}(a it:Addr):Turn P w K tg (Itl K a) [it] it (λi h=>h.IsListIter it a i) where
 mem:=by simp
 obj:=λi h st b hb=>by
  have e:b=it:=by simpa using hb
  subst e;obtain⟨o,e,c,d⟩:=st;exact⟨o,e,λv z=>by rw[d]at z;cases z⟩
 keep:=λi h h' st k=>st.at λo e=>k it (by simp) o e
 item:=by
  intro X hP hw hK hc i pins s σ H E I hf st hg;subst hP hw hK;obtain⟨xs,x,hq,hx⟩:=hg;obtain⟨its,rv,p,hz⟩:=I.list hq;obtain⟨u,hu,ru⟩:=rv.get hx;obtain⟨f0,f1,f2,f3,f4,f5⟩:=hf it (by simp);refine wpAny_pyNext_list_item st p.isList (x:=u) (by simpa using hu) λh' st' sb=>?_
  have I1:Inv X pins σ H { s with heap:=h' }:=I.turned (t':=s.toks) (λb o hb e=>(sb.2 b hb).trans e) f0 f1 f3 f4 f5;obtain⟨o,e,c,d⟩:=id st';exact⟨u,rfl,kQ (s:={ s with heap:=h' }) e c d (by decide) ⟨x,H,I1,ru,⟨rfl,λys hy=>by rw[I.list_inj hy hq];exact hx⟩,st',λb hb=>(hf b hb).1⟩⟩
 done:=by intro X hP hw hK hc i pins s σ H E I hf st hg;subst hP hw hK;obtain⟨xs,hq,hx⟩:=hg;obtain⟨its,rv,p,hz⟩:=I.list hq;obtain⟨f0,f1,f2,f3,f4,f5⟩:=hf it (by simp);have hl:=rv.length;exact wpAny_pyNext_list_end (I.ok.hd hc) st p.isList (by simp;omega) λh' eb=>⟨rfl,I.turned (t':=s.toks) (λb o hb e=>eb b o hb e) f0 f1 f3 f4 f5⟩
 self:=λ_ _ _ _ _ st h=>wpAny_pyIter_listiter st h
theorem zH{P:Program}{w:World}{K:PySem.W.Frag}{tg:Expr}(a it:Addr):Turn P w K tg (Itt K a) [it] it (λi h=>h.IsTupleIter it a i) where
 mem:=by simp
 obj:=λi h st b hb=>by
  have e:b=it:=by simpa using hb
  subst e;obtain⟨o,e,c,d⟩:=st;exact⟨o,e,λv z=>by rw[d]at z;cases z⟩
 keep:=λi h h' st k=>st.at λo e=>k it (by simp) o e
 item:=by
  intro X hP hw hK hc i pins s σ H E I hf st hg;subst hP hw hK;obtain⟨xs,x,hq,hx⟩:=hg;obtain⟨its,rv,p,hz⟩:=I.tuple hq;obtain⟨u,hu,ru⟩:=rv.get hx;obtain⟨f0,f1,f2,f3,f4,f5⟩:=hf it (by simp);refine wpAny_pyNext_tuple_item st (show s.heap.IsTuple a its.toArray from p) (x:=u) (by simpa using hu) λh' st' sb=>?_
  have I1:Inv X pins σ H { s with heap:=h' }:=I.turned (t':=s.toks) (λb o hb e=>(sb.2 b hb).trans e) f0 f1 f3 f4 f5;obtain⟨o,e,c,d⟩:=id st';exact⟨u,rfl,kQ (s:={ s with heap:=h' }) e c d (by decide) ⟨x,H,I1,ru,⟨rfl,λys hy=>by rw[I.tuple_inj hy hq];exact hx⟩,st',λb hb=>(hf b hb).1⟩⟩
 done:=by intro X hP hw hK hc i pins s σ H E I hf st hg;subst hP hw hK;obtain⟨xs,hq,hx⟩:=hg;obtain⟨its,rv,p,hz⟩:=I.tuple hq;obtain⟨f0,f1,f2,f3,f4,f5⟩:=hf it (by simp);have hl:=rv.length;exact wpAny_pyNext_tuple_end (I.ok.hd hc) st (show s.heap.IsTuple a its.toArray from p) (by simp;omega) λh' eb=>⟨rfl,I.turned (t':=s.toks) (λb o hb e=>eb b o hb e) f0 f1 f3 f4 f5⟩
 self:=λ_ _ _ _ _ st h=>wpAny_pyIter_tupleiter st h
theorem zK{P:Program}{w:World}{K:PySem.W.Frag}{tg:Expr}(it:Addr)(lo:Int)(n:Nat):Turn P w K tg (Itr lo n) [it] it (λi h=>IsRangeIter h it (lo+(i:Nat)*1) ((n:Int)-(i:Nat)) 1) where
 mem:=by simp
 obj:=λi h st b hb=>by
  have e:b=it:=by simpa using hb
  subst e
  exact⟨_,st,λv z=>by
   have z':Data.fields _=Data.cell v:=z
   cases z'⟩
 keep:=λi h h' st k=>k it (by simp) _ st
 item:=by
  intro X hP hw hK hc i pins s σ H E I hf st hg;subst hP hw hK;obtain⟨f0,f1,f2,f3,f4,f5⟩:=hf it (by simp);have W:=Walks.range (prog:=X.prog) (w:=X.w) (I.ok.hd hc) it lo 1 n;refine W.item i s _ _ hg st λv h' tk hv st' kk=>?_
  obtain⟨t,rfl⟩:=hv;have I1:Inv X pins σ H { s with heap:=h',toks:=tk }:=I.turned (λb o hb e=>kk b o (by simpa using hb) e) f0 f1 f3 f4 f5;refine⟨_,rfl,kQ (s:={ s with heap:=h',toks:=tk }) (n:="range_iterator") st' rfl rfl (by decide) ⟨.int (lo+i),H,I1,⟨t,?_⟩,⟨rfl,rfl⟩,st',λb hb=>(hf b hb).1⟩⟩;rw[Le]
 done:=by intro X hP hw hK hc i pins s σ H E I hf st hg;subst hP hw hK;obtain⟨f0,f1,f2,f3,f4,f5⟩:=hf it (by simp);exact wpAny_pyNext_range_end (I.ok.hd hc) st (by have:n<=i:=hg;omega) λh' eb=>⟨rfl,I.turned (t':=s.toks) (λb o hb e=>eb b o hb e) f0 f1 f3 f4 f5⟩
 self:=λ_ _ _ _ _ st h=>wpAny_pyIter_rangeiter st h
section
variable {X:Cx}{tg:Expr}
def xG(K:PySem.W.Frag)(tl:TE):TI:=λσ H R=>tl σ H λx H1=>∃a,x=.ref a/\(∃xs,SqL K H1 a xs)/\R (Itl K a) H1
def xF(K:PySem.W.Frag)(tl:TE):TI:=λσ H R=>tl σ H λx H1=>∃a,x=.ref a/\(∃xs,SqT K H1 a xs)/\R (Itt K a) H1
theorem Cn{l:Expr}{tl:TE}(hl:PE X l tl):PI X tg l (xG X.K tl):=by
 intro pins s σ H R I h;refine thn (hl pins s σ H _ I h) λv s1 ⟨x,H1,I1,r1,q1⟩=>?_
 obtain⟨a,e,⟨xs,hq⟩,q⟩:=q1;subst e;cases r1;obtain⟨its,rv,p,hz⟩:=I1.list hq;refine wpAny_pyIter_list p.isList ?_;refine⟨s1.heap.objs.size,[s1.heap.objs.size],_,_,H1,rfl,I1.kept (t':=s1.toks) λb o e=>Heap.get?_push_of_some _ e,zL a _,⟨_,Heap.get?_push_size _ rfl,rfl,rfl⟩,λb hb=>?_,q⟩;have e:b=s1.heap.objs.size:=by simpa using hb
 subst e;exact I1.fpOk (KH _) (I1.hok.fresh (KH _))
theorem Cl{l:Expr}{tl:TE}(hl:PE X l tl):PI X tg l (xF X.K tl):=by
 intro pins s σ H R I h;refine thn (hl pins s σ H _ I h) λv s1 ⟨x,H1,I1,r1,q1⟩=>?_
 obtain⟨a,e,⟨xs,hq⟩,q⟩:=q1;subst e;cases r1;obtain⟨its,rv,p,hz⟩:=I1.tuple hq;refine wpAny_pyIter_tuple (show s1.heap.IsTuple a its.toArray from p) ?_;refine⟨s1.heap.objs.size,[s1.heap.objs.size],_,_,H1,rfl,I1.kept (t':=s1.toks) λb o e=>Heap.get?_push_of_some _ e,zH a _,⟨_,Heap.get?_push_size _ rfl,rfl,rfl⟩,λb hb=>?_,q⟩;have e:b=s1.heap.objs.size:=by simpa using hb
 subst e;exact I1.fpOk (KH _) (I1.hok.fresh (KH _))
theorem vV{pins:List (Addr×Obj)}{σ:St}{H:Hp}{s:Shared}{R:It->Hp->Prop}{E:Value->Shared->Prop}{lo hi:Int}{t u v:Tok}{tk:Nat}(I:Inv X pins σ H s)(h1 : -(2^62)<=lo)(h2:lo<2^62)(h3 : -(2^62)<=hi)(h4:hi<2^62)
 (q:R (Itr lo (hi-lo).toNat) H):wpAny (model X.prog X.w) X.A (pyIter (.ref s.heap.objs.size)) (PIE X pins σ tg R) E { s with heap:=s.heap.push { cls:=.type "range",data:=.fields #[.int lo t,.int hi u,.int 1 v] },toks:=tk }:=by
 refine wpAny_pyIter_range (IsRange.new ..) (small_one h1 h2 h3 h4) ?_;have I1:Inv X pins σ H { s with heap:=s.heap.push { cls:=.type "range",data:=.fields #[.int lo t,.int hi u,.int 1 v] },toks:=tk }:=I.kept λb o e=>Heap.get?_push_of_some _ e
 refine⟨(s.heap.push { cls:=.type "range",data:=.fields #[.int lo t,.int hi u,.int 1 v] }).objs.size,[(s.heap.push { cls:=.type "range",data:=.fields #[.int lo t,.int hi u,.int 1 v] }).objs.size],_,_,H,rfl,
  I1.kept (t':=tk) λb o e=>Heap.get?_push_of_some _ e,zK _ lo (hi-lo).toNat,?_,λb hb=>?_,q⟩
 ·have e1:lo+((0:Nat):Int)*1=lo:=by simp
  have e2:(((hi-lo).toNat:Nat):Int)-((0:Nat):Int)=Builtin.Range.rangeSize lo hi 1:=by rw[rangeSize_one];split<;>omega
  show IsRangeIter _ _ (lo+((0:Nat):Int)*1) ((((hi-lo).toNat:Nat):Int)-((0:Nat):Int)) 1;rw[e1,e2];exact Heap.get?_push_size _ rfl
 ·have e:b=(s.heap.push { cls:=.type "range",data:=.fields #[.int lo t,.int hi u,.int 1 v] }).objs.size:=by simpa using hb
  subst e;exact I1.fpOk (KH _) (I1.hok.fresh (KH _))
def Fv(ta:TA):TI:=λσ H R=>ta σ H λvs H1=>∃j:Int,vs=[.int j] /\ -(2^62)<=j/\j<2^62/\R (Itr 0 j.toNat) H1
def Fu(ta:TA):TI:=λσ H R=>ta σ H λvs H1=>∃i j:Int,vs=[.int i,.int j]/\(-(2^62)<=i/\i<2^62 /\ -(2^62)<=j/\j<2^62)/\R (Itr i (j-i).toNat) H1
theorem ik{a:Expr}{ta:TA}{p pos:Pos}(hg:Gl X "range")(hm:X.mg "range"=none)(ha:PA X [a] ta)(hs:starEach [a] X.env=[(false,eval a X.env)]:=by rfl):PI X tg (.Call (.Name "range" p) [a] [] pos) (Fv ta):=by
 intro pins s σ H R I h;refine Call_ (gI I hg hm boot_range (PyProof.Rows.callWith_type1 (thn (ha pos pins s σ H _ I h) λus s1 ⟨vs,H1,I1,r1,q1⟩=>?_) hs rfl));obtain⟨j,e,q1,q2,q⟩:=q1;subst e;cases r1 with
 |cons r rr =>cases rr;obtain⟨t,rfl⟩:=r;exact call_range_1 (vV I1 (by omega) (by omega) q1 q2 (by simpa using q))
theorem Cm{a b:Expr}{ta:TA}{p pos:Pos}(hg:Gl X "range")(hm:X.mg "range"=none)(ha:PA X [a,b] ta)(hs:starEach [a,b] X.env=[(false,eval a X.env),(false,eval b X.env)]:=by rfl)(hs2:starEach [b] X.env=[(false,eval b X.env)]:=by rfl) :
 PI X tg (.Call (.Name "range" p) [a,b] [] pos) (Fu ta):=by
 intro pins s σ H R I h;refine Call_ (gI I hg hm boot_range (PyProof.Rows.callWith_type1 (thn (ha pos pins s σ H _ I h) λus s1 ⟨vs,H1,I1,r1,q1⟩=>?_) (by rw[hs,hs2]) (by rw[hs2];rfl)));obtain⟨i,j,e,⟨q1,q2,q3,q4⟩,q⟩:=q1;subst e;cases r1 with
 |cons r rr =>
  cases rr with
  |cons r' rr =>cases rr;obtain⟨t,rfl⟩:=r;obtain⟨t',rfl⟩:=r';exact call_range_2 (vV I1 q1 q2 q3 q4 q)
def Aj(wi:TI)(g:TG)(tb:TS):TS:=λD σ H=>wi σ H λJ H1=>∃W:Nat->Nat->St->Hp->Prop,(∃m,W 0 m σ H1)/\∀i m σ H,W i m σ H ->
 (J.stop i H/\D.nx σ H)\/(J.go i H/\∃N:St->Hp->Prop,(∀σ' H',N σ' H'->∃m',m'<m/\W (i+1) m' σ' H')/\∀x H',J.yld i H x H'->g x σ H' λσ2 H2=>tb { D with nx:=N,ct:=N,bk:=D.nx } σ2 H2)
noncomputable def mQ(fp:List Addr)(h:Heap):List (Addr×Obj):=fp.filterMap λb=>(h.get? b).map λo=>(b,o)
theorem mX{fp:List Addr}{h:Heap}{b:Addr}{o:Obj}(hb:b∈fp)(e:h.get? b=some o):(b,o)∈mQ fp h:=List.mem_filterMap.mpr ⟨b,hb,by rw[e];rfl⟩
theorem Ep{fp:List Addr}{h:Heap}{p:Addr×Obj}(hp:p∈mQ fp h):p.1∈fp/\h.get? p.1=some p.2:=by
 obtain⟨b,hb,e⟩:=List.mem_filterMap.mp hp;cases q:h.get? b with
 |none=>rw[q]at e;cases e
 |some o =>rw[q]at e;have e':(b,o)=p:=Option.some.inj e;subst e';exact⟨hb,q⟩
theorem Inv.pinned{pins:List (Addr×Obj)}{σ:St}{H:Hp}{s:Shared}{fp:List Addr}(I:Inv X pins σ H s)(hf:∀b∈fp,fQ X pins H b)(ho:∀b∈fp,∃o,s.heap.get? b=some o/\∀v,o.data≠.cell v):Inv X (pins++mQ fp s.heap) σ H s :=
 I.pins_of λp hp=>(L1.mp hp).elim (λz=>I.pin p (Lz _ z)) λz=>by obtain⟨hb,e⟩:=Ep z;obtain⟨f0,f1,f2,_⟩:=hf p.1 hb;obtain⟨o,e',d⟩:=ho p.1 hb;rw[e]at e';cases e';exact⟨e,f0,f1,f2,d⟩
theorem Inv.unpinned{pins pl:List (Addr×Obj)}{σ:St}{H:Hp}{s:Shared}(I:Inv X (pins++pl) σ H s):Inv X pins σ H s:=I.pins_of λp hp=>I.pin p (Lz _ (Mm _ hp))
theorem cj{iter:Expr}{body:List Stmt}{wi:TI}{g:TG}{tb:TS}{pos:Pos}(hp:PassesOwn (model X.prog X.w) X.A X.env X.xe)(hc:X.calm=true)(hi:PI X tg iter wi)(hg:PG X tg g)(hb:PSs X body tb)
 (hs:∀x,foldedSetIterable iter X.env x=pure x:=by intro _;rfl):PS X (.For tg iter body [] pos) (Aj wi g tb):=by
 intro pins s σ H D I h;refine wpAny_For (thn (hi pins s σ H _ I h) λv s1 h1=>thn h1 λitv s2 h2=>?_) hs;obtain⟨it,fp,tn,J,H2,e,I2,T,st2,f2,W,⟨m0,w0⟩,turn⟩:=h2;subst e;have stat:∀{H':Hp},(∀b∈fp,H' b=none)->∀b∈fp,fQ X pins H' b:=λhn b hb=>⟨hn b hb,(f2 b hb).2⟩
 refine codeAny_forLoop_any (λn s'=>∃i σ' H',Inv X pins σ' H' s'/\tn i s'.heap/\(∀b∈fp,H' b=none)/\W i n σ' H') ?_ m0 ⟨0,σ,H2,I2,st2,λb hb=>(f2 b hb).1,w0⟩;rintro n s3 ⟨i,σ3,H3,I3,st3,fr3,w3⟩;rcases turn i n σ3 H3 w3 with⟨stop,qn⟩ |⟨go,N,hN,step⟩
 ·refine wpAny_passesOwn hp (thn (T.done X rfl rfl rfl hc i pins s3 σ3 H3 X.xe I3 (stat fr3) st3 stop) λr s4 ⟨hr,I4⟩=>?_);subst hr;exact wpAny_execs_nil ⟨σ3,H3,I4,qn⟩
 ·refine wpAny_passesOwn hp (thn (T.item X rfl rfl rfl hc i pins s3 σ3 H3 X.xe I3 (stat fr3) st3 go) λr s4 ⟨u,hr,h4⟩=>?_);subst hr;refine wpAny_passesOwn hp (thn h4 λ_ s5 ⟨x,H5,I5,r5,y5,st5,fr5⟩=>?_);have I5':=I5.pinned (stat fr5) (T.obj _ _ st5);refine wpAny_passesOwn hp (thn (hg _ s5 σ3 H5 x u _ I5' r5 (step x H5 y5)) λ_ s6 ⟨σ6,H6,I6,q6⟩=>?_);refine wpAny_passesOwn hp (thn (hb _ s6 σ6 H6 _ I6 q6) λf s7 q7=>?_)
  have again:∀{σ7:St} {H7:Hp},Inv X (pins++mQ fp s5.heap) σ7 H7 s7->N σ7 H7->∃m,m<n/\∃i σ' H',Inv X pins σ' H' s7/\tn i s7.heap/\(∀b∈fp,H' b=none)/\W i m σ' H':=λ{σ7 H7} I7 n7=>by obtain⟨m',hm,w7⟩:=hN σ7 H7 n7;refine⟨m',hm,i+1,σ7,H7,I7.unpinned,T.keep _ _ _ st5 λb hb o e=>(I7.pin (b,o) (Lz _ (Lz _ (mX hb e)))).1,λb hb=>?_,w7⟩;obtain⟨o,e,d⟩:=T.obj _ _ st5 b hb;exact(I7.pin (b,o) (Lz _ (Lz _ (mX hb e)))).2.1
  cases f with
  |next=>obtain⟨σ7,H7,I7,n7⟩:=q7;exact again I7 n7
  |cont=>obtain⟨σ7,H7,I7,n7⟩:=q7;exact again I7 n7
  |brk=>obtain⟨σ7,H7,I7,q7⟩:=q7;exact⟨σ7,H7,I7.unpinned,q7⟩
  |ret v=>obtain⟨x7,σ7,H7,I7,r7,q7⟩:=q7;exact⟨x7,σ7,H7,I7.unpinned,r7,q7⟩
end
theorem iw{K:PySem.W.Frag}{a:Addr}{xs:List V}{g:TG}{tb:TS}{D:di}{σ:St}{H:Hp}(Pv:Nat->St->Hp->Prop)(h0:Pv 0 σ H)(hl:∀i σ H,i<=xs.length->Pv i σ H->SqL K H a xs)
 (hs:∀i x σ H,xs[i]?=some x->Pv i σ H->g x σ H λσ2 H2=>tb { D with nx:=Pv (i+1),ct:=Pv (i+1),bk:=D.nx } σ2 H2) (hd:∀σ H,Pv xs.length σ H->D.nx σ H) :
 ∃W:Nat->Nat->St->Hp->Prop,(∃m,W 0 m σ H)/\∀i m σ H,W i m σ H ->
  ((Itl K a).stop i H/\D.nx σ H)\/((Itl K a).go i H/\∃N:St->Hp->Prop,(∀σ' H',N σ' H'->∃m',m'<m/\W (i+1) m' σ' H')/\∀x H',(Itl K a).yld i H x H'->g x σ H' λσ2 H2=>tb { D with nx:=N,ct:=N,bk:=D.nx } σ2 H2):=by
 refine⟨λi m σ H=>m=xs.length-i/\i<=xs.length/\Pv i σ H,⟨xs.length,by simp,KJ _,h0⟩,?_⟩;rintro i m σ H ⟨rfl,hi,p⟩;have q:=hl i σ H hi p;by_cases hlt:i<xs.length
 ·refine .inr ⟨⟨xs,xs[i],q,by simp[hlt]⟩,Pv (i+1),λσ' H' p'=>⟨xs.length-(i+1),by omega,rfl,hlt,p'⟩,λx H' y=>?_⟩;obtain⟨e,y⟩:=y;subst e;exact hs i x σ _ (y xs q) p
 ·have e:i=xs.length:=by omega
  subst e;exact .inl ⟨⟨xs,q,KH _⟩,hd σ H p⟩
theorem FW{K:PySem.W.Frag}{a:Addr}{xs:List V}{g:TG}{tb:TS}{D:di}{σ:St}{H:Hp}(Pv:Nat->St->Hp->Prop)(h0:Pv 0 σ H)(hl:∀i σ H,i<=xs.length->Pv i σ H->SqT K H a xs)
 (hs:∀i x σ H,xs[i]?=some x->Pv i σ H->g x σ H λσ2 H2=>tb { D with nx:=Pv (i+1),ct:=Pv (i+1),bk:=D.nx } σ2 H2) (hd:∀σ H,Pv xs.length σ H->D.nx σ H) :
 ∃W:Nat->Nat->St->Hp->Prop,(∃m,W 0 m σ H)/\∀i m σ H,W i m σ H ->
  ((Itt K a).stop i H/\D.nx σ H)\/((Itt K a).go i H/\∃N:St->Hp->Prop,(∀σ' H',N σ' H'->∃m',m'<m/\W (i+1) m' σ' H')/\∀x H',(Itt K a).yld i H x H'->g x σ H' λσ2 H2=>tb { D with nx:=N,ct:=N,bk:=D.nx } σ2 H2):=by
 refine⟨λi m σ H=>m=xs.length-i/\i<=xs.length/\Pv i σ H,⟨xs.length,by simp,KJ _,h0⟩,?_⟩;rintro i m σ H ⟨rfl,hi,p⟩;have q:=hl i σ H hi p;by_cases hlt:i<xs.length
 ·refine .inr ⟨⟨xs,xs[i],q,by simp[hlt]⟩,Pv (i+1),λσ' H' p'=>⟨xs.length-(i+1),by omega,rfl,hlt,p'⟩,λx H' y=>?_⟩;obtain⟨e,y⟩:=y;subst e;exact hs i x σ _ (y xs q) p
 ·have e:i=xs.length:=by omega
  subst e;exact .inl ⟨⟨xs,q,KH _⟩,hd σ H p⟩
theorem nD{lo:Int}{n:Nat}{g:TG}{tb:TS}{D:di}{σ:St}{H:Hp}(Pv:Nat->St->Hp->Prop)(h0:Pv 0 σ H)
 (hs:∀i σ H,i<n->Pv i σ H->g (.int (lo+i)) σ H λσ2 H2=>tb { D with nx:=Pv (i+1),ct:=Pv (i+1),bk:=D.nx } σ2 H2) (hd:∀σ H,Pv n σ H->D.nx σ H) :
 ∃W:Nat->Nat->St->Hp->Prop,(∃m,W 0 m σ H)/\∀i m σ H,W i m σ H ->
  ((Itr lo n).stop i H/\D.nx σ H)\/((Itr lo n).go i H/\∃N:St->Hp->Prop,(∀σ' H',N σ' H'->∃m',m'<m/\W (i+1) m' σ' H')/\∀x H',(Itr lo n).yld i H x H'->g x σ H' λσ2 H2=>tb { D with nx:=N,ct:=N,bk:=D.nx } σ2 H2):=by
 refine⟨λi m σ H=>m=n-i/\i<=n/\Pv i σ H,⟨n,by simp,KJ _,h0⟩,?_⟩;rintro i m σ H ⟨rfl,hi,p⟩;by_cases hlt:i<n
 ·refine .inr ⟨hlt,Pv (i+1),λσ' H' p'=>⟨n-(i+1),by omega,rfl,hlt,p'⟩,λx H' y=>?_⟩;obtain⟨e,y⟩:=y;subst e y;exact hs i σ _ hlt p
 ·have e:i=n:=by omega
  subst e;exact .inl ⟨KH _,hd σ H p⟩
abbrev R2:=V->V->Hp->VK->Prop
noncomputable def OpR(X:Cx)(f:Value->Value->Sem Value)(r:R2):Prop :=
 ∀(pins:List (Addr×Obj)) (s:Shared) (σ:St) (H:Hp) (x y:V) (v u:Value) (Q:VK),Inv X pins σ H s->RelV x v->RelV y u->r x y H Q ->
  wpAny (model X.prog X.w) X.A (f v u) (EP X pins σ Q) X.xe s
noncomputable def UnR(X:Cx)(f:Value->Sem Value)(r:V->Hp->VK->Prop):Prop :=
 ∀(pins:List (Addr×Obj)) (s:Shared) (σ:St) (H:Hp) (x:V) (v:Value) (Q:VK),Inv X pins σ H s->RelV x v->r x H Q ->
  wpAny (model X.prog X.w) X.A (f v) (EP X pins σ Q) X.xe s
noncomputable def d5(X:Cx)(f:Value)(r:List V->Hp->VK->Prop):Prop :=
 ∀(pins:List (Addr×Obj)) (s:Shared) (σ:St) (H:Hp) (xs:List V) (us:List Value) (Q:VK),Inv X pins σ H s->Vals xs us->r xs H Q ->
  wpAny (model X.prog X.w) X.A (call f us) (EP X pins σ Q) X.xe s
def tOp(r:R2)(ta tb:TE):TE:=λσ H Q=>ta σ H λx H1=>tb σ H1 λy H2=>r x y H2 Q
def tUn(r:V->Hp->VK->Prop)(ta:TE):TE:=λσ H Q=>ta σ H λx H1=>r x H1 Q
def rI(C:Int->Int->Prop)(g:Int->Int->V):R2:=λx y H Q=>∃i j,x=.int i/\y=.int j/\C i j/\Q (g i j) H
def rI0(g:Int->Int->V):R2:=λx y H Q=>∃i j,x=.int i/\y=.int j/\Q (g i j) H
noncomputable def rU(g:Int->V):V->Hp->VK->Prop:=λx H Q=>∃i,x=.int i/\Q (g i) H
section
variable {X:Cx}{a b c:Expr}{ta tb tc:TE}{pos:Pos}
theorem sA(ha:PE X a ta)(hb:PE X b tb){pins:List (Addr×Obj)}{s:Shared}{σ:St}{H:Hp}{R:V->V->Hp->Prop}(I:Inv X pins σ H s)
 (h:ta σ H λx H1=>tb σ H1 λy H2=>R x y H2) {Q:Value->Shared->Prop} {f:Value->Value->Sem Value}
 (hf:∀v u s2 x y H2,Inv X pins σ H2 s2->RelV x v->RelV y u->R x y H2->wpAny (model X.prog X.w) X.A (f v u) Q X.xe s2) :
 wpAny (model X.prog X.w) X.A (eval a X.env) (λv s₁=>wpAny (model X.prog X.w) X.A (eval b X.env) (λu s₂=>wpAny (model X.prog X.w) X.A (f v u) Q X.xe s₂) X.xe s₁) X.xe s:=by
 refine thn (ha pins s σ H _ I h) λv s1 ⟨x,H1,I1,r1,q1⟩=>?_
 refine thn (hb pins s1 σ H1 _ I1 q1) λu s2 ⟨y,H2,I2,r2,q2⟩=>?_
 exact hf v u s2 x y H2 I2 r1 r2 q2
theorem ah{op:Operator}{r:R2}(ho:OpR X (binaryOp op) r)(ha:PE X a ta)(hb:PE X b tb):PE X (.BinOp a op b pos) (tOp r ta tb):=by intro pins s σ H Q I h;exact wpAny_BinOp (sA ha hb I h λv u s2 x y H2 I2 rx ry q=>ho pins s2 σ H2 x y v u Q I2 rx ry q)
theorem ck{op:UnaryOp}{r:V->Hp->VK->Prop}(ho:UnR X (unaryOp op) r)(ha:PE X a ta):PE X (.UnaryOp op a pos) (tUn r ta):=by intro pins s σ H Q I h;exact UnaryOp_ (thn (ha pins s σ H _ I h) λv s1 ⟨x,H1,I1,r1,q1⟩=>ho pins s1 σ H1 x v Q I1 r1 q1)
theorem opI{f:Value->Value->Sem Value}{C:Int->Int->Prop}{g:Int->Int->Int}
 (rule:∀(i j:Int) (t u:Tok) (s:Shared) (Q:Value->Shared->Prop) (E:Value->Shared->Prop),C i j->Q (.int (g i j) s.toks) { s with toks:=s.toks+1 }->wpAny (model X.prog X.w) X.A (f (.int i t) (.int j u)) Q E s) :
 OpR X f (rI C λi j=>.int (g i j)):=by
 intro pins s σ H x y v u Q I rx ry h;obtain⟨i,j,rfl,rfl,hc,q⟩:=h;obtain⟨t,rfl⟩:=rx;obtain⟨t',rfl⟩:=ry;exact rule i j t t' s _ _ hc ⟨.int (g i j),H,I.tok _,⟨_,rfl⟩,q⟩
theorem wG{f:Value->Value->Sem Value}{g:Int->Int->Int}
 (rule:∀(i j:Int) (t u:Tok) (s:Shared) (Q:Value->Shared->Prop) (E:Value->Shared->Prop),Q (.int (g i j) s.toks) { s with toks:=s.toks+1 }->wpAny (model X.prog X.w) X.A (f (.int i t) (.int j u)) Q E s) :
 OpR X f (rI0 λi j=>.int (g i j)):=by
 intro pins s σ H x y v u Q I rx ry h;obtain⟨i,j,rfl,rfl,q⟩:=h;obtain⟨t,rfl⟩:=rx;obtain⟨t',rfl⟩:=ry;exact rule i j t t' s _ _ ⟨.int (g i j),H,I.tok _,⟨_,rfl⟩,q⟩
theorem ju{f:Value->Value->Sem Value}{g:Int->Int->Bool}
 (rule:∀(i j:Int) (t u:Tok) (s:Shared) (Q:Value->Shared->Prop) (E:Value->Shared->Prop),Q (.bool (g i j)) s->wpAny (model X.prog X.w) X.A (f (.int i t) (.int j u)) Q E s) :
 OpR X f (rI0 λi j=>.bl (g i j)):=by
 intro pins s σ H x y v u Q I rx ry h;obtain⟨i,j,rfl,rfl,q⟩:=h;obtain⟨t,rfl⟩:=rx;obtain⟨t',rfl⟩:=ry;exact rule i j t t' s _ _ ⟨.bl (g i j),H,I,rfl,q⟩
def CMul(i j:Int):Prop:=(-(2^64)<i/\i<2^64)\/(-(2^64)<j/\j<2^64)
theorem CMul.ok{i j:Int}(h:CMul i j):IntMulOk i j:=by
 rcases h with⟨h1,h2⟩ |⟨h1,h2⟩
 ·exact .of_left (intBits_le_64 h1 h2)
 ·exact .of_right (intBits_le_64 h1 h2)
theorem bj:OpR X (binaryOp .Add) (rI0 λi j=>.int (i+j)):=wG λ_ _ _ _ _ _ _ q=>add_int q
theorem bB:OpR X (binaryOp .Sub) (rI0 λi j=>.int (i-j)):=wG λ_ _ _ _ _ _ _ q=>sub_int q
theorem jt:OpR X (binaryOp .Mult) (rI CMul λi j=>.int (i*j)):=opI λ_ _ _ _ _ _ _ hc q=>mul_int q hc.ok
theorem CK:OpR X (binaryOp .Mod) (rI (λ_ j=>0<j) λi j=>.int (i%j)):=opI λi j _ _ _ _ _ hc q=>by have h1:(0:Int)<j:=hc;exact mod_int' (by omega) (by rw[Int.fmod_eq_emod_of_nonneg i (by omega)];exact q)
theorem unI{f:Value->Sem Value}{g:Int->Int}
 (rule:∀(i:Int) (t:Tok) (s:Shared) (Q:Value->Shared->Prop) (E:Value->Shared->Prop),Q (.int (g i) s.toks) { s with toks:=s.toks+1 }->wpAny (model X.prog X.w) X.A (f (.int i t)) Q E s) :
 UnR X f (rU λi=>.int (g i)):=by
 intro pins s σ H x v Q I rx h;obtain⟨i,rfl,q⟩:=h;obtain⟨t,rfl⟩:=rx;exact rule i t s _ _ ⟨.int (g i),H,I.tok _,⟨_,rfl⟩,q⟩
theorem ci:UnR X (unaryOp .USub) (rU λi=>.int (-i)):=unI λ_ _ _ _ _ q=>neg_int q
end
noncomputable def vq:V->V->Bool
 |.non,.non=>true |.non,.int _=>true |.int _,.non=>true |.non,.bl _=>true |.bl _,.non=>true |.non,.str _=>true |.str _,.non=>true
 |.int _,.int _=>true |.bl _,.bl _=>true |.str _,.str _=>true |.byt _,.byt _=>true
 |.int _,.str _=>true |.str _,.int _=>true |.bl _,.str _=>true |.str _,.bl _=>true
 |_,_=>false
def rEq:R2:=λx y H Q=>vq x y=true/\Q (.bl (decide (x=y))) H
def rNe:R2:=λx y H Q=>vq x y=true/\Q (.bl (!decide (x=y))) H
theorem yx{i j:Int}:decide (V.int i=V.int j)=(i == j):=by rw[Md];simp
theorem yz{i j:Bool}:decide (V.bl i=V.bl j)=(i == j):=by rw[Md];simp
theorem yw{i j:Str}:decide (V.str i=V.str j)=(i == j):=by rw[Md];simp
theorem yy{i j:Array UInt8}:decide (V.byt i=V.byt j)=(i.toList == j.toList):=by rw[Md];cases i;cases j;simp
section
variable {X:Cx}{a b c:Expr}{ta tb tc:TE}{pos:Pos}
theorem bE{pins:List (Addr×Obj)}{σ:St}{H:Hp}{s:Shared}{Q:VK}{k k':Bool}(I:Inv X pins σ H s)(q:Q (.bl k) H)(e:k=k'):EP X pins σ Q (.bool k') s:=by subst e;exact⟨.bl k,H,I,rfl,q⟩
theorem rf:OpR X (compareOp .Eq) rEq:=by
 intro pins s σ H x y v u Q I rx ry h;obtain⟨hs,q⟩:=h;cases x with
 |non =>
  cases rx;cases y with
  |non=>cases ry;exact PySem.EqNone.eq_none_none (bE I q (by simp))
  |bl j=>cases ry;exact PySem.EqNone.eq_none_bool (bE I q (by simp))
  |int j=>obtain⟨t',rfl⟩:=ry;exact PySem.EqNone.eq_none_int (bE I q (by simp))
  |str j=>obtain⟨t',rfl⟩:=ry;exact PySem.EqNone.eq_none_str (bE I q (by simp))
  |_=>exact absurd (show false=true from hs) Lm
 |bl i =>
  cases rx;cases y with
  |non=>cases ry;exact PySem.EqNone.eq_bool_none (bE I q (by simp))
  |bl j=>cases ry;exact eq_bool (bE I q yz)
  |str j=>obtain⟨t',rfl⟩:=ry;exact PySem.EqMixed.eq_bool_str (bE I q (by simp))
  |_=>exact absurd (show false=true from hs) Lm
 |int i =>
  obtain⟨t,rfl⟩:=rx;cases y with
  |non=>cases ry;exact PySem.EqNone.eq_int_none (bE I q (by simp))
  |int j=>obtain⟨t',rfl⟩:=ry;exact eq_int (bE I q yx)
  |str j=>obtain⟨t',rfl⟩:=ry;exact PySem.EqMixed.eq_int_str (bE I q (by simp))
  |_=>exact absurd (show false=true from hs) Lm
 |str i =>
  obtain⟨t,rfl⟩:=rx;cases y with
  |non=>cases ry;exact PySem.EqNone.eq_str_none (bE I q (by simp))
  |bl j=>cases ry;exact PySem.EqMixed.eq_str_bool (bE I q (by simp))
  |int j=>obtain⟨t',rfl⟩:=ry;exact PySem.EqMixed.eq_str_int (bE I q (by simp))
  |str j=>obtain⟨t',rfl⟩:=ry;exact eq_str (bE I q yw)
  |_=>exact absurd (show false=true from hs) Lm
 |byt i =>
  obtain⟨t,rfl⟩:=rx;cases y with
  |byt j=>obtain⟨t',rfl⟩:=ry;exact PySem.W.eq_bytes (bE I q yy)
  |_=>exact absurd (show false=true from hs) Lm
 |_=>cases y<;>exact absurd (show false=true from hs) Lm
theorem wC:OpR X (compareOp .NotEq) rNe:=by
 intro pins s σ H x y v u Q I rx ry h;obtain⟨hs,q⟩:=h;cases x with
 |non =>
  cases rx;cases y with
  |non=>cases ry;exact PySem.EqNone.ne_none_none (bE I q (by simp))
  |bl j=>cases ry;exact PySem.EqNone.ne_none_bool (bE I q (by simp))
  |int j=>obtain⟨t',rfl⟩:=ry;exact PySem.EqNone.ne_none_int (bE I q (by simp))
  |str j=>obtain⟨t',rfl⟩:=ry;exact PySem.EqNone.ne_none_str (bE I q (by simp))
  |_=>exact absurd (show false=true from hs) Lm
 |bl i =>
  cases rx;cases y with
  |non=>cases ry;exact PySem.EqNone.ne_bool_none (bE I q (by simp))
  |bl j=>cases ry;exact ne_bool (bE I q (congrArg not yz))
  |str j=>obtain⟨t',rfl⟩:=ry;exact PySem.EqMixed.ne_bool_str (bE I q (by simp))
  |_=>exact absurd (show false=true from hs) Lm
 |int i =>
  obtain⟨t,rfl⟩:=rx;cases y with
  |non=>cases ry;exact PySem.EqNone.ne_int_none (bE I q (by simp))
  |int j=>obtain⟨t',rfl⟩:=ry;exact ne_int (bE I q (congrArg not yx))
  |str j=>obtain⟨t',rfl⟩:=ry;exact PySem.EqMixed.ne_int_str (bE I q (by simp))
  |_=>exact absurd (show false=true from hs) Lm
 |str i =>
  obtain⟨t,rfl⟩:=rx;cases y with
  |non=>cases ry;exact PySem.EqNone.ne_str_none (bE I q (by simp))
  |bl j=>cases ry;exact PySem.EqMixed.ne_str_bool (bE I q (by simp))
  |int j=>obtain⟨t',rfl⟩:=ry;exact PySem.EqMixed.ne_str_int (bE I q (by simp))
  |str j=>obtain⟨t',rfl⟩:=ry;exact ne_str (bE I q (congrArg not yw))
  |_=>exact absurd (show false=true from hs) Lm
 |byt i =>
  obtain⟨t,rfl⟩:=rx;cases y with
  |byt j=>obtain⟨t',rfl⟩:=ry;exact PySem.W.ne_bytes (bE I q (congrArg not yy))
  |_=>exact absurd (show false=true from hs) Lm
 |_=>cases y<;>exact absurd (show false=true from hs) Lm
theorem cr:OpR X (compareOp .Lt) (rI0 λi j=>.bl (decide (i<j))):=ju λ_ _ _ _ _ _ _ q=>lt_int q
theorem gF:OpR X (compareOp .LtE) (rI0 λi j=>.bl (decide (i<=j))):=ju λ_ _ _ _ _ _ _ q=>le_int q
theorem ca:OpR X (compareOp .Gt) (rI0 λi j=>.bl (decide (j<i))):=ju λ_ _ _ _ _ _ _ q=>gt_int q
theorem kE:OpR X (compareOp .GtE) (rI0 λi j=>.bl (decide (j<=i))):=ju λ_ _ _ _ _ _ _ q=>ge_int q
theorem wM(b:Expr){op:CmpOp}(h:op≠.In:=by decide)(h2:op≠.NotIn:=by decide):behindInMarks op b=false:=by
 have e1:(op == CmpOp.In)=false:=by cases op<;>first |rfl |exact absurd rfl h
 have e2:(op == CmpOp.NotIn)=false:=by cases op<;>first |rfl |exact absurd rfl h2
 cases b<;>simp[behindInMarks,e1,e2]
theorem Cs{op:CmpOp}{r:R2}(ho:OpR X (compareOp op) r)(ha:PE X a ta)(hb:PE X b tb)(hm:behindInMarks op b=false):PE X (.Compare a [op] [b] pos) (tOp r ta tb):=by intro pins s σ H Q I h;exact wpAny_Compare1 (sA ha hb I h λv u s2 x y H2 I2 rx ry q=>ho pins s2 σ H2 x y v u Q I2 rx ry q) hm
def tx(t:TE):TT:=λσ H Q=>t σ H λx H'=>∃k,x=.bl k/\Q k H'
theorem B5{op:CmpOp}{r:R2}(ho:OpR X (compareOp op) r)(ha:PE X a ta)(hb:PE X b tb)(hm:behindInMarks op b=false):PT X (.Compare a [op] [b] pos) (tx (tOp r ta tb)):=by
 intro pins s σ H Q I h
 refine wpAny_isTrue_Compare1 (thn (ha pins s σ H _ I h) λv s1 ⟨x,H1,I1,r1,q1⟩=>thn (hb pins s1 σ H1 _ I1 q1) λu s2 ⟨y,H2,I2,r2,q2⟩ =>thn (ho pins s2 σ H2 x y v u _ I2 r1 r2 q2) λc s3 ⟨z,H3,I3,r3,k,e,q3⟩=>?_) hm
 subst e;cases r3;exact wpAny_truthy_bool ⟨H3,I3,q3⟩
theorem m7:(sizeLine:Nat)<2^63:=by rw[sizeLine_eq];decide
theorem gS{x:V}{us:List Value}(r:Vals [x] us):∃u,us=[u]/\RelV x u:=by
 cases r with
 |cons r1 r2=>cases r2;exact⟨_,rfl,r1⟩
theorem zE{x y:V}{us:List Value}(r:Vals [x,y] us):∃u w',us=[u,w']/\RelV x u/\RelV y w':=by
 cases r with
 |cons r1 r2 =>
  cases r2 with
  |cons r3 r4=>cases r4;exact⟨_,_,rfl,r1,r3⟩
theorem jL:d5 X (.builtin "abs") (λxs H Q=>∃i,xs=[.int i]/\Q (.int (if i<0 then -i else i)) H):=by intro pins s σ H xs us Q I r h;obtain⟨i,rfl,q⟩:=h;obtain⟨u,rfl,t,rfl⟩:=gS r;exact call_abs_int λu tk=>⟨.int (if i<0 then -i else i),H,I.tok _,⟨_,rfl⟩,q⟩
theorem yS(hc:X.calm=true):d5 X (.builtin "max") (λxs H Q=>∃i j,xs=[.int i,.int j]/\Q (.int (if j>i then j else i)) H):=by
 intro pins s σ H xs us Q I r h;obtain⟨i,j,rfl,q⟩:=h;obtain⟨u,w',rfl,⟨t,rfl⟩,⟨t',rfl⟩⟩:=zE r;refine max_two_ints (I.ok.hd hc) λh' tk k=>⟨_,H,I.kept k,?_,q⟩
 by_cases hj:j>i
 ·rw[if_pos hj,if_pos hj];exact⟨_,rfl⟩
 ·rw[if_neg hj,if_neg hj];exact⟨_,rfl⟩
theorem iD:d5 X (.type "int") (λxs H Q=>(∃i,xs=[.int i]/\Q (.int i) H)\/∃k,xs=[.bl k]/\Q (.int (if k then 1 else 0)) H):=by
 intro pins s σ H xs us Q I r h;rcases h with⟨i,rfl,q⟩ |⟨k,rfl,q⟩
 ·obtain⟨u,rfl,t,rfl⟩:=gS r;exact call_int_int ⟨.int i,H,I,⟨_,rfl⟩,q⟩
 ·obtain⟨u,rfl,r1⟩:=gS r;cases r1;exact call_int_bool ⟨.int (if k then 1 else 0),H,I.tok _,⟨_,rfl⟩,q⟩
end
structure ObjM(h:Heap)(x dx C:Addr)(mA:Str->Option Value):Prop where
 obj:h.get? x=some (PySem.W.instObj C dx)
 ns:h.Ns1 dx mA
 ne:dx≠x
theorem E7{h:Heap}{dx:Addr}{mA:Str->Option Value}(n:h.Ns1 dx mA):∃od,h.get? dx=some od/\∀name,PySem.W.lookIn name od=some (mA name):=by
 obtain⟨o,es,ep,ho,hd,hk,_,hm⟩:=n;refine⟨o,ho,λname=>?_⟩;have e:=hm name;unfold nsFind findBy at e
 rw[<- Array.find?_toList]at e;unfold PySem.W.lookIn;rw[hd];dsimp only
 split
 ·rename_i y q
  rw[q]at e;exact congrArg some e
 ·rename_i q
  rw[q]at e
  have a:es.toList.any (·.refKey)=false:=by rw[List.any_eq_false];intro y hy;obtain⟨z,t,hkey⟩:=hk y (Array.mem_toList_iff.mp hy);simp[DictEntry.refKey,hkey]
  have a':¬es.toList.any (·.refKey)=true:=by rw[a];exact Lm
  rw[if_neg a'];exact congrArg some e
theorem ObjM.look{h:Heap}{x dx C:Addr}{mA:Str->Option Value}(I:ObjM h x dx C mA):∃od,PySem.W.InstAt h x (PySem.W.instObj C dx) C (some od)/\∀name,PySem.W.lookIn name od=some (mA name) :=
 let⟨od,ho,hl⟩:=E7 I.ns
 ⟨od,⟨I.obj,rfl,rfl,ho⟩,hl⟩
section
variable {prog:Program}{w:World}{A:Around}{E:Value->Shared->Prop}{s:Shared}{K:PySem.W.Frag}{x dx C f:Addr}{mA:Str->Option Value}{name:Str}{v:Value}
theorem FL{expr:Bool}{Q:Value->Shared->Prop}(X:K.In s.heap)(I:ObjM s.heap x dx C mA)(hg:PySem.W.plainGet K C name=true)(hh:PySem.W.hasDictIn K C=true)
 (ha:PySem.W.findIn K (.ref C) name=some none) (hv:mA name=some v) (hv':PySem.W.handedIn v=true) (h:Q v { s with toks:=s.toks+1 }) :
 wpAny (model prog w) A (getAttr (.ref x) name expr) Q E s:=by
 obtain⟨od,J,hl⟩:=I.look;exact PySem.W.get_value X J (PySem.W.plainGet_of hg).1 (PySem.W.findObj_own hh ha rfl (by rw[hl,hv])) hv' h
theorem FK{pl:Sem Bool}{Q:Value×List Value->Shared->Prop}(X:K.In s.heap)(I:ObjM s.heap x dx C mA)(hg:PySem.W.plainGet K C name=true)
 (hf:PySem.W.findIn K (.ref C) name=some (some (.ref f))) (ht:PySem.W.isFn K (.ref f)=true) (hv:mA name=none) (h:Q (.ref f,[.ref x]) s) :
 wpAny (model prog w) A (getMethod (.ref x) name pl) Q E s:=by
 obtain⟨od,J,hl⟩:=I.look;exact PySem.W.method_fn X J (PySem.W.plainGet_of hg).1 (PySem.W.plainGet_of hg).2 hf (beq_iff_eq.mp ht) (by show(PySem.W.lookIn name od).map (·.isSome)=some false;rw[hl,hv];rfl) h
theorem oM{ns:List Str}{Q:Unit->Shared->Prop}(X:K.In s.heap)(I:ObjM s.heap x dx C mA)
 (hs:PySem.W.findIn K (.ref C) "__setattr__"=some (some (.builtin "object.__setattr__"))) (hp:PySem.W.plainOver K C=true) (ht:PySem.W.takerIn K C name=some none) (hh:PySem.W.hasDictIn K C=true)
 (hw:PySem.Within mA ns) (hsz:ns.length<=sizeLine)
 (h:∀h',ObjM h' x dx C (λy=>if y=name then some v else mA y)->Heap.SameBut dx s.heap h'->Q () { s with heap:=h',toks:=s.toks+2 }) :
 wpAny (model prog w) A (setAttr (.ref x) name v) Q E s:=by
 obtain⟨od,J,hl⟩:=I.look;refine PySem.W.set_plain X J hs (PySem.W.osa_open (s:={ s with toks:=s.toks+1 }) (r:=none) X J hp ht λb=>?_);obtain⟨cd,hc,hd'⟩:=PySem.W.any_some hh;have hx:s.heap.get? x=some ⟨.ref C,some dx,.plain,#[]⟩:=I.obj;refine wpAny_bind (wpAny_pure (wpAny_bind (wpAny_bind (wpAny_loadPart hx (wpAny_bind (PySem.W.Looks.here (s:={ s with toks:=s.toks+1 }) (PySem.W.looks_clsIn X hc) ?_))))));rw[hd'];refine wpAny_pure (a:=some dx) (wpAny_bind (wpAny_pure (wpAny_bind ?_)));refine wpAny_nsSet1 (s:={ s with toks:=s.toks+1 }) I.ns λh' hn2 hs2=>?_
 obtain⟨oD,esD,epD,hoD,hdD,hcD⟩:=hn2.count (PySem.Within.cons name v hw);refine wpAny_bind (wpAny_lookBehind hoD (by rw[hdD];exact pastItsLine_dict (KZ hcD (by rw[Lr];omega))) ?_);exact wpAny_pure (h _ ⟨(hs2.2 _ (Ne.symm I.ne)).trans I.obj,hn2,I.ne⟩ hs2)
theorem EZ{R:Result->Shared->Prop}{vs:List Value}{kw:List (Str×Value)}(X:K.In s.heap)(hm:PySem.W.makesIn K C=true)
 (hi:PySem.W.findIn K (.ref C) "__init__"=some (some (.ref f))) (hf:PySem.W.typeIn K (.ref f)=some (.type "function"))
 (h:codeAny (model prog w) (A.under (.builtin "type.__call__" ⟨.ref C::vs,kw⟩)) (.call (.ref f) ⟨.ref (s.heap.objs.size+1)::vs,kw⟩) (PySem.W.InitBack (s.heap.objs.size+1) R)
   { s with heap:=(s.heap.push PySem.W.emptyDict).push (PySem.W.instObj C s.heap.objs.size) }) :
 codeAny (model prog w) A (.call (.ref C) ⟨vs,kw⟩) R s:=by
 obtain⟨hh,g,d,t,os⟩:=s;exact PySem.W.make_core (PySem.W.makes_of X hm) (PySem.W.looks_findIn X hi) (λself=>PySem.W.bind_fn X self hf) (.inl rfl) h
end
noncomputable def cv(f:Str)(v:V):List (Str×V)->List (Str×V)
 | []=>[(f,v)]
 | (g,x)::r=>if g=f then(g,v)::r else(g,x)::cv f v r
theorem dS(f g:Str)(v:V):∀fs:List (Str×V),(cv f v fs).lookup g=if g=f then some v else fs.lookup g
 | []=>by
  show List.lookup g [(f,v)]=_;by_cases h:g=f
  ·have hb:(g == f)=true:=beq_iff_eq.mpr h;simp only[List.lookup,hb,if_pos h]
  ·have hb:(g == f)=false:=beq_eq_false_iff_ne.mpr h;simp only[List.lookup,hb,if_neg h]
 | (k,x)::r=>by
  have ih:=dS f g v r;rw[show cv f v ((k,x)::r)=(if k=f then(k,v)::r else(k,x)::cv f v r)from rfl];by_cases hk:k=f
  ·rw[if_pos hk];by_cases h:g=k
   ·have hb:(g == k)=true:=beq_iff_eq.mpr h;simp only[List.lookup,hb,if_pos (h.trans hk)]
   ·have hb:(g == k)=false:=beq_eq_false_iff_ne.mpr h;simp only[List.lookup,hb,if_neg (λe:g=f=>h (e.trans hk.symm))]
  ·rw[if_neg hk];by_cases h:g=k
   ·have hb:(g == k)=true:=beq_iff_eq.mpr h;simp only[List.lookup,hb,if_neg (λe:g=f=>hk (h.symm.trans e))]
   ·have hb:(g == k)=false:=beq_eq_false_iff_ne.mpr h;simp only[List.lookup,hb];exact ih
theorem rJ(f:Str)(v:V):∀fs:List (Str×V),f∈(cv f v fs).map (·.1)/\∀g,g∈fs.map (·.1)->g∈(cv f v fs).map (·.1)
 | []=>⟨by simp[cv],λg h=>by simp at h⟩
 | (k,x)::r=>by
  obtain⟨i1,i2⟩:=rJ f v r;rw[show cv f v ((k,x)::r)=(if k=f then(k,v)::r else(k,x)::cv f v r)from rfl];by_cases hk:k=f
  ·rw[if_pos hk];subst hk;exact⟨by simp,λg h=>by simpa using h⟩
  ·rw[if_neg hk];refine⟨?_,λg h=>?_⟩
   ·rw[Me];exact Ll _ i1
   ·rw[Me]at h ⊢;rcases KS.mp h with e |e
    ·exact KS.mpr (.inl e)
    ·exact Ll _ (i2 g e)
theorem xr(f:Str)(v:V):∀fs:List (Str×V),(cv f v fs).length<=fs.length+1
 | []=>by simp[cv]
 | (k,x)::r=>by
  have ih:=xr f v r;rw[show cv f v ((k,x)::r)=(if k=f then(k,v)::r else(k,x)::cv f v r)from rfl];by_cases hk:k=f
  ·rw[if_pos hk,Lr,Lr];omega
  ·rw[if_neg hk,Lr,Lr];omega
theorem RelO.some_of{v:V}{o:Option Value}(r:RelO (some v) o):∃u,o=some u/\RelV v u:=by
 cases o with
 |none=>exact(show False from r).elim
 |some u=>exact⟨u,rfl,r⟩
theorem RelO.none_of{o:Option Value}(r:RelO none o):o=none:=by
 cases o with
 |none=>rfl
 |some u=>exact(show False from r).elim
theorem FC{v:V}{u:Value}(r:RelV v u):PySem.W.handedIn u=true:=by
 cases v with
 |non=>cases(show u=Value.none from r);rfl
 |bl b=>cases(show u=Value.bool b from r);rfl
 |int i=>obtain⟨t,e⟩:=(show ∃t,u=Value.int i t from r);cases e;rfl
 |str x=>obtain⟨t,e⟩:=(show ∃t,u=Value.str x t from r);cases e;rfl
 |byt b=>obtain⟨t,e⟩:=(show ∃t,u=Value.bytes b t from r);cases e;rfl
 |flt b=>obtain⟨t,e⟩:=(show ∃t,u=Value.float b t from r);cases e;rfl
 |ref a=>cases(show u=Value.ref a from r);rfl
 |ty n=>cases(show u=Value.type n from r);rfl
section
variable {P:Program}{w:World}{H H':Hp}{h h':Heap}{a C dx:Addr}{fs fs':List (Str×V)}
theorem nh(hok:HOk P w H h)(e:H a=some (.ins C dx fs)):∃mA,ObjM h a dx C mA/\(∀f,RelO (fs.lookup f) (mA f))/\PySem.Within mA (fs.map (·.1))/\fs.length<=1000/\H dx=some (.own a):=by obtain⟨d,z,ne,ob,mA,n,r,q⟩:=(show ObjOk P w H h a (.ins C dx fs)from hok a _ e);exact⟨mA,⟨ob,n,ne⟩,r,q,z,d⟩
end
structure Cls(K:PySem.W.Frag)(C:Addr):Prop where
 pg:PySem.W.plainGet K C Str.empty=true
 hd:PySem.W.hasDictIn K C=true
 po:PySem.W.plainOver K C=true
 sa:PySem.W.findIn K (.ref C) "__setattr__"=some (some (.builtin "object.__setattr__"))
theorem Cls.get{K:PySem.W.Frag}{C:Addr}(c:Cls K C)(f:Str):PySem.W.plainGet K C f=true:=c.pg
def NoAttr(K:PySem.W.Frag)(C:Addr)(f:Str):Prop:=PySem.W.findIn K (.ref C) f=some none
theorem NoAttr.taker{K:PySem.W.Frag}{C:Addr}{f:Str}(n:NoAttr K C f):PySem.W.takerIn K C f=some none:=by unfold PySem.W.takerIn;rw[show PySem.W.findIn K (.ref C) f=some none from n];rfl
structure Meth(K:PySem.W.Frag)(C:Addr)(m:Str)(f:Addr):Prop where
 at_:PySem.W.findIn K (.ref C) m=some (some (.ref f))
 fn:PySem.W.isFn K (.ref f)=true
 kp:PySem.W.keepIn K (.ref f)=true
section
variable {X:Cx}{pins:List (Addr×Obj)}{σ:St}{H:Hp}{s:Shared}{a C dx:Addr}{fs:List (Str×V)}{f:Str}{v:V}{A:Around}{E:Value->Shared->Prop}
theorem FJ{b:Bool}{Q:Value->Shared->Prop}(I:Inv X pins σ H s)(e:H a=some (.ins C dx fs))(c:Cls X.K C)(n:NoAttr X.K C f)(l:fs.lookup f=some v)
 (h:∀u s',Inv X pins σ H s'->RelV v u->Q u s'):wpAny (model X.prog X.w) A (getAttr (.ref a) f b) Q E s:=by
 obtain⟨mA,O,r,_,_,_⟩:=nh I.hok e;obtain⟨u,hu,ru⟩:=RelO.some_of (v:=v) (o:=mA f) (by rw[<- l];exact r f);exact FL I.kIn O (c.get f) c.hd n hu (FC ru) (h u _ (I.tok _) ru)
theorem FI{m:Str}{g:Addr}{pl:Sem Bool}{Q:Value×List Value->Shared->Prop}(I:Inv X pins σ H s)(e:H a=some (.ins C dx fs))(c:Cls X.K C)(k:Meth X.K C m g)(l:fs.lookup m=none)
 (h:Q (.ref g,[.ref a]) s):wpAny (model X.prog X.w) A (getMethod (.ref a) m pl) Q E s:=by
 obtain⟨mA,O,r,_,_,_⟩:=nh I.hok e;have hn:mA m=none:=RelO.none_of (by rw[<- l];exact r m);exact FK I.kIn O (c.get m) k.at_ k.fn hn h
theorem AW{y:V}{u:Value}{Q:Unit->Shared->Prop}(I:Inv X pins σ H s)(e:H a=some (.ins C dx fs))(c:Cls X.K C)(n:NoAttr X.K C f)(hl:fs.length<1000)(ry:RelV y u)
 (h:∀s',Inv X pins σ (upd H a (.ins C dx (cv f y fs))) s'->Q () s'):wpAny (model X.prog X.w) A (setAttr (.ref a) f u) Q E s:=by
 obtain⟨mA,O,r,wi,_,ho⟩:=nh I.hok e;have hz:(fs.map (·.1)).length<=sizeLine:=by rw[KF,sizeLine_eq];omega
 refine oM I.kIn O c.sa c.po n.taker c.hd wi hz λh' O' sb=>h _ ?_
 have hd:∃o,h'.get? dx=some o:=let⟨o,_,_,e',_⟩:=O'.ns;⟨o,e'⟩;refine I.write (x:=a) (e:=dx) (by rw[e];exact True.intro) (.inr ho) (λb q hb z=>(sb.2 b hb).trans z) hd ?_;refine⟨by rw[upd_ne O.ne];exact ho,?_,O.ne,O'.obj,_,O'.ns,λg=>?_,λg hg=>?_⟩
 ·have:=xr f y fs;omega
 ·show RelO ((cv f y fs).lookup g) (if g=f then some u else mA g);rw[dS];by_cases q:g=f
  ·rw[if_pos q,if_pos q];exact ry
  ·rw[if_neg q,if_neg q];exact r g
 ·by_cases q:g=f
  ·rw[q];exact(rJ f y fs).1
  ·refine(rJ f y fs).2 g (wi g λz=>hg ?_);show(if g=f then some u else mA g)=none;rw[if_neg q];exact z
theorem Inv.made(I:Inv X pins σ H s):Inv X pins σ (upd (upd H s.heap.objs.size (.own (s.heap.objs.size+1))) (s.heap.objs.size+1) (.ins C s.heap.objs.size []))
 { s with heap:=(s.heap.push PySem.W.emptyDict).push (PySem.W.instObj C s.heap.objs.size) }:=by
 have e1:(s.heap.push PySem.W.emptyDict).get? s.heap.objs.size=some PySem.W.emptyDict:=Heap.get?_push_size s.heap rfl
 have e2:((s.heap.push PySem.W.emptyDict).push (PySem.W.instObj C s.heap.objs.size)).get? (s.heap.objs.size+1)=some (PySem.W.instObj C s.heap.objs.size):=by
  have:=Heap.get?_push_size (s.heap.push PySem.W.emptyDict) (o:=PySem.W.instObj C s.heap.objs.size) rfl
  rwa [Heap.size_push]at this
 have e3:(s.heap.push PySem.W.emptyDict).Ns s.heap.objs.size (λ_=>none):=⟨PySem.W.emptyDict,#[],_,e1,rfl,(λe he=>absurd he (by simp)),λ_=>rfl⟩;have I1:=I.laid (a:=s.heap.objs.size) (o:=.own (s.heap.objs.size+1)) (h':=s.heap.push PySem.W.emptyDict) (t':=s.toks) (λb u q=>Heap.get?_push_of_some _ q) (KH _) ⟨_,e1⟩;refine I1.laid (a:=s.heap.objs.size+1) (o:=.ins C s.heap.objs.size []) (t':=s.toks) (λb u q=>Heap.get?_push_of_some _ q) (L3 (Heap.size_push _ _)) ?_;have ne:s.heap.objs.size≠s.heap.objs.size+1:=Lh (LK _);refine⟨by rw[upd_ne ne,ay],KJ _,ne,e2,λ_=>none,(Heap.Ns1.of_empty e3).at λo q=>Heap.get?_push_of_some _ q,λ_=>True.intro,λy hy=>absurd rfl hy⟩
theorem Hm{prog:Program}{w:World}{env:Env}{e:Expr}{f:Str}{pos:Pos}{s:Shared}{Q:Value->Shared->Prop}(hb:attributeBase e f env (eval e env)=eval e env)
 (h:wpAny (model prog w) A (eval e env) (λo s₁=>wpAny (model prog w) A (getAttr o f true) Q E s₁) E s):wpAny (model prog w) A (eval (.Attribute e f pos) env) Q E s :=
 Attribute_any_ h (by rw[arm_eval_Attribute,hb])
end
def oj(K:PySem.W.Frag)(ta:TE)(f:Str):TE:=λσ H Q=>ta σ H λx H1=>∃a C dx fs v,x=.ref a/\H1 a=some (.ins C dx fs)/\Cls K C/\NoAttr K C f/\fs.lookup f=some v/\Q v H1
def BC(K:PySem.W.Frag)(ta tv:TE)(f:Str):TS:=λD σ H=>tv σ H λy H1=>ta σ H1 λx H2=>∃a C dx fs,x=.ref a/\H2 a=some (.ins C dx fs)/\Cls K C/\NoAttr K C f/\fs.length<1000 /\
 D.nx σ (upd H2 a (.ins C dx (cv f y fs)))
section
variable {X:Cx}{o e value:Expr}{f:Str}{pos pos' tpos:Pos}{ta tv:TE}
theorem Cr(he:PE X e ta)(hb:attributeBase e f X.env (eval e X.env)=eval e X.env):PE X (.Attribute e f pos) (oj X.K ta f):=by intro pins s σ H Q I h;refine Hm hb (thn (he pins s σ H _ I h) λu s1 ⟨x,H1,I1,rx,a,C,dx,fs,v,ex,ea,c,n,l,q⟩=>?_);subst ex;obtain rfl:u=Value.ref a:=rx;exact FJ I1 ea c n l λu' s2 I2 ru=>⟨v,H1,I2,ru,q⟩
theorem kt(ha:PE X o ta)(hv:PE X value tv)(hs:swapsWith value (some (.Attribute o f pos')) pos.line X.env=pure false):PS X (.Assign [.Attribute o f pos'] value pos) (BC X.K ta tv f):=by intro pins s σ H D I h;refine plainObj_wpAny_Assign_Attribute (thn (hv pins s σ H _ I h) λu s1 ⟨y,H1,I1,ry,q⟩=>thn (ha pins s1 σ H1 _ I1 q) λov s2 ⟨x,H2,I2,rx,a,C,dx,fs,ex,ea,c,n,l,q2⟩=>?_) hs;subst ex;obtain rfl:ov=Value.ref a:=rx;exact AW I2 ea c n l ry λs3 I3=>⟨σ,_,I3,q2⟩
end
section
variable {X:Cx}{pins:List (Addr×Obj)}{σ:St}{H:Hp}{s:Shared}{A:Around}{E:Value->Shared->Prop}{Q:Value->Shared->Prop}{c:Value}{b:Bool}
inductive TyOf(K:PySem.W.Frag)(H:Hp):V->Value->Prop where
 |non:TyOf K H .non (.type "NoneType")
 |bl (x:Bool):TyOf K H (.bl x) (.type "bool")
 |int (i:Int):TyOf K H (.int i) (.type "int")
 |str (x:Str):TyOf K H (.str x) (.type "str")
 |flt (x:UInt64):TyOf K H (.flt x) (.type "float")
 |lst {a:Addr} {xs:List V} (e:H a=some (.lst xs)):TyOf K H (.ref a) (.type "list")
 |frz {a:Addr} {o:Obj} {xs:List V} (e:H a=some (.frz o (.lst xs))):TyOf K H (.ref a) (.type "list")
 |tup {a:Addr} {xs:List V} (e:H a=some (.tup xs)):TyOf K H (.ref a) (.type "tuple")
 |dK {a:Addr} {kvs:List (Key×V)} (e:H a=some (.dK kvs)):TyOf K H (.ref a) (.type "dict")
 |dT {a:Addr} {kvs:List (List Key×V)} (e:H a=some (.dT kvs)):TyOf K H (.ref a) (.type "dict")
 |ins {a C dx:Addr} {fs:List (Str×V)} (e:H a=some (.ins C dx fs)) (cl:Cls K C) (ha:PySem.W.findIn K (.ref C) "__class__"=some (some (.builtin "object.__class__")))
  (hn:PySem.W.specialIn K (.builtin "object.__class__") "__get__"=some (some (.builtin "getset_descriptor.__get__"))) (htk:PySem.W.takesIn K (.builtin "object.__class__")=some true)
  (hm:PySem.W.mroIn K C (.type "object")=some true):TyOf K H (.ref a) (.ref C)
theorem Fn{x:V}{u t:Value}(I:Inv X pins σ H s)(rx:RelV x u)(ty:TyOf X.K H x t)(e:PySem.W.kitOne X.K t c=some b)(h:∀tk,Q (.bool b) { s with toks:=tk }) :
 wpAny (model X.prog X.w) A (call (.builtin "isinstance") [u,c]) Q E s:=by
 cases ty with
 |non=>cases(show u=Value.none from rx);exact PySem.W.kia_one PySem.W.kitx_none I.kIn True.intro e (λz=>nomatch z) h
 |bl y=>cases(show u=Value.bool y from rx);exact PySem.W.kia_one PySem.W.kitx_bool I.kIn True.intro e (λz=>nomatch z) h
 |int i=>obtain⟨t,q⟩:=(show ∃t,u=Value.int i t from rx);cases q;exact PySem.W.kia_one PySem.W.kitx_int I.kIn True.intro e (λz=>nomatch z) h
 |str y=>obtain⟨t,q⟩:=(show ∃t,u=Value.str y t from rx);cases q;exact PySem.W.kia_one PySem.W.kitx_str I.kIn True.intro e (λz=>nomatch z) h
 |flt y=>obtain⟨t,q⟩:=(show ∃t,u=Value.float y t from rx);cases q;exact PySem.W.kia_one PySem.W.kitx_float I.kIn True.intro e (λz=>nomatch z) h
 | @lst a xs ea =>cases(show u=Value.ref a from rx);obtain⟨_,_,n,_,h1⟩:=(show ObjOk X.prog X.w H s.heap a (.lst xs)from I.hok a _ ea);exact PySem.W.kia_one PySem.W.kitx_list I.kIn ⟨_,h1,rfl⟩ e (λz=>nomatch z) h
 | @frz a ob xs ea =>cases(show u=Value.ref a from rx);obtain⟨_,_,_,n,_,h1⟩:=(show ObjOk X.prog X.w H s.heap a (.frz ob (.lst xs))from I.hok a _ ea);exact PySem.W.kia_one PySem.W.kitx_list I.kIn ⟨_,h1,rfl⟩ e (λz=>nomatch z) h
 | @tup a xs ea =>cases(show u=Value.ref a from rx);obtain⟨_,_,_,p⟩:=(show ObjOk X.prog X.w H s.heap a (.tup xs)from I.hok a _ ea);obtain⟨o,h1,h2,_⟩:=p;exact PySem.W.kia_one PySem.W.kitx_tuple I.kIn ⟨o,h1,h2⟩ e (λz=>nomatch z) h
 | @dK a kvs ea =>cases(show u=Value.ref a from rx);obtain⟨_,_,vs,_,p⟩:=(show ObjOk X.prog X.w H s.heap a (.dK kvs)from I.hok a _ ea);obtain⟨o,es,ep,h1,h2,_⟩:=p;exact PySem.W.kia_one PySem.W.kitx_dict I.kIn ⟨o,h1,h2.1⟩ e (λz=>nomatch z) h
 | @dT a kvs ea =>cases(show u=Value.ref a from rx);obtain⟨_,_,xs,_,o,es,ep,h1,h2,_⟩:=(show ObjOk X.prog X.w H s.heap a (.dT kvs)from I.hok a _ ea);exact PySem.W.kia_one PySem.W.kitx_dict I.kIn ⟨o,h1,h2.1⟩ e (λz=>nomatch z) h
 | @ins a C dx fs ea cl ha hn htk hm =>cases(show u=Value.ref a from rx);obtain⟨mA,O,_⟩:=nh I.hok ea;obtain⟨od,J,_⟩:=O.look;exact PySem.W.kia_one (PySem.W.kitx_own (cl.get _) cl.hd ha hn htk hm) I.kIn J e (λz=>nomatch z) h
end
structure Room(k:Nat)(A:Around):Prop where
 hd:A.handled=none
 dp:A.depth+3*k+5<recursionLimit
 un:A.units+16*k+200<cLine
theorem Room.mono{j k:Nat}{A:Around}(r:Room k A)(h:j<=k:=by decide):Room j A:=⟨r.hd,by have:=r.dp;omega,by have:=r.un;omega⟩
theorem Room.deeper{k:Nat}{A:Around}(r:Room (k+1) A)(env:Env):Room k (A.deeper env) :=
 ⟨r.hd,by have:=r.dp;show A.depth+1+3*k+5<_;omega,by have:=r.un;show A.units+3+16*k+200<_;omega⟩
theorem E3{A:Around}{C:Addr}{us:List Value}{kw:List (Str×Value)}:(A.under (.builtin "type.__call__" ⟨.ref C::us,kw⟩)).depth=A.depth+1:=by first |rfl |simp[Around.under,Code.weight,Code.isCreation,Code.isGuard,Code.isCaller,Code.frames,Code.isFrame,guardIds]
theorem EY{A:Around}{C:Addr}{us:List Value}{kw:List (Str×Value)}:(A.under (.builtin "type.__call__" ⟨.ref C::us,kw⟩)).units=A.units+1:=by first |rfl |simp[Around.under,Code.cUnits,Code.frames,Code.isFrame]
theorem Room.make{k:Nat}{A:Around}(r:Room (k+1) A)(C:Addr)(us:List Value)(kw:List (Str×Value)):Room k (A.under (.builtin "type.__call__" ⟨.ref C::us,kw⟩)) :=
 ⟨r.hd,by have:=r.dp;rw[E3];omega,by have:=r.un;rw[EY];omega⟩
theorem Room.depth{k:Nat}{A:Around}(r:Room k A):A.depth<recursionLimit:=by have:=r.dp;omega
theorem Room.units{k:Nat}{A:Around}(r:Room k A):A.units+64<cLine:=by have:=r.un;omega
def jX:TA:=λ_ H Q=>Q [] H
def gw(ta:TE)(tr:TA):TA:=λσ H Q=>ta σ H λx H1=>tr σ H1 λxs H2=>Q (x::xs) H2
section
variable {X:Cx}{e:Expr}{es:List Expr}{te:TE}{t:TA}{pos:Pos}
theorem ad:PA X [] jX:=λ_ _ _ _ H Q I h=>Calls.spliced_nil ⟨[],H,I,.nil,h⟩
theorem aa(ha:PE X e te)(hr:PA X es t)(hs:starEach (e::es) X.env=(false,eval e X.env)::starEach es X.env:=by rfl):PA X (e::es) (gw te t):=by intro pos pins s σ H Q I h;rw[hs];show wpAny _ _ (spliced ((false,eval e X.env)::backTo pos (starEach es X.env))) _ _ s;refine Calls.spliced_cons (thn (ha pins s σ H _ I h) λu s1 ⟨x,H1,I1,r1,q1⟩=>?_);exact thn (hr pos pins s1 σ H1 _ I1 q1) λus s2 ⟨xs,H2,I2,r2,q2⟩=>⟨x::xs,H2,I2,.cons r1 r2,q2⟩
def Ac(t:TA):TE:=λσ H Q=>t σ H λxs H1=>xs.length<=sizeLine/\∀p,H1 p=none->Q (.ref p) (upd H1 p (.tup xs))
def Ai(t:TA):TE:=λσ H Q=>t σ H λxs H1=>xs.length<=sizeLine/\∀p,H1 p=none->Q (.ref p) (upd H1 p (.lst xs))
theorem bJ{x1}(h:PA X es t):PE X (.Tuple es x1 pos) (Ac t):=by intro pins s σ H Q I hq;refine wpAny_Tuple_spliced (thn (h pos pins s σ H _ I hq) λus s1 ⟨xs,H1,I1,r,z,q⟩=>⟨by rw[<- r.length];exact z,?_⟩);have hf:H1 s1.heap.objs.size=none:=I1.hok.fresh (KH _);refine⟨.ref s1.heap.objs.size,upd H1 s1.heap.objs.size (.tup xs),I1.laid (t':=s1.toks) (λb u e=>Heap.get?_push_of_some _ e) (KH _) ?_,rfl,q _ hf⟩;exact⟨z,us,r,⟨_,Heap.get?_push_size _ rfl,rfl,_,rfl⟩⟩
theorem bh(h:PA X es t):PE X (.List es pos) (Ai t):=by intro pins s σ H Q I hq;refine wpAny_List_spliced (thn (h pos pins s σ H _ I hq) λus s1 ⟨xs,H1,I1,r,z,q⟩=>⟨by rw[<- r.length];exact z,?_⟩);have hf:H1 s1.heap.objs.size=none:=I1.hok.fresh (KH _);refine⟨.ref s1.heap.objs.size,upd H1 s1.heap.objs.size (.lst xs),I1.laid (t':=s1.toks) (λb u e=>Heap.get?_push_of_some _ e) (KH _) ?_,rfl,q _ hf⟩;exact⟨z,us,0,r,Heap.get?_push_size _ rfl⟩
end
abbrev Sp:=List V->Hp->VK->XK->Prop
abbrev CXT:=List Env->Hp->Shared->XK->Value->Shared->Prop
structure Env0(P:Program)(w:World)(K:PySem.W.Frag)(mg:Str->Option Value)(base:Heap)(A:Around)(outer:List Env)(s:Shared)(H:Hp):Prop where
 frames:A.frames=some outer
 mod:Mod K mg base
 bs:∀b o,base.get? b=some o->s.heap.get? b=some o/\H b=none
 bsz:base.objs.size<=s.heap.objs.size
 funs:s.heap.FunFrames base outer
 frf:∀b∈frs outer,H b=none
 hok:HOk P w H s.heap
 bare:AllBare s.gens
noncomputable def CE(outer:List Env)(P:Program)(w:World)(H:Hp)(s:Shared)(Q:VK)(u:Value)(s':Shared):Prop :=
 ∃v H',s'.os=s.os/\AllBare s'.gens/\Un (frs outer) [] H H' s.heap s'.heap/\HOk P w H' s'.heap/\RelV v u/\Q v H'
noncomputable def CR(CX:CXT)(outer:List Env)(P:Program)(w:World)(H:Hp)(s:Shared)(Q:VK)(E:XK)(r:Result)(s':Shared):Prop :=
 match r with
 |.ok (.ret u)=>CE outer P w H s Q u s'
 |.ok _=>False
 |.error e=>CX outer H s E e s'
structure FnOk(P:Program)(w:World)(K:PySem.W.Frag)(mg:Str->Option Value)(base:Heap)(CX:CXT)(k:Nat)(f:Addr)(fd:FuncData)(ps:List Str)(sp:Sp):Prop where
 len:∀vs H Q E,sp vs H Q E->vs.length=ps.length
 run:∀(A:Around) (outer:List Env) (s:Shared) (H:Hp) (args:Args) (us:List Value) (vs:List V) (Q:VK) (E:XK),Room k A->Env0 P w K mg base A outer s H->BindsTo s fd args (ps.zip us)->Vals vs us->sp vs H Q E ->
  codeAny (model P w) A (.call (.ref f) args) (CR CX outer P w H s Q E) s
theorem Env0.make{P:Program}{w:World}{K:PySem.W.Frag}{mg:Str->Option Value}{base:Heap}{A:Around}{outer:List Env}{s:Shared}{H:Hp}(e:Env0 P w K mg base A outer s H)(C:Addr)(us:List Value)(kw:List (Str×Value)) :
 Env0 P w K mg base (A.under (.builtin "type.__call__" ⟨.ref C::us,kw⟩)) outer s H:=⟨by first |exact e.frames | (simpa[Around.under,Code.envs,Code.isFrame,pushEnvs]using e.frames),e.mod,e.bs,e.bsz,e.funs,e.frf,e.hok,e.bare⟩
section
variable {X:Cx}{pins:List (Addr×Obj)}{σ:St}{H:Hp}{s s':Shared}
theorem Inv.env0(I:Inv X pins σ H s):Env0 X.prog X.w X.K X.mg X.base X.A X.stack s H :=
 ⟨I.ok.frames,I.ok.mod,I.bs,KZ I.ok.bsz I.sz,I.stack,I.stkFree,I.hok,I.bare⟩
theorem Inv.after{Q:VK}{u:Value}(I:Inv X pins σ H s)(h:CE X.stack X.prog X.w H s Q u s'):EP X pins σ Q u s':=by obtain⟨v,H',os,bare,un,hok,r,q⟩:=h;obtain⟨hh,g,d,t,os'⟩:=s';obtain rfl:os'=s.os:=os;exact⟨v,H',I.call (h':=hh) (g':=g) (d':=d) (t':=t) (ch:=[]) un hok bare (λb z=>absurd z (by simp)),r,q⟩
end
def lM(sp:Sp)(dvs:List V)(E:XK)(t:TA):TE:=λσ H Q=>t σ H λvs H1=>sp (vs++dvs) H1 Q E
def Ag(C:Addr)(m:Str)(sp:Sp)(dvs:List V)(E:XK)(ta:TE)(t:TA):TE:=λσ H Q=>ta σ H λx H1=>∃a dx fs,x=.ref a/\H1 a=some (.ins C dx fs)/\fs.lookup m=none /\
 t σ H1 λvs H2=>sp (x::(vs++dvs)) H2 Q E
def Ah(C:Addr)(sp:Sp)(dvs:List V)(E:XK)(t:TA):TE:=λσ H Q=>t σ H λvs H1=>∀x dx,H1 x=none->H1 dx=none->dx≠x ->
 sp (.ref x::(vs++dvs)) (upd (upd H1 dx (.own x)) x (.ins C dx [])) (λv H2=>v=.non/\Q (.ref x) H2) E
noncomputable def Binds(K:PySem.W.Frag)(fd:FuncData)(ps:List Str)(ds:List Value):Prop :=
 ∀(s:Shared) (us:List Value),K.In s.heap->(us++ds).length=ps.length->BindsTo s fd ⟨us,[]⟩ (ps.zip (us++ds))
theorem Binds.all{K:PySem.W.Frag}{fd:FuncData}{ps:List Str}(h:∀us:List Value,us.length=ps.length->bindArgs fd ⟨us,[]⟩=pure (ps.zip us)):Binds K fd ps []:=λs us _ hl=>by rw[Mn]at hl ⊢;exact .of_eq (h us hl)
def jR(CX:CXT)(X:Cx)(E:XK):Prop:=∀(pins:List (Addr×Obj)) (σ:St) (H:Hp) (s:Shared) (e:Value) (s':Shared),Inv X pins σ H s->CX X.stack H s E e s'->X.xe e s'
section
variable {X:Cx}{CX:CXT}{k:Nat}{f C:Addr}{fd:FuncData}{ps:List Str}{sp:Sp}{dvs:List V}{ds:List Value}{E:XK}{x m:Str}{p pos apos:Pos}{e o:Expr}{es:List Expr}{ta:TE}{t:TA}
theorem vG{pins:List (Addr×Obj)}{σ:St}{H:Hp}{s:Shared}{Q:VK}{us:List Value}{vs:List V}(F:FnOk X.prog X.w X.K X.mg X.base CX k f fd ps sp)(hr:Room k X.A)(hb:Binds X.K fd ps ds)(hd:Vals dvs ds)(hx:jR CX X E)
 (I:Inv X pins σ H s) (r:Vals vs us) (h:sp (vs++dvs) H Q E):wpAny (model X.prog X.w) X.A (call (.ref f) us) (EP X pins σ Q) X.xe s:=by
 have r2:Vals (vs++dvs) (us++ds):=r.append hd;have hl:(us++ds).length=ps.length:=by rw[<- r2.length];exact F.len _ _ _ _ h
 refine wpAny_call (codeAny_mono (F.run X.A X.stack s H ⟨us,[]⟩ (us++ds) (vs++dvs) Q E hr I.env0 (hb s us I.kIn hl) r2 h) λr s' hq=>?_);cases r with
 |error e=>exact hx pins σ H s e s' I hq
 |ok fl =>
  cases fl with
  |ret u=>exact I.after hq
  |next=>exact False.elim hq
  |brk=>exact False.elim hq
  |cont=>exact False.elim hq
theorem Ct(F:FnOk X.prog X.w X.K X.mg X.base CX k f fd ps sp)(hr:Room k X.A)(hg:Gl X x)(hm:X.mg x=some (.ref f))(hk:PySem.W.keepIn X.K (.ref f)=true)(hb:Binds X.K fd ps ds)(hd:Vals dvs ds)(hx:jR CX X E)
 (ha:PA X (e::es) t) (hdb:(x == ("__debug__":Str))=false:=by decide) (he:starEach (e::es) X.env=(false,eval e X.env)::starEach es X.env:=by rfl) (hpl:(backTo pos (starEach es X.env)).any (·.1)=false:=by rfl) :
 PE X (.Call (.Name x p) (e::es) [] pos) (lM sp dvs E t):=by
 intro pins s σ H Q I h;refine wpAny_Call_Name_kw (rH I hg hm ?_ hdb);refine PySem.W.callWith_K (h₀:=X.base) I.ok.mod.kin hk (thn (ha pos pins s σ H _ I h) λus s1 ⟨vs,H1,I1,r,q⟩=>⟨I1.kIn,?_⟩) he hpl;exact vG F hr hb hd hx I1 r q
theorem dA{pl:Sem Bool}(he:PE X o ta)(c:Cls X.K C)(hm:Meth X.K C m f)(F:FnOk X.prog X.w X.K X.mg X.base CX k f fd ps sp)(hr:Room k X.A)(hb:Binds X.K fd ps ds)(hd:Vals dvs ds)(hx:jR CX X E)(ha:PA X (e::es) t)
 (hst:starEach (e::es) X.env=(false,eval e X.env)::starEach es X.env:=by rfl) (hpl:(backTo pos (starEach es X.env)).any (·.1)=false:=by rfl)
 (ht:eval (.Call (.Attribute o m apos) (e::es) [] pos) X.env=(do
   let ov <- eval o X.env
   standAt apos.atName
   let(f,first) <- holding [ov] (getMethod ov m pl)
   callWith pos f first (backTo pos (starEach (e::es) X.env)) (backToKw pos (keywordEach [] X.env))):=by rfl) :
 PE X (.Call (.Attribute o m apos) (e::es) [] pos) (Ag C m sp dvs E ta t):=by
 intro pins s σ H Q I h;refine PySem.W.methodCall_KW (pl:=pl) (thn (he pins s σ H _ I h) λu s1 ⟨x,H1,I1,rx,a,dx,fs,ex,ea,l,q⟩=>?_) ht;subst ex;obtain rfl:u=Value.ref a:=rx;refine FI I1 ea c hm l ?_;refine PySem.W.callWith_K (first:=[.ref a]) (h₀:=X.base) I.ok.mod.kin hm.kp (thn (ha pos pins s1 σ H1 _ I1 q) λus s2 ⟨vs,H2,I2,r,q2⟩=>⟨I2.kIn,?_⟩) hst hpl;exact vG (us:=.ref a::us) (vs:=.ref a::vs) F hr hb hd hx I2 (.cons rfl r) q2
structure Mk(K:PySem.W.Frag)(C f:Addr):Prop where
 makes:PySem.W.makesIn K C=true
 init:PySem.W.findIn K (.ref C) "__init__"=some (some (.ref f))
 fn:PySem.W.isFn K (.ref f)=true
 kp:PySem.W.keepIn K (.ref C)=true
theorem BE{pins:List (Addr×Obj)}{σ:St}{H:Hp}{s:Shared}{Q:VK}{us:List Value}{vs:List V}(M:Mk X.K C f)(F:FnOk X.prog X.w X.K X.mg X.base CX k f fd ps sp)(hr:Room (k+1) X.A)(hb:Binds X.K fd ps ds)(hd:Vals dvs ds)
 (hx:jR CX X E) (I:Inv X pins σ H s) (r:Vals vs us)
 (h:∀x dx,H x=none->H dx=none->dx≠x->sp (.ref x::(vs++dvs)) (upd (upd H dx (.own x)) x (.ins C dx [])) (λv H2=>v=.non/\Q (.ref x) H2) E) :
 wpAny (model X.prog X.w) X.A (call (.ref C) us) (EP X pins σ Q) X.xe s:=by
 have hq:=h (s.heap.objs.size+1) s.heap.objs.size (I.hok.fresh (Nat.le_succ _)) (I.hok.fresh (KH _)) (Lh (LK _));have I2:=Inv.made (C:=C) I;have r2:Vals (V.ref (s.heap.objs.size+1)::(vs++dvs)) (Value.ref (s.heap.objs.size+1)::(us++ds)):=.cons rfl (r.append hd)
 have hl:(Value.ref (s.heap.objs.size+1)::us++ds).length=ps.length:=by have e:=r2.length;rw[F.len _ _ _ _ hq]at e;exact e.symm
 refine wpAny_call (EZ (f:=f) I.kIn M.makes M.init (beq_iff_eq.mp M.fn) (codeAny_mono (F.run _ X.stack _ _ ⟨Value.ref (s.heap.objs.size+1)::us,[]⟩ (Value.ref (s.heap.objs.size+1)::(us++ds)) _ _ E (hr.make C us [])
  (I2.env0.make C us []) (hb _ (Value.ref (s.heap.objs.size+1)::us) I2.kIn hl) r2 hq) λr s' hq'=>?_))
 cases r with
 |error e=>exact hx pins σ _ _ e s' I2 hq'
 |ok fl =>
  cases fl with
  |ret u =>obtain⟨v,H',I3,rv,ev,q3⟩:=I2.after hq';subst ev;exact⟨rv,⟨V.ref (s.heap.objs.size+1),H',I3,rfl,q3⟩⟩
  |next=>exact False.elim hq'
  |brk=>exact False.elim hq'
  |cont=>exact False.elim hq'
theorem fE(M:Mk X.K C f)(F:FnOk X.prog X.w X.K X.mg X.base CX k f fd ps sp)(hr:Room (k+1) X.A)(hg:Gl X x)(hm:X.mg x=some (.ref C))(hb:Binds X.K fd ps ds)(hd:Vals dvs ds)(hx:jR CX X E)
 (ha:PA X (e::es) t) (hdb:(x == ("__debug__":Str))=false:=by decide) (he:starEach (e::es) X.env=(false,eval e X.env)::starEach es X.env:=by rfl) (hpl:(backTo pos (starEach es X.env)).any (·.1)=false:=by rfl) :
 PE X (.Call (.Name x p) (e::es) [] pos) (Ah C sp dvs E t):=by
 intro pins s σ H Q I h;refine wpAny_Call_Name_kw (rH I hg hm ?_ hdb);refine PySem.W.callWith_K (h₀:=X.base) I.ok.mod.kin M.kp (thn (ha pos pins s σ H _ I h) λus s1 ⟨vs,H1,I1,r,q⟩=>⟨I1.kIn,?_⟩) he hpl;exact BE M F hr hb hd hx I1 r q
end
section
variable {X:Cx}{CX:CXT}{k:Nat}{f C:Addr}{fd:FuncData}{ps ks:List Str}{sp:Sp}{E:XK}{x m:Str}{p pos apos kpos:Pos}{e o:Expr}{es:List Expr}{kws:List Keyword}{te ta:TE}{t tk:TA}{nm:Option Str}
variable {g:List Value->List Value->List Value}{gV:List V->List V->List V}
end
structure FnScope(N P:List Str)(sc:Scope):Prop where
 kind:sc.kind=.function
 co:sc.isCoroutine=false
 gen:sc.isGenerator=false
 nd:N.Nodup
 pre:N.take P.length=P
 par:∀x∈P,sc.names.lookup x=some .local\/sc.names.lookup x=some .cell
 nofree:∀y∈sc.names,y.2≠.free
theorem yU{kindOf:Str->Option NameKind}{x:Str}:∀{binds:List (Str×Value)} {m:Str->Option Value},(∀v,(x,v)∉binds)->bindL kindOf binds m x=m x
 | [],_,_=>rfl
 | (n,v)::r,m,h=>by
  unfold bindL;rw[yU λw hw=>h w (Ll _ hw)];split
  ·have:x≠n:=by rintro rfl;exact h v Ls
   simp[this]
  ·rfl
theorem yW{kindOf:Str->Option NameKind}{x:Str}:∀{binds:List (Str×Value)} {m:Str->Option Value},(∀v,(x,v)∉binds)->bindC kindOf binds m x=m x
 | [],_,_=>rfl
 | (n,v)::r,m,h=>by
  unfold bindC;rw[yW λw hw=>h w (Ll _ hw)];split
  ·rfl
  ·have:x≠n:=by rintro rfl;exact h v Ls
   simp[this]
theorem yV{kindOf:Str->Option NameKind}{x:Str}{v:Value}:∀{P:List Str} {vs:List Value} {i:Nat} {m:Str->Option Value},P.Nodup->P[i]?=some x->vs[i]?=some v->kindOf x=some .local ->
 bindL kindOf (P.zip vs) m x=some v
 | [],_,_,_,_,h,_,_=>by simp at h
 |_::_,[],_,_,_,_,h,_=>by simp at h
 |p::P,w::vs,0,m,nd,h1,h2,hk=>by
  simp at h1 h2;subst h1;subst h2
  show bindL kindOf ((p,w)::P.zip vs) m p=_;unfold bindL;rw[yU λv hv=>(List.nodup_cons.mp nd).1 (List.of_mem_zip hv).1,if_pos hk];simp
 |p::P,w::vs,i+1,m,nd,h1,h2,hk=>by show bindL kindOf ((p,w)::P.zip vs) m x=_;unfold bindL;exact yV (i:=i) (List.nodup_cons.mp nd).2 (by simpa using h1) (by simpa using h2) hk
theorem yX{kindOf:Str->Option NameKind}{x:Str}{v:Value}:∀{P:List Str} {vs:List Value} {i:Nat} {m:Str->Option Value},P.Nodup->P[i]?=some x->vs[i]?=some v->kindOf x≠some .local ->
 bindC kindOf (P.zip vs) m x=some v
 | [],_,_,_,_,h,_,_=>by simp at h
 |_::_,[],_,_,_,_,h,_=>by simp at h
 |p::P,w::vs,0,m,nd,h1,h2,hk=>by
  simp at h1 h2;subst h1;subst h2
  show bindC kindOf ((p,w)::P.zip vs) m p=_;unfold bindC;rw[yW λv hv=>(List.nodup_cons.mp nd).1 (List.of_mem_zip hv).1,if_neg hk];simp
 |p::P,w::vs,i+1,m,nd,h1,h2,hk=>by show bindC kindOf ((p,w)::P.zip vs) m x=_;unfold bindC;exact yX (i:=i) (List.nodup_cons.mp nd).2 (by simpa using h1) (by simpa using h2) hk
noncomputable def start(N:List Str)(vs:List V):St:=vs.map some++List.replicate (N.length-vs.length) none
noncomputable def iz(CX:CXT)(P:Program)(w:World)(K:PySem.W.Frag)(mg:Str->Option Value)(base:Heap)(N:List Str)(qual:Str)(scope:Scope)(f:Addr)(cd:Value)(A:Around)(outer:List Env)(s:Shared)(H:Hp)(E:XK):Cx where
 prog:=P
 w:=w
 K:=K
 mg:=mg
 base:=base
 A:=A.deeper (envOfC qual scope s.heap.objs.size f cd)
 N:=N
 s₀:=s
 H₀:=H
 env:=envOfC qual scope s.heap.objs.size f cd
 outer:=outer
 stack:=envOfC qual scope s.heap.objs.size f cd::outer
 ex:=[]
 calm:=true
 fn:=λ_=>true
 pn:=[]
 xe:=λe s'=>wpAny (model P w) (A.deeper (envOfC qual scope s.heap.objs.size f cd)) (leaving (envOfC qual scope s.heap.objs.size f cd) e) (λ_ s''=>CX outer H s E e s'') (λe' s''=>CX outer H s E e' s'') s'
theorem yR{sc:Scope}{n:Nat}{x:Str}(h:sc.names.lookup x=some .cell):∃c,(cellsFrom n sc.names []).lookup x=some c:=by have q:=PySem.W.cellsFrom_some sc.names n [] (.inl h);exact Option.isSome_iff_exists.mp q
theorem Fp{CX:CXT}{P:Program}{w:World}{K:PySem.W.Frag}{mg:Str->Option Value}{base:Heap}{N ps:List Str}{qual:Str}{scope:Scope}{f:Addr}{cd:Value}{A:Around}{outer:List Env}{s s1:Shared}{H:Hp}{E:XK}{us:List Value}{vs:List V}
 (S:FnScope N ps scope) (hd:A.handled=none) (e0:Env0 P w K mg base A outer s H) (hl:vs.length=ps.length) (r:Vals vs us)
 (x:InCallC s s.heap.objs.size (bindL (envOfC qual scope s.heap.objs.size f cd).kindOf (ps.zip us) λ_=>none) (cellsFrom (s.heap.objs.size+1) scope.names []) (bindC (envOfC qual scope s.heap.objs.size f cd).kindOf (ps.zip us) λ_=>none) s1) :
 Inv (iz CX P w K mg base N qual scope f cd A outer s H E) [] (start N vs) H s1:=by
 have hpl:ps.length<=N.length:=by have:=congrArg List.length S.pre;rw[LG]at this;omega
 obtain⟨h1,tk,rfl,hk⟩:=x.done;have noA:∀b:Addr,b∉(iz CX P w K mg base N qual scope f cd A outer s H E).ex:=λb z=>absurd (show b∈([]:List Addr)from z) (by simp)
 refine⟨⟨e0.mod,S.kind,rfl,rfl,KH _,λy z c h1 h2=>?_,λy hy=>?_,λy c _ h=>?_,λ_=>hd,Around.frames_deeper e0.frames,.inr ⟨rfl,rfl⟩,λb z=>absurd z (noA b),e0.bs,e0.bsz,λb _ _=>noA b,λb z=>absurd z (noA b),e0.funs,e0.frf⟩,
  rfl,e0.bare,Un.kept hk,⟨_,x.toInCall.ns,λi y v h1 h2 h3=>?_⟩,λy c h=>⟨_,x.cell y c h⟩,e0.hok.fresh (KH _),λy c h=>?_,λp hp=>absurd (show p∈([]:List (Addr×Obj))from hp) (by simp),e0.hok.kept hk,?_⟩
 ·exact name_of_addr x.apart (PySem.mem_of_lookup h1) (PySem.mem_of_lookup h2)
 ·have hy:scope.names.lookup y=some .cell\/scope.names.lookup y=some .free:=hy;rcases hy with hy |hy
  ·exact yR hy
  ·exact absurd rfl (S.nofree _ (PySem.mem_of_lookup hy))
 ·exact L0 (x.above y c (PySem.mem_of_lookup h))
 ·have hi:i<vs.length:=by
   unfold start at h2
   by_cases hi:i<vs.length
   ·exact hi
   ·rw[List.getElem?_append_right (by simpa using hi)]at h2;rw[List.getElem?_replicate]at h2;split at h2<;>cases h2
  have ha:vs[i]?=some v:=by
   unfold start at h2
   rw[List.getElem?_append_left (by simpa using hi),List.getElem?_map]at h2;cases e:vs[i]? with
   |none=>rw[e]at h2;cases h2
   |some a=>rw[e]at h2;cases h2;rfl
  obtain⟨u,hu,rv⟩:=r.get ha
  have hp:ps[i]?=some y:=by rw[<- S.pre,List.getElem?_take_of_lt (by omega)];exact h1
  have ndP:ps.Nodup:=by rw[<- S.pre];exact S.nd.sublist (List.take_sublist _ _)
  refine⟨u,rv,?_⟩;rcases S.par y (List.mem_of_getElem? hp)with k |k
  ·exact .inl ⟨k,yV ndP hp hu k⟩
  ·obtain⟨c,e⟩:=yR (n:=s.heap.objs.size+1) k;refine .inr ⟨.inl k,c,e,?_⟩;have q:=x.cell y c e;rw[yX ndP hp hu (by show scope.names.lookup y≠_;rw[k];decide)]at q;exact q
 ·exact e0.hok.fresh (L0 (x.above y c (PySem.mem_of_lookup h)))
 ·unfold start;show _=N.length;rw[Lb,KF,MN];omega
theorem xZ{CX:CXT}{P:Program}{w:World}{K:PySem.W.Frag}{mg:Str->Option Value}{base:Heap}{k:Nat}{f:Addr}{name qual:Str}{params:Arguments}{body:List Stmt}{scope:Scope}{dV kV doc pm cdv ct oc:Value}{an od:Option Addr}
 {osl:Array (Option Value)} {N ps:List Str} {sp:Sp} (lk:K.lookup f=some ⟨oc,od,.func (PySem.W.fnOf name qual params body scope dV kV doc pm an cdv ct),osl⟩) (hcd:PySem.W.codeIn K cdv qual=true) (S:FnScope N ps scope)
 (len:∀vs H Q E,sp vs H Q E->vs.length=ps.length)
 (hbody:∀(A:Around) (outer:List Env) (s:Shared) (H:Hp) (vs:List V) (Q:VK) (E:XK),Room k (A.deeper (envOfC qual scope s.heap.objs.size f cdv))->sp vs H Q E ->
   ∃t,PSs (iz CX P w K mg base N qual scope f cdv A outer s H E) body t/\t { nx:=λ_ H'=>Q .non H',rt:=Q } (start N vs) H) :
 FnOk P w K mg base CX (k+1) f (PySem.W.fnOf name qual params body scope dV kV doc pm an cdv ct) ps sp:=by
 refine⟨len,λA outer s H args us vs Q E hr e0 hb r hsp=>?_⟩;have hl:=len _ _ _ _ hsp;have KX:K.In s.heap:=e0.mod.kin.keeps λb o e=>(e0.bs b o e).1
 have lim:s.heap.NoLimit:=e0.mod.nolimit.keeps λb o e=>(e0.bs b o e).1
 have hkind:∀y∈ps.zip us,scope.names.lookup y.1=some .local\/(scope.names.lookup y.1=some .cell/\((cellsFrom (s.heap.objs.size+1) scope.names []).lookup y.1).isSome=true):=λ⟨n,v⟩ hy=>by
  rcases S.par n (List.of_mem_zip hy).1 with q |q
  ·exact .inl q
  ·exact .inr ⟨q,PySem.W.cellsFrom_some _ _ _ (.inl q)⟩
 refine codeAny_call_function hr.depth (KX _ _ lk) rfl S.co S.gen rfl (PySem.W.codeRec_of KX hcd) (hb _ _ _ _ ?_);refine wpAny_newFunctionEnv_cells S.kind hkind λenv he s1 x=>?_
 subst he;refine⟨lim.keeps x.toInCall.keep,codeAny_func ?_⟩;obtain⟨t,ht,hq⟩:=hbody A outer s H vs Q E (hr.deeper _) hsp;have I:Inv (iz CX P w K mg base N qual scope f cdv A outer s H E) [] (start N vs) H s1:=Fp S hr.hd e0 hl r x;refine wpAny_mono (ht [] s1 (start N vs) H _ I hq) (λfl s' hs=>?_) λe s' hs=>hs
 have fin:∀{σ':St} {H':Hp} {v:V} {u:Value},Inv (iz CX P w K mg base N qual scope f cdv A outer s H E) [] σ' H' s'->RelV v u->Q v H'->CE outer P w H s Q u s' :=
  λ{σ' H' v u} J rv q=>⟨v,H',J.os,J.bare,J.base,J.hok,rv,q⟩
 cases fl with
 |ret u =>obtain⟨v,σ',H',J,rv,q⟩:=hs;exact fin J rv q
 |next =>obtain⟨σ',H',J,q⟩:=hs;exact fin (v:=V.non) (u:=Value.none) J rfl q
 |brk =>obtain⟨_,_,_,q⟩:=hs;exact False.elim q
 |cont =>obtain⟨_,_,_,q⟩:=hs;exact False.elim q
section
variable {X:Cx}{x:Str}{p pos:Pos}{e:Expr}{es:List Expr}{t:TA}{id T:String}{r:List V->Hp->VK->Prop}
def tCB(r:List V->Hp->VK->Prop)(t:TA):TE:=λσ H Q=>t σ H λvs H1=>r vs H1 Q
theorem cQ(hc:d5 X (.builtin id) r)(hg:Gl X x)(hm:X.mg x=none)(hv:bootBuiltins x=some (.builtin id))(ha:PA X (e::es) t)(hn:x≠"__name__":=by decide)(hdb:(x == ("__debug__":Str))=false:=by decide)
 (he:starEach (e::es) X.env=(false,eval e X.env)::starEach es X.env:=by rfl) (hpl:(backTo pos (starEach es X.env)).any (·.1)=false:=by rfl):PE X (.Call (.Name x p) (e::es) [] pos) (tCB r t):=by
 intro pins s σ H Q I h;refine wpAny_Call_Name_kw (gI I hg hm hv ?_ hn hdb);exact PyProof.Rows.callWith_builtin1 (thn (ha pos pins s σ H _ I h) λus s1 ⟨vs,H1,I1,r1,q1⟩=>hc pins s1 σ H1 vs us Q I1 r1 q1) he hpl
theorem eO(hc:d5 X (.type T) r)(hg:Gl X x)(hm:X.mg x=none)(hv:bootBuiltins x=some (.type T))(ha:PA X (e::es) t)(hn:x≠"__name__":=by decide)(hdb:(x == ("__debug__":Str))=false:=by decide)
 (he:starEach (e::es) X.env=(false,eval e X.env)::starEach es X.env:=by rfl) (hpl:(backTo pos (starEach es X.env)).any (·.1)=false:=by rfl):PE X (.Call (.Name x p) (e::es) [] pos) (tCB r t):=by
 intro pins s σ H Q I h;refine wpAny_Call_Name_kw (gI I hg hm hv ?_ hn hdb);exact PyProof.Rows.callWith_type1 (thn (ha pos pins s σ H _ I h) λus s1 ⟨vs,H1,I1,r1,q1⟩=>hc pins s1 σ H1 vs us Q I1 r1 q1) he hpl
end
end L2
namespace HT
open PySem PyProof.Rows
section
open PySem.SeqAt
open PySem.AutoSeq1 (wpAny_loadPart')
open PySem.MeetsSeq PySem.MeetsSeq2 PySem.MeetsSeq3
end
section
variable {prog:Program}{w:World}{A:Around}{E:Value->Shared->Prop}{s:Shared}
noncomputable def sIx(n d:Nat):Option Int->Nat
 |none=>d
 |some v=>if v<0 then(v+(n:Int)).toNat else min v.toNat n
theorem sIx_none(n d:Nat):sIx n d none=d:=rfl
theorem sIx_nat(n d k:Nat):sIx n d (some (k:Int))=min k n:=by show(if(k:Int)<0 then((k:Int)+(n:Int)).toNat else min (k:Int).toNat n)=min k n;rw[if_neg (by omega),Int.toNat_natCast]
theorem BB(n d:Nat)(hd:d<=n)(o:Option Int):sIx n d o<=n:=by
 cases o with
 |none=>exact hd
 |some v =>
  show(if v<0 then(v+(n:Int)).toNat else min v.toNat n)<=n;by_cases hv:v<0
  ·rw[if_pos hv];omega
  ·rw[if_neg hv];exact Nat.min_le_right _ _
theorem yK(v:Int)(n d:Nat):(if v<0 then max (v+(n:Int)) 0 else min v (n:Int))=((sIx n d (some v):Nat):Int):=by
 show(if v<0 then max (v+(n:Int)) 0 else min v (n:Int))=(((if v<0 then(v+(n:Int)).toNat else min v.toNat n):Nat):Int);by_cases hv:v<0
 ·simp only[if_pos hv];omega
 ·simp only[if_neg hv];omega
theorem Hu(lo hi:Option Int)(n:Nat):Builtin.Slice.sliceAdjust lo hi 1 (n:Int)=(((sIx n 0 lo:Nat):Int),((sIx n n hi:Nat):Int)):=by
 have h1:¬((1:Int)<0):=by omega
 unfold Builtin.Slice.sliceAdjust;simp only[h1,if_false];refine Prod.ext ?_ ?_
 ·cases lo with
  |none=>rfl
  |some v=>exact yK v n 0
 ·cases hi with
  |none=>rfl
  |some v=>exact yK v n n
theorem Ci(i j:Nat):Builtin.Slice.slicePlaces (i:Int) (j:Int) 1=j-i:=by
 unfold Builtin.Slice.slicePlaces;have h1:(1:Int)>0:=by omega
 simp only[h1,if_true,Int.ediv_one];split<;>omega
theorem ve{v:Value}{o:Option Int}{Q:Option Int->Shared->Prop}(p:IsPart v o)(h:Q o s):wpAny (model prog w) A (Builtin.Slice.slicePartIndex v) Q E s:=by
 cases p with
 |none=>exact slicePart_none h
 |int i t=>exact slicePart_int h
theorem AA{sl:Addr}{vl vu:Value}{lo hi:Option Int}{n:Nat}{Q:Int×Int×Nat->Shared->Prop}(hs:s.heap.IsSliceOf sl vl vu .none)(pl:IsPart vl lo)(pu:IsPart vu hi)
 (h:Q (((sIx n 0 lo:Nat):Int),1,sIx n n hi-sIx n 0 lo) s):wpAny (model prog w) A (Builtin.Slice.sliceApplied (.ref sl) (pure (n:Int))) Q E s:=by
 obtain⟨os,hos,hcs,hds⟩:=id hs;unfold Builtin.Slice.sliceApplied Builtin.Slice.sliceFields;refine wpAny_bind (wpAny_bind (wpAny_field hos hds (x:=vl) rfl (wpAny_bind (wpAny_field hos hds (x:=vu) rfl (wpAny_bind (wpAny_field hos hds (x:=.none) rfl (wpAny_pure ?_)))))));refine wpAny_bind (slicePart_none ?_);show wpAny _ _ (if((1:Int) == 0)=true then _ else _) _ _ s;rw[if_neg (by decide)];refine wpAny_bind (ve pl (wpAny_bind (ve pu (wpAny_bind (wpAny_pure ?_)))));show wpAny _ _ (match Builtin.Slice.sliceAdjust lo hi 1 (n:Int)with | (lo,hi)=>pure (lo,(1:Int),Builtin.Slice.slicePlaces lo hi 1)) _ _ s;rw[Hu lo hi n];show wpAny _ _ (pure (((sIx n 0 lo:Nat):Int),(1:Int),Builtin.Slice.slicePlaces ((sIx n 0 lo:Nat):Int) ((sIx n n hi:Nat):Int) 1)) _ _ s;rw[Ci];exact wpAny_pure h
theorem Ck(xs:Array Value)(i k:Nat):((List.range k).filterMap λ(m:Nat)=>xs[((i:Int)+(m:Int)*1).toNat]?).toArray=((xs.toList.drop i).take k).toArray:=by
 have e:(λ(m:Nat)=>xs[((i:Int)+(m:Int)*1).toNat]?)=λm=>xs[i+m]?:=by
  funext m
  have:((i:Int)+(m:Int)*1).toNat=i+m:=by omega
  rw[this]
 rw[e];have:=pick_run xs i k;rw[List.filterMap_map]at this;have e2:((λx=>xs[x]?) ∘ λx=>i+x)=λm=>xs[i+m]?:=rfl
 rw[e2]at this;rw[this]
theorem getItem_tuple_cut{t sl:Addr}{items:Array Value}{vl vu:Value}{lo hi:Option Int}{Q:Value->Shared->Prop}(ht:IsTup s.heap t items)(hs:s.heap.IsSliceOf sl vl vu .none)(pl:IsPart vl lo)(pu:IsPart vu hi)
 (hw:¬(sIx items.size 0 lo=0/\sIx items.size items.size hi=items.size))
 (h:Q (.ref s.heap.objs.size) { s with heap:=s.heap.push { cls:=.type "tuple",data:=.seq ((items.toList.drop (sIx items.size 0 lo)).take (sIx items.size items.size hi-sIx items.size 0 lo)).toArray } })
 (hsz:items.size<=sizeLine):wpAny (model prog w) A (getItem (.ref t) (.ref sl)) Q E s:=by
 have htake:sizeOk (.seq ((items.toList.drop (sIx items.size 0 lo)).take (sIx items.size items.size hi-sIx items.size 0 lo)).toArray):=by show((items.toList.drop (sIx items.size 0 lo)).take (sIx items.size items.size hi-sIx items.size 0 lo)).toArray.size<=sizeLine;rw[K0,LG,LL,Array.length_toList];omega
 have hj:sIx items.size items.size hi<=items.size:=BB _ _ (KH _) hi;obtain⟨os,hos,hcs,hds⟩:=id hs;have hTs:s.TypeIs (.ref sl) "slice":=⟨os,hos,hcs⟩;unfold getItem
 try with_reducible refine wpAny_holding ?_
 first |refine wpAny_bind (wpAny_pure ?_) |skip
 refine wpAny_bind (wpAny_sequenceKey ht.typeIs (by decide) ?_)
 refine wpAny_bind (wpAny_callSpecial?_slot (name:=Str.ofString "__getitem__") ht.typeIs PyProof.Rows.slot_tuple_getitem
  (wpAny_call_entry PyProof.Rows.slot_tuple_getitem ht.typeIs entry_tuple_getitem ?_ (args_tuple_getitem _ _)))
 show wpAny _ _ (Builtin.Tuple.tupleItemsOf (.ref t) >>= _) _ _ s;refine wpAny_bind (tupleItemsOf_ ht ?_);refine wpAny_bind (wpAny_typeOf hTs ?_);rw[if_pos (by decide)];refine wpAny_bind (AA hs pl pu ?_)
 have hno:¬((((sIx items.size 0 lo:Nat):Int) == 0&&(1:Int) == 1&&(sIx items.size items.size hi-sIx items.size 0 lo) == items.size)=true):=by intro q;rw[Mo,Mo]at q;have q1:((sIx items.size 0 lo:Nat):Int)=0:=eq_of_beq q.1.1;have q2:sIx items.size items.size hi-sIx items.size 0 lo=items.size:=eq_of_beq q.2;exact hw ⟨by omega,by omega⟩
 show wpAny _ _ (if(((sIx items.size 0 lo:Nat):Int) == 0&&(1:Int) == 1&&(sIx items.size items.size hi-sIx items.size 0 lo) == items.size)=true then _ else _) _ _ s;rw[if_neg hno,Ck]
 first
  |exact wpAny_bind (m:=Builtin.Tuple.tupleExact _) (wpAny_newObj_type (wpAny_pure ⟨_,rfl,wpAny_pure h⟩) htake)
  |exact wpAny_bind (m:=Builtin.Tuple.tupleExact _) (wpAny_newObj_type (wpAny_bind (wpAny_pure (wpAny_pure ⟨_,rfl,wpAny_pure h⟩))) htake)
  |exact wpAny_bind (wpAny_bind (m:=Builtin.Tuple.tupleExact _) (wpAny_newObj_type (wpAny_pure (wpAny_pure ⟨_,rfl,wpAny_pure h⟩)) htake))
  |exact wpAny_bind (wpAny_bind (m:=Builtin.Tuple.tupleExact _) (wpAny_newObj_type (wpAny_pure ⟨_,rfl,wpAny_pure h⟩) htake))
end
end HT
namespace L2
open PySem PySem.Spec PyProof.Rows
abbrev TO:=St->Hp->(Option Int->Hp->Prop)->Prop
noncomputable def PO(X:Cx)(e:Option Expr)(t:TO):Prop :=
 ∀(pins:List (Addr×Obj)) (s:Shared) (σ:St) (H:Hp) (Q:Option Int->Hp->Prop),Inv X pins σ H s->t σ H Q ->
  wpAny (model X.prog X.w) X.A (evalPart e X.env) (λu s'=>∃o H',Inv X pins σ H' s'/\IsPart u o/\Q o H') X.xe s
noncomputable def Ae:TO:=λ_ H Q=>Q none H
noncomputable def Ad(t:TE):TO:=λσ H Q=>t σ H λx H1=>∃i,x=.int i/\Q (some i) H1
theorem jw{ns:List Int}:∀{us:List Value},Vals (ns.map V.int) us->IntsAre us ns:=by
 induction ns with
 |nil=>intro us r;rw[List.map_nil]at r;cases r;exact .nil
 |cons n ns ih =>
  intro us r;rw[Me]at r;cases r with
  |cons r1 r2 =>obtain⟨t,e⟩:=r1;subst e;exact .cons n t (ih r2)
section
variable {X:Cx}{e:Expr}{te:TE}{lo hi:Option Expr}{tl th:TO}{pos p2:Pos}
theorem ky:PO X none Ae:=by intro pins s σ H Q I h;rw[evalPart_none];exact wpAny_pure ⟨none,H,I,.none,h⟩
theorem kx(h:PE X e te):PO X (some e) (Ad te):=by
 intro pins s σ H Q I hw;rw[evalPart_some];refine thn (h pins s σ H _ I hw) λu s1 ⟨x,H1,I1,r1,q1⟩=>?_
 obtain⟨i,rfl,q⟩:=q1;obtain⟨t,rfl⟩:=r1;exact⟨some i,H1,I1,.int i t,q⟩
noncomputable def SlR(X:Cx)(r:V->Option Int->Option Int->Hp->VK->Prop):Prop :=
 ∀(pins:List (Addr×Obj)) (s:Shared) (σ:St) (H:Hp) (x:V) (v vl vu:Value) (lo hi:Option Int) (sl:Addr) (Q:VK),Inv X pins σ H s->RelV x v->s.heap.IsSliceOf sl vl vu .none->IsPart vl lo->IsPart vu hi->r x lo hi H Q ->
  ∃T id,typeLookup (.type T) "__getitem__"=pure (some (.builtin id))/\s.TypeIs v T/\wpAny (model X.prog X.w) X.A (getItem v (.ref sl)) (EP X pins σ Q) X.xe s
def tSl(r:V->Option Int->Option Int->Hp->VK->Prop)(te:TE)(tl th:TO):TE:=λσ H Q=>te σ H λx H1=>tl σ H1 λl H2=>th σ H2 λu H3=>r x l u H3 Q
theorem kz{r:V->Option Int->Option Int->Hp->VK->Prop}(hr:SlR X r)(he:PE X e te)(hl:PO X lo tl)(hu:PO X hi th):PE X (.Subscript e (.Slice lo hi none p2) pos) (tSl r te tl th):=by
 intro pins s σ H Q I h;refine Subscript_ (thn (he pins s σ H _ I h) λv s1 ⟨x,H1,I1,r1,q1⟩=>?_);refine wpAny_Slice (thn (hl pins s1 σ H1 _ I1 q1) λvl s2 ⟨l,H2,I2,pl,q2⟩=>thn (hu pins s2 σ H2 _ I2 q2) λvu s3 ⟨u,H3,I3,pu,q3⟩=>?_);rw[evalPart_none];refine wpAny_pure ?_;have I4:Inv X pins σ H3 { s3 with heap:=s3.heap.push { cls:=.type "slice",data:=.fields #[vl,vu,.none] } }:=I3.kept (t':=s3.toks) λb ob q=>Heap.get?_push_of_some _ q
 obtain⟨T,id,hT,ht,hg⟩:=hr pins { s3 with heap:=s3.heap.push { cls:=.type "slice",data:=.fields #[vl,vu,.none] } } σ H3 x v vl vu l u s3.heap.objs.size Q I4 r1 (Heap.IsSliceOf.new ..) pl pu q3;show wpAny (model X.prog X.w) X.A (subscriptTail e (.Slice lo hi none p2) v (.ref s3.heap.objs.size)) (EP X pins σ Q) X.xe { s3 with heap:=s3.heap.push { cls:=.type "slice",data:=.fields #[vl,vu,.none] } };exact tail_any (ops:=[.ref s3.heap.objs.size,v]) ht hT hg (by with_unfolding_all rfl)
noncomputable def dY(xs:List V)(lo hi:Option Int):List V:=(xs.drop (HT.sIx xs.length 0 lo)).take (HT.sIx xs.length xs.length hi-HT.sIx xs.length 0 lo)
theorem yC(xs:List V)(lo hi:Option Int):(dY xs lo hi).length<=xs.length:=by unfold dY;rw[LG,LL];omega
noncomputable def vX(K:PySem.W.Frag):V->Option Int->Option Int->Hp->VK->Prop:=λx lo hi H Q=>∃a xs,x=.ref a/\SqT K H a xs /\
 ¬(HT.sIx xs.length 0 lo=0/\HT.sIx xs.length xs.length hi=xs.length)/\∀p,H p=none->Q (.ref p) (upd H p (.tup (dY xs lo hi)))
theorem AC:SlR X (vX X.K):=by
 intro pins s σ H x v vl vu lo hi sl Q I rx hs pl pu h;obtain⟨a,xs,rfl,hx,hw,q⟩:=h;cases rx;obtain⟨its,r,ht,hz⟩:=I.tuple hx;have hlen:its.toArray.size=xs.length:=by rw[K0];exact r.length.symm
 refine⟨"tuple",_,PyProof.Rows.slot_tuple_getitem.lookup,ht.typeIs,?_⟩;refine HT.getItem_tuple_cut ht hs pl pu (by rw[hlen];exact hw) ?_ (by rw[hlen];exact hz);rw[hlen];refine⟨.ref s.heap.objs.size,_,I.laid (t':=s.toks) (o:=.tup (dY xs lo hi)) (λb ob q=>Heap.get?_push_of_some _ q) (KH _) ?_,rfl,q _ (I.hok.fresh (KH _))⟩;exact⟨KZ (yC xs lo hi) hz,_,(r.drop (HT.sIx xs.length 0 lo)).take (HT.sIx xs.length xs.length hi-HT.sIx xs.length 0 lo),IsTup.new _ _⟩
end
noncomputable def ixN(n:Nat)(i:Int):Option Nat:=if 0<=i then(if i<n then some i.toNat else none)else if -(n:Int)<=i then some (i+n).toNat else none
noncomputable def atI{α:Type}(xs:List α)(i:Int):Option α:=(ixN xs.length i).bind λj=>xs[j]?
theorem xA{n:Nat}{i:Int}{j:Nat}(h:ixN n i=some j):seqIndex? i n=some j/\j<n /\ -(n:Int)<=i/\i<n:=by
 unfold ixN at h
 by_cases h0:0<=i
 ·rw[if_pos h0]at h;by_cases h1:i<n
  ·rw[if_pos h1]at h;have e:i.toNat=j:=Option.some.inj h;exact⟨by rw[seqIndex_of h0 h1,e],by omega,by omega,h1⟩
  ·rw[if_neg h1]at h;cases h
 ·rw[if_neg h0]at h;by_cases h1 : -(n:Int)<=i
  ·rw[if_pos h1]at h;have e:(i+n).toNat=j:=Option.some.inj h;exact⟨by rw[seqIndex_neg (by omega) h1,e],by omega,h1,by omega⟩
  ·rw[if_neg h1]at h;cases h
theorem y6{α:Type}{xs:List α}{i:Int}{v:α}(h:atI xs i=some v):∃j,seqIndex? i xs.length=some j/\xs[j]?=some v/\j<xs.length /\ -(xs.length:Int)<=i/\i<xs.length:=by
 unfold atI at h
 cases e:ixN xs.length i with
 |none=>rw[e]at h;cases h
 |some j =>rw[e]at h;obtain⟨h1,h2,h3,h4⟩:=xA e;exact⟨j,h1,h,h2,h3,h4⟩
theorem gO{α:Type}{xs:List α}{j:Nat}{v:α}(h:xs[j]?=some v):atI xs (j:Int)=some v:=by
 have hj:j<xs.length:=(List.getElem?_eq_some_iff.mp h).1
 have e:ixN xs.length (j:Int)=some j:=by unfold ixN;rw[if_pos (by omega),if_pos (by omega)];simp
 unfold atI;rw[e];exact h
theorem y4{α:Type}(xs:List α)(v:α):atI (xs++[v]) (-1)=some v:=by
 have hl:(xs++[v]).length=xs.length+1:=by simp
 have e:ixN (xs++[v]).length (-1)=some xs.length:=by
  unfold ixN;rw[hl,if_neg (by decide),if_pos (by omega)]
  congr 1
  omega
 unfold atI;rw[e];show(xs++[v])[xs.length]?=some v;simp
def sF(b:Expr):Prop:=∀o i,subscripted b false o i=operate [o,i] (getItem o i)
noncomputable def IxR(X:Cx)(r:R2):Prop :=
 ∀(value slice:Expr) (pins:List (Addr×Obj)) (s:Shared) (σ:St) (H:Hp) (x y:V) (v u:Value) (Q:VK),Inv X pins σ H s->RelV x v->RelV y u->r x y H Q ->
  subscripted slice false v u=operate [v,u] (getItem v u)->wpAny (model X.prog X.w) X.A (subscriptTail value slice v u) (EP X pins σ Q) X.xe s
noncomputable def MtR(X:Cx)(id:String)(r:V->List V->Hp->VK->Prop):Prop :=
 ∀(pins:List (Addr×Obj)) (s:Shared) (σ:St) (H:Hp) (x:V) (xs:List V) (v:Value) (us:List Value) (Q:VK),Inv X pins σ H s->RelV x v->Vals xs us->r x xs H Q ->
  wpAny (model X.prog X.w) X.A (call (.builtin id) (v::us)) (EP X pins σ Q) X.xe s
section
variable {X:Cx}{a b:Expr}{ta tb:TE}{pos:Pos}
theorem wp{r:R2}(hr:IxR X r)(ha:PE X a ta)(hb:PE X b tb)(hs:sF b):PE X (.Subscript a b pos) (tOp r ta tb):=by intro pins s σ H Q I h;exact Subscript_ (sA ha hb I h λv u s2 x y H2 I2 rx ry q=>hr a b pins s2 σ H2 x y v u Q I2 rx ry q (hs _ _))
def mM(K:PySem.W.Frag):R2:=λx y H Q=>∃p xs i v,x=.ref p/\y=.int i/\SqL K H p xs/\atI xs i=some v/\Q v H
def jf(K:PySem.W.Frag):R2:=λx y H Q=>∃p xs i v,x=.ref p/\y=.int i/\SqT K H p xs/\atI xs i=some v/\Q v H
theorem Fm:IxR X (mM X.K):=by
 intro value slice pins s σ H x y v u Q I rx ry h hs;obtain⟨p,xs,i,z,rfl,rfl,hq,he,q⟩:=h;cases rx;obtain⟨t,rfl⟩:=ry;obtain⟨its,r,pl,hz⟩:=I.list hq;obtain⟨j,h1,h2,h3,h4,h5⟩:=y6 he;obtain⟨w,ew,rw'⟩:=r.get h2;have hl:=r.length;have hn:=m7;have fin:EP X pins σ Q w s:=⟨z,H,I,rw',q⟩;by_cases h0:0<=i
 ·have hj:i.toNat=j:=by rw[seqIndex_of h0 h5]at h1;exact Option.some.inj h1
  exact item_listR pl.isList h0 (by omega) (by rw[hj];simpa using ew) fin hs
 ·have hj:(i+(its.toArray.size:Int)).toNat=j:=by rw[seqIndex_neg (by omega) h4]at h1;rw[K0,<- hl];exact Option.some.inj h1
  exact subscriptTail_builtinR (x:=w) pl.isList.typeIs slot_list_getitem.lookup
   (wpAny_getItem_list_neg (Q:=λr s'=>r=w/\EP X pins σ Q r s') pl.isList (by omega) (by rw[K0]<;>omega) (by omega) (by rw[hj];simpa using ew) ⟨rfl,fin⟩) hs
theorem Fk:IxR X (jf X.K):=by
 intro value slice pins s σ H x y v u Q I rx ry h hs;obtain⟨p,xs,i,z,rfl,rfl,hq,he,q⟩:=h;cases rx;obtain⟨t,rfl⟩:=ry;obtain⟨its,r,pl,hz⟩:=I.tuple hq;obtain⟨j,h1,h2,h3,h4,h5⟩:=y6 he;obtain⟨w,ew,rw'⟩:=r.get h2;have hl:=r.length;have hn:=m7;have fin:EP X pins σ Q w s:=⟨z,H,I,rw',q⟩
 exact subscriptTail_builtinR (x:=w) pl.typeIs slot_tuple_getitem.lookup
  (getItem_tuple (j:=j) (Q:=λr s'=>r=w/\EP X pins σ Q r s') pl (by omega) (by omega) (by rw[K0,<- hl];exact h1) (by simpa using ew) ⟨rfl,fin⟩) hs
theorem EX(its:List Value)(n j:Nat)(u:Value):Obj.mapSeq (·.setIfInBounds j u) { cls:=.type "list",data:=.seq its.toArray n }={ cls:=.type "list",data:=.seq (its.set j u).toArray n }:=by simp[Obj.mapSeq]
theorem Inv.lst{pins:List (Addr×Obj)}{σ:St}{H:Hp}{s:Shared}{p:Addr}{xs:List V}(I:Inv X pins σ H s)(h:H p=some (.lst xs)) :
 ∃(its:List Value) (n:Nat),Vals xs its/\s.heap.get? p=some { cls:=.type "list",data:=.seq its.toArray n }/\xs.length<=sizeLine:=by
 obtain⟨z,its,n,r,e⟩:=I.hok p _ h;exact⟨its,n,r,e,z⟩
theorem Inv.lstUpd{pins:List (Addr×Obj)}{σ:St}{H:Hp}{s:Shared}{p:Addr}{xs ys:List V}{its its':List Value}{n n':Nat}{f:Obj->Obj}(I:Inv X pins σ H s)(h:H p=some (.lst xs))
 (ho:s.heap.get? p=some { cls:=.type "list",data:=.seq its.toArray n }) (hf:f { cls:=.type "list",data:=.seq its.toArray n }={ cls:=.type "list",data:=.seq its'.toArray n' }) (r:Vals ys its') (hz:ys.length<=sizeLine) (t:Nat) :
 Inv X pins σ (upd H p (.lst ys)) { s with heap:=s.heap.update p f,toks:=t }:=by
 have e:(s.heap.update p f).get? p=some { cls:=.type "list",data:=.seq its'.toArray n' }:=by rw[Heap.get?_update_self f ho (by rw[hf]<;>rfl),hf]
 refine I.write (x:=p) (e:=p) (by rw[h];trivial) (.inl rfl) (λb u hb q=>(Heap.get?_update_other _ _ (Ne.symm hb)).trans q) ⟨_,e⟩ ?_;exact⟨hz,its',n',r,e⟩
noncomputable def BX:V->V->V->Hp->(Hp->Prop)->Prop:=λo i v H Q=>∃p xs k j,o=.ref p/\i=.int k/\H p=some (.lst xs)/\ixN xs.length k=some j/\Q (upd H p (.lst (xs.set j v)))
theorem iU:zc X BX:=by
 intro pins s σ H o i v ov iv u Q I ro ri rv h;obtain⟨p,xs,k,j,rfl,rfl,hp,hj,q⟩:=h;cases ro;obtain⟨t,rfl⟩:=ri;obtain⟨its,n,r,ho,hz⟩:=I.lst hp;obtain⟨h1,h2,h3,h4⟩:=xA hj;have hl:=r.length;have hn:=m7
 have I':Inv X pins σ (upd H p (.lst (xs.set j v))) { s with heap:=s.heap.update p (Obj.mapSeq (·.setIfInBounds j u)) } :=
  I.lstUpd hp ho (EX its n j u) (r.set rv j) (by rw[LW];exact hz) s.toks
 by_cases h0:0<=k
 ·have hk:k.toNat=j:=by rw[seqIndex_of h0 h4]at h1;exact Option.some.inj h1
  exact PySem.W.ki_setAt ho h0 (by omega) (by rw[K0,<- hl];exact h4) (by rw[hk];exact⟨_,I',q⟩)
 ·have hk:(k+(its.toArray.size:Int)).toNat=j:=by rw[seqIndex_neg (by omega) h3]at h1;rw[K0,<- hl];exact Option.some.inj h1
  exact PySem.W.ki_setBack ho (by omega) (by rw[K0,<- hl];exact h3) (by omega) (by rw[hk];exact⟨_,I',q⟩)
theorem Ay(lo hi:Option Int)(n:Nat):(sliceBounds lo hi none n).1=((HT.sIx n 0 lo:Nat):Int)/\(sliceBounds lo hi none n).2.1=((HT.sIx n n hi:Nat):Int)/\(sliceBounds lo hi none n).2.2=1:=by
 refine⟨?_,?_,rfl⟩
 ·cases lo with
  |none=>simp[sliceBounds,HT.sIx]
  |some i =>
   simp only[sliceBounds,HT.sIx,Option.getD_none,show(1:Int)>0 by decide,if_true];by_cases h:i<0
   ·simp only[h,if_true]<;>omega
   ·simp only[h,if_false]<;>omega
 ·cases hi with
  |none=>simp[sliceBounds,HT.sIx]
  |some i =>
   simp only[sliceBounds,HT.sIx,Option.getD_none,show(1:Int)>0 by decide,if_true];by_cases h:i<0
   ·simp only[h,if_true]<;>omega
   ·simp only[h,if_false]<;>omega
theorem Az(its:List Value)(lo hi:Option Int):slicePick its.toArray lo hi none=((its.drop (HT.sIx its.length 0 lo)).take (HT.sIx its.length its.length hi-HT.sIx its.length 0 lo)).toArray:=by obtain⟨h1,h2,h3⟩:=Ay lo hi its.toArray.size;unfold slicePick;rw[h1,h2,h3];simp only[sliceRange_one,pick_run,K0]<;>rfl
noncomputable def mL(K:PySem.W.Frag):V->Option Int->Option Int->Hp->VK->Prop:=λx lo hi H Q=>∃a xs,x=.ref a/\SqL K H a xs/\∀p,H p=none->Q (.ref p) (upd H p (.lst (dY xs lo hi)))
theorem AD:SlR X (mL X.K):=by intro pins s σ H x v vl vu lo hi sl Q I rx hs pl pu h;obtain⟨a,xs,rfl,hx,q⟩:=h;cases rx;obtain⟨its,r,ht,hz⟩:=I.list hx;have hlen:=r.length;refine⟨"list",_,slot_list_getitem.lookup,ht.isList.typeIs,?_⟩;refine wpAny_getItem_list_slice ht.isList hs pl pu .none (by simp) ?_ (by rw[K0]<;>omega);rw[Az,<- hlen];refine⟨.ref s.heap.objs.size,_,I.laid (t':=s.toks) (o:=.lst (dY xs lo hi)) (λb ob q=>Heap.get?_push_of_some _ q) (KH _) ?_,rfl,q _ (I.hok.fresh (KH _))⟩;exact⟨KZ (yC xs lo hi) hz,_,0,(r.drop (HT.sIx xs.length 0 lo)).take (HT.sIx xs.length xs.length hi-HT.sIx xs.length 0 lo),Heap.get?_push_size _ rfl⟩
theorem G8:d5 X (.builtin "len") (λxs H Q=>∃p ys,xs=[.ref p]/\(SqL X.K H p ys\/SqT X.K H p ys)/\Q (.int ys.length) H):=by
 intro pins s σ H xs us Q I r h;obtain⟨p,ys,rfl,hq,q⟩:=h;obtain⟨u,rfl,rx⟩:=gS r;cases rx;have hn:=m7;rcases hq with hq |hq
 ·obtain⟨its,r',pl,hz⟩:=I.list hq;have hlen:=r'.length;exact Calls.call_len_list pl.isList (by simp only[K0]<;>omega) ⟨.int ys.length,H,I.tok _,⟨s.toks+1,by rw[K0,hlen]⟩,q⟩
 ·obtain⟨its,r',pl,hz⟩:=I.tuple hq;have hlen:=r'.length;exact len_tuple pl (by simp only[K0]<;>omega) ⟨.int ys.length,H,I.tok _,⟨s.toks+1,by rw[K0,hlen]⟩,q⟩
theorem G7:d5 X (.type "list") (λxs H Q=>∃p ys,xs=[.ref p]/\(SqL X.K H p ys\/SqT X.K H p ys)/\∀l,H l=none->Q (.ref l) (upd H l (.lst ys))):=by
 intro pins s σ H xs us Q I r h;obtain⟨p,ys,rfl,hq,q⟩:=h;obtain⟨u,rfl,rx⟩:=gS r;cases rx
 have fin:∀(its:List Value),Vals ys its->ys.length<=sizeLine->∀(h':Heap) (c':Nat),(∀b o',s.heap.get? b=some o'->h'.get? b=some o') ->
  h'.get? s.heap.objs.size=some { cls:=.type "list",dict:=none,data:=.seq its.toArray c',slots:=#[] }->EP X pins σ Q (.ref s.heap.objs.size) { s with heap:=h' }:=λits r' hz h' c' kp e =>
  ⟨.ref s.heap.objs.size,_,I.laid (t':=s.toks) kp (KH _) (show ObjOk X.prog X.w _ h' _ (.lst ys)from⟨hz,its,c',r',e⟩),rfl,q _ (I.hok.fresh (KH _))⟩
 rcases hq with hq |hq
 ·obtain⟨its,r',pl,hz⟩:=I.list hq;have hlen:=r'.length;obtain⟨o,ho,hc,n,hd⟩:=pl.isList;exact call_list_seq p (.inl rfl) ho hc hd (λh' c' kp e=>fin its r' hz h' c' kp e) (by simp only[K0]<;>omega)
 ·obtain⟨its,r',pl,hz⟩:=I.tuple hq;have hlen:=r'.length;obtain⟨o,ho,hc,n,hd⟩:=pl;exact call_list_seq p (.inr rfl) ho hc hd (λh' c' kp e=>fin its r' hz h' c' kp e) (by simp only[K0]<;>omega)
def tyV(K:PySem.W.Frag)(T:String)(x:V)(H:Hp):Prop:=match x with
 |.str _=>T="str"
 |.int _=>T="int"
 |.ref p=>(T="list"/\∃xs,SqL K H p xs)\/(T="tuple"/\∃o,K.lookup p=some o/\o.cls=.type "tuple"/\o.dict=none) \/
  (T="dict"/\((∃kvs,H p=some (.dK kvs))\/∃kvs,H p=some (.dT kvs)))\/(T="set"/\∃S n,H p=some (.set S n))
 |_=>False
theorem sW{pins:List (Addr×Obj)}{σ:St}{H:Hp}{s:Shared}{T:String}{x:V}{v:Value}(I:Inv X pins σ H s)(r:RelV x v)(ty:tyV X.K T x H) :
 s.TypeIs v T/\∀a,v=.ref a->∃ob,s.heap.get? a=some ob/\ob.dict=none:=by
 cases x with
 |str z =>obtain⟨t,rfl⟩:=r;cases(show T="str" from ty);exact⟨typeIs_str s z t,λ_ e=>nomatch e⟩
 |int i =>obtain⟨t,rfl⟩:=r;cases(show T="int" from ty);exact⟨typeIs_int s i t,λ_ e=>nomatch e⟩
 |ref p =>
  cases r;rcases ty with⟨rfl,xs,hq⟩ |⟨rfl,o,hk,hc,hd⟩ |⟨rfl,hk⟩ |⟨rfl,S,n,hk⟩
  ·obtain⟨its,_,pl,_⟩:=I.list hq;refine⟨pl.isList.typeIs,λa e=>?_⟩;cases e;obtain⟨o,n,e,c,hd,_⟩:=pl;exact⟨o,e,hd⟩
  ·refine⟨⟨o,I.kIn p o hk,hc⟩,λa e=>?_⟩;cases e;exact⟨o,I.kIn _ o hk,hd⟩
  ·have z:∃o,s.heap.get? p=some o/\o.ExactDict:=by
    rcases hk with⟨kvs,hk⟩ |⟨kvs,hk⟩
    ·obtain⟨_,_,_,_,o,_,_,e,ex,_⟩:=I.hok p _ hk;exact⟨o,e,ex⟩
    ·obtain⟨_,_,_,_,o,_,_,e,ex,_⟩:=I.hok p _ hk;exact⟨o,e,ex⟩
   obtain⟨o,e,ex⟩:=z;refine⟨⟨o,e,ex.1⟩,λa e2=>?_⟩;cases e2;exact⟨o,e,ex.2.1⟩
  ·obtain⟨o,_,_,_,e,ex,_⟩:=I.hok p _ hk;refine⟨⟨o,e,ex.1⟩,λa e2=>?_⟩;cases e2;exact⟨o,e,ex.2.1⟩
 |_=>exact False.elim ty
def Ak(K:PySem.W.Frag)(T:String)(r:V->List V->Hp->VK->Prop)(to:TE):TE:=λσ H Q=>to σ H λx H1=>tyV K T x H1/\r x [] H1 Q
def tBM(K:PySem.W.Frag)(T:String)(r:V->List V->Hp->VK->Prop)(to:TE)(t:TA):TE:=λσ H Q=>to σ H λx H1=>tyV K T x H1/\t σ H1 λxs H2=>r x xs H2 Q
variable {o e:Expr}{es:List Expr}{to:TE}{t:TA}{name:Str}{apos cpos:Pos}{T id:String}{r:V->List V->Hp->VK->Prop}
theorem Cu(pa:PlainAttrs T)(slot:Slot T name id)(hty:typeOf (.builtin id)=pure (.type "method_descriptor"))(hm:MtR X id r)(ho:PE X o to)
 (hbase:attributeBase o name X.env (eval o X.env)=eval o X.env:=by rfl) (hline:(apos.endLine == cpos.line)=true:=by rfl):PE X (.Call (.Attribute o name apos) [] [] cpos) (Ak X.K T r to):=by
 intro pins s σ H Q I h;refine wpAny_Call_method0_late hbase hline (thn (ho pins s σ H _ I h) λv s1 ⟨x,H1,I1,r1,ty,q1⟩=>?_);obtain⟨h1,h2⟩:=sW I1 r1 ty;exact⟨T,id,pa,slot,hty,h1,h2,Calls.callWith_builtin rfl (PySem.evalArgs_none (hm pins s1 σ H1 x [] v [] Q I1 r1 .nil q1))⟩
theorem Cv(pa:PlainAttrs T)(slot:Slot T name id)(hty:typeOf (.builtin id)=pure (.type "method_descriptor"))(hm:MtR X id r)(ho:PE X o to)(ha:PA X (e::es) t)
 (hbase:attributeBase o name X.env (eval o X.env)=eval o X.env:=by rfl)
 (hfew:((backTo cpos (starEach (e::es) X.env)).all (λx=>!x.1)&&(backToKw cpos (keywordEach [] X.env)).all (λx=>x.1.isSome)
   && decide ((e::es).length+([]:List Keyword).length+(if([]:List Keyword).isEmpty then 0 else 1)<30))=true:=by rfl)
 (hline:(apos.endLine == cpos.line)=true:=by rfl) (hs:starEach (e::es) X.env=(false,eval e X.env)::starEach es X.env:=by rfl) (hplain:(backTo cpos (starEach es X.env)).any (·.1)=false:=by rfl) :
 PE X (.Call (.Attribute o name apos) (e::es) [] cpos) (tBM X.K T r to t):=by
 intro pins s σ H Q I h;refine wpAny_Call_method_late hbase hfew hline rfl (thn (ho pins s σ H _ I h) λv s1 ⟨x,H1,I1,r1,ty,q1⟩=>?_);obtain⟨h1,h2⟩:=sW I1 r1 ty;refine⟨T,id,pa,slot,hty,h1,h2,?_⟩;have hA:=ha cpos pins s1 σ H1 _ I1 q1;rw[hs]at hA ⊢;refine Calls.callWith_builtin (by show(false || (backTo cpos (starEach es X.env)).any (·.1))=false;rw[hplain]<;>rfl) (Calls.evalArgs_plain ?_);exact thn hA λus s2 ⟨vs,H2,I2,r2,q2⟩=>hm pins s2 σ H2 x vs v us Q I2 r1 r2 q2
end
noncomputable def MtM(X:Cx)(id:String)(r:V->List V->Hp->VK->Prop):Prop :=
 ∀(pins:List (Addr×Obj)) (s:Shared) (σ:St) (H:Hp) (x:V) (xs:List V) (v:Value) (us:List Value) (Q:VK),Inv X pins σ H s->RelV x v->Vals xs us->r x xs H Q ->
  wpAny (model X.prog X.w) X.A (call (.builtin id) (v::us)) (EP X pins σ Q) X.xe s
theorem Vals.one:∀{x:V} {us:List Value},Vals [x] us->∃u,us=[u]/\RelV x u
 |_,_,.cons r .nil=>⟨_,rfl,r⟩
theorem Vals.two:∀{x y:V} {us:List Value},Vals [x,y] us->∃u v,us=[u,v]/\RelV x u/\RelV y v
 |_,_,_,.cons r (.cons q .nil)=>⟨_,_,rfl,r,q⟩
theorem Vals.zero:∀{us:List Value},Vals [] us->us=[]
 |_,.nil=>rfl
theorem Vals.reverse{xs:List V}{us:List Value}(h:Vals xs us):Vals xs.reverse us.reverse:=by
 induction h with
 |nil=>exact .nil
 |cons r t ih=>rw[List.reverse_cons,List.reverse_cons];exact Vals.append ih (.cons r .nil)
theorem Vals.rep{xs:List V}{us:List Value}(h:Vals xs us):∀k:Nat,Vals (List.replicate k xs).flatten (List.replicate k us).flatten
 |0=>.nil
 |k+1=>by rw[L4,L4,MD,MD];exact Vals.append h (Vals.rep h k)
theorem xX(its:List Value):∀(k:Nat) (acc:List Value),
 List.foldl (λx1 x2=>x1++x2) acc.toArray (List.replicate k its.toArray)=(acc++(List.replicate k its).flatten).toArray
 |0,acc=>by simp
 |k+1,acc=>by
  have e:acc.toArray++its.toArray=(acc++its).toArray:=by simp
  have e2:(acc++its)++(List.replicate k its).flatten=acc++(List.replicate (k+1) its).flatten:=by rw[L4,MD,ME]
  rw[<- e2,<- xX its k (acc++its),<- e,L4,List.foldl_cons]
section
variable {X:Cx}{pins:List (Addr×Obj)}{σ:St}{H:Hp}{s:Shared}{l b:Addr}{xs ys zs:List V}
theorem Inv.lset{its its':List Value}{n:Nat}{f:Array Value->Array Value}{t':Nat}(I:Inv X pins σ H s)(hH:H l=some (.lst xs))
 (e:s.heap.get? l=some { cls:=.type "list",data:=.seq its.toArray n }) (hf:f its.toArray=its'.toArray) (hv:Vals ys its') (hz:ys.length<=sizeLine) :
 Inv X pins σ (upd H l (.lst ys)) { s with heap:=s.heap.update l (Obj.mapSeq f),toks:=t' }:=by
 have q:=PySem.IsL.update e f;rw[hf]at q;refine I.write (x:=l) (e:=l) (by rw[hH];exact trivial) (.inl rfl) (λb' u hb hu=>(Heap.get?_update_other s.heap (Obj.mapSeq f) (Ne.symm hb)).trans hu) ⟨_,q⟩ ?_;exact⟨hz,its',_,hv,q⟩
theorem Inv.lnew{its:List Value}{t':Nat}(I:Inv X pins σ H s)(hv:Vals ys its)(hz:ys.length<=sizeLine) :
 Inv X pins σ (upd H s.heap.objs.size (.lst ys)) { s with heap:=s.heap.push { cls:=.type "list",data:=.seq its.toArray },toks:=t' } :=
 I.laid (λ_ _ q=>Heap.get?_push_of_some _ q) (KH _) ⟨hz,its,0,hv,Heap.get?_push_size _ rfl⟩
theorem Inv.fresh(I:Inv X pins σ H s):H s.heap.objs.size=none:=I.hok.fresh (KH _)
theorem Inv.lstM(I:Inv X pins σ H s)(hH:H l=some (.lst xs)):xs.length<=sizeLine/\∃(its:List Value) (n:Nat),Vals xs its/\xs.length=its.length/\s.heap.get? l=some { cls:=.type "list",data:=.seq its.toArray n }:=by obtain⟨z,its,n,r,e⟩:=I.hok l _ hH;exact⟨z,its,n,r,r.length,e⟩
theorem Ev{n:Nat}(h:n<=sizeLine):Builtin.List.listTooLong n=false:=by unfold Builtin.List.listTooLong;exact decide_eq_false (by omega)
end
section
variable {X:Cx}
noncomputable def v7:V->List V->Hp->VK->Prop:=λx vs H Q=>∃l xs y,x=.ref l/\vs=[y]/\H l=some (.lst xs)/\xs.length<sizeLine/\Q .non (upd H l (.lst (xs++[y])))
theorem EM:MtM X "list.append" v7:=by intro pins s σ H x vs v us Q I rx rv h;obtain⟨l,xs,y,rfl,rfl,hH,hz,q⟩:=h;cases rx;obtain⟨u,rfl,ru⟩:=rv.one;obtain⟨z,its,n,r,hl,e⟩:=I.lstM hH;refine call_meets F.slot_list_append ⟨_,e,rfl⟩ F.entry_list_append (F.args_list_append_2 _ _) (PySem.list_append l its.toArray n u (by rw[K0];omega)) ⟨e,?_⟩;refine⟨.non,_,I.lset (its':=its++[u]) hH e (by simp) (r.append (.cons ru .nil)) ?_,rfl,q⟩;rw[Lb,List.length_singleton];omega
noncomputable def BY:V->List V->Hp->VK->Prop:=λx vs H Q=>∃l xs,x=.ref l/\vs=[]/\H l=some (.lst xs)/\Q .non (upd H l (.lst xs.reverse))
theorem EL:MtM X "list.reverse" BY:=by intro pins s σ H x vs v us Q I rx rv h;obtain⟨l,xs,rfl,rfl,hH,q⟩:=h;cases rx;have hus:=rv.zero;subst hus;obtain⟨z,its,n,r,hl,e⟩:=I.lstM hH;refine call_meets F.slot_list_reverse ⟨_,e,rfl⟩ F.entry_list_reverse (F.args_list_reverse_1 _) (AutoSeq1.list_reverse_list_0 l its.toArray n (by rw[K0];omega)) ⟨e,?_⟩;refine⟨.non,_,I.lset (its':=its.reverse) hH e (by simp) r.reverse ?_,rfl,q⟩;rw[List.length_reverse];omega
def BZ:R2:=λx y H Q=>∃l k xs,x=.ref l/\y=.int k/\H l=some (.lst xs) /\ -(2^63)<=k/\k<2^63/\xs.length*k.toNat<=sizeLine /\
 ∀p,H p=none->Q (.ref p) (upd H p (.lst (List.replicate k.toNat xs).flatten))
theorem E9{α:Type}(xs:List α)(k:Nat):(List.replicate k xs).flatten.length=k*xs.length:=by
 induction k with
 |zero=>simp
 |succ k ih=>rw[L4,MD,Lb,ih,Nat.succ_mul,Nat.add_comm]
theorem wB:OpR X (binaryOp .Mult) BZ:=by
 intro pins s σ H x y v u Q I rx ry h;obtain⟨l,k,xs,rfl,rfl,hH,h1,h2,hz,q⟩:=h;cases rx;obtain⟨t,rfl⟩:=ry;obtain⟨z,its,n,r,hl,e⟩:=I.lstM hH;have hlen:its.toArray.size*k.toNat<=sizeLine:=by rw[K0,<- hl];exact hz
 have hcap:¬its.toArray.size*k.toNat>(2^63-1)/8:=by
  have:(sizeLine:Nat)<=(2^63-1)/8:=by decide
  omega
 have hfit:¬(!Builtin.List.listFitsIndex k)=true:=by rw[fitsIndex_both h1 h2];exact Lm
 have hlong:¬Builtin.List.listTooLong (its.toArray.size*k.toNat)=true:=by rw[Ev hlen];exact Lm
 have hnew:List.foldl (λx1 x2=>x1++x2) #[] (List.replicate (if its.toArray.isEmpty=true then 0 else k.toNat) its.toArray)=(List.replicate k.toNat its).flatten.toArray:=by
  have f0:∀m:Nat,List.foldl (λx1 x2=>x1++x2) #[] (List.replicate m its.toArray)=(List.replicate m its).flatten.toArray:=λm=>by have:=xX its m [];rw[List.nil_append]at this;exact this
  rw[f0];cases its with
  |nil=>simp
  |cons a r'=>rw[if_neg (by simp)]
 refine wpAny_binaryOp_repeat_ref (T:="list") (U:="int") (by decide) ⟨_,e,rfl⟩ (λs'=>typeIs_int s' k t) noFill_list_mul F.fills_int_mul F.slot_int_rmul repeat_list F.slot_int_index.lookup
  (call_meets F.slot_int_rmul (typeIs_int s k t) F.entry_int_rmul (F.args_int_rmul_2 _ _) (int___rmul___int_list k t l its.toArray n)
    ⟨e,rfl,⟨_,e,rfl⟩,call_meets F.slot_list_mul ⟨_,e,rfl⟩ F.entry_list_mul (F.args_list_mul_2 _ _) (AutoListH.list___mul___list_int_3 l its.toArray n k t hfit hcap hlong) ⟨e,?_⟩⟩)
 rw[hnew];exact⟨.ref _,_,I.lnew (t':=s.toks) (r.rep k.toNat) (by rw[E9,Nat.mul_comm];exact hz),rfl,q _ I.fresh⟩
end
section
variable {prog:Program}{w:World}{A:Around}{E:Value->Shared->Prop}{s:Shared}
end
section
variable {X:Cx}
end
end L2
namespace Att
open PySem PySem.W PySem.Calls PyProof.Rows
theorem Fq{P:Params}{h:Heap}:∀(ns:List Int) (vs:List Value),WellAll P h vs (ns.map WData.int)->IntsAre vs ns:=by
 intro ns
 induction ns with
 |nil =>intro vs w;rw[List.map_nil]at w;cases w;exact .nil
 |cons n ns ih =>
  intro vs w;rw[Me]at w;cases w with
  |cons a b =>cases a;exact .cons _ _ (ih _ b)
theorem AX{l:OpenLaw}{n:Nat}(hn:l.most=some n){P:Params}{h:Heap}{args:List WData}{vals:List Value}
 (hpre:l.row.toRowW.claim.pre args=true) (hwl:WellAll P h vals args) :
 ∃a vs ns,vals=[Value.ref a]/\args=[WData.list (ns.map WData.int)]/\h.get? a=some { cls:=.type "list",data:=.seq vs.toArray }/\IntsAre vs ns/\ns.length<=n:=by
 have hsh:WShape.hasAll [] args [.list .int]=true:=(pre_splitW hpre).1;have hc:l.pre.holds [] { args:=args }=true:=(pre_splitW hpre).2;obtain⟨d,r,rfl,h1,h2⟩:=hasAllW_cons hsh;obtain rfl:=hasAllW_nil h2;obtain⟨xs,rfl,h3⟩:=hasW_list h1;obtain⟨ns,rfl⟩:=items_int h3
 have hlen:ns.length<=n:=by
  unfold OpenLaw.pre at hc
  have h4:(WTm.not (.lt (.lit (.int (n:Int))) (.len (.arg 0)))).holds [] { args:=[.list (ns.map .int)] }=true:=by have h4:=(holds_andW hc).1;rw[hn]at h4;exact h4
  have h5:=condW_of h4 (w_not (w_lt w_lit (w_len_list (w_arg rfl))));rw[KF]at h5;refine LA λq=>?_
  have q':(n:Int)<((ns.length:Nat):Int):=by omega
  first
   | (rw[decide_eq_true q']at h5;exact absurd h5 (by decide))
   | (simp at h5;omega)
 cases hwl with
 |cons w1 w2 =>
  cases w2;cases w1 with
  |list ho hall=>exact⟨_,_,ns,rfl,rfl,ho,Fq ns _ hall,hlen⟩
theorem Cb(l:OpenLaw)(args:List WData):l.row.toRowW.claim.post args (.bool true) args=true :=
 postW_of (r:=l.row.toRowW) (X:=(true == true))
  (show WShape.has [] (.bool true) .bool=true by first |rfl |decide |simp[WShape.has,WShape.arms,WShape.armsAll])
  (show(WTm.eq .res (.lit (.bool true))).value [] { args:=args,res:=some (.bool true),after:=args }=some (.bool (true == true))from w_eq_bool (w_res rfl) w_lit) rfl
theorem attach_call{l:OpenLaw}{n:Nat}{q:Program}{loose:List Str}{XP:(Str->Option Value)->Heap->Prop}{YP:World->Heap->Prop}{d:DefRec}
 (hn:l.most=some n) (hdf:d.params.defaults=[])
 (call:∀(w:World) (s₀ s₁:Shared) (mg mb:Str->Option Value) (fa:Addr) (o:Obj) (pm cd doc:Value) (a:Addr) (vs:List Value) (ns:List Int),
   Ground q loose [] XP w s₀ mg mb s₁.heap->YP w s₁.heap ->
   s₁.heap.get? fa=some o->o.data=.func (docDef d.name d.params d.body d.scope pm cd doc)->s₁.heap.CodeRec cd d.name->mg d.name=some (.ref fa) ->
   s₁.heap.get? a=some { cls:=.type "list",data:=.seq vs.toArray }->IntsAre vs ns->ns.length<=n->s₁.gens=#[] ->
   codeAny (model l.prog w) callerA (.call (.ref fa) ⟨[.ref a],[]⟩) (λr s'=>r=.ok (.ret (.bool true))/\OldK s₁.heap s'.heap/\s'.os=s₁.os/\AllBare s'.gens) s₁) :
 WalkO q loose XP YP l.row.toRowW d [] (λf vs=>PySem.call f vs):=by
 intro w s₀ s₁ mg mb G Y fa o pm cd doc dV kV ho hd hcd hD hmg hg args vals as hpre hlay hrd hwl hlo;obtain rfl:dV=.none:=Dflts.none hD hdf;obtain rfl:kV=.none:=Dflts.noKw hD;obtain⟨a,vs,ns,rfl,rfl,hobj,hints,hlen⟩:=AX hn hpre hwl;refine enter_call (codeAny_mono (call w s₀ s₁ mg mb fa o pm cd doc a vs ns G Y ho (fd_plain hd) hcd hmg hobj hints hlen hg) λr s' hq=>?_);obtain⟨rfl,h2,h3,h4⟩:=hq;exact⟨.inl ⟨.bool true,.bool true,[],rfl,λ_=>rfl,.bool true,Cb l _,λ_=>⟨List.Pairwise.nil,λ_ hm=>(nomatch hm)⟩⟩,h2,h3,h4⟩
section
variable {prog:Program}{w:World}{A:Around}{E:Value->Shared->Prop}{s:Shared}{K:Frag}
end
end Att
namespace L2
open PySem PySem.Spec PyProof.Rows
theorem sT:∀{vs:List Value} {ns:List Int},IntsAre vs ns->Vals (ns.map V.int) vs
 |_,_,.nil=>.nil
 |_,_,.cons n t h=>.cons ⟨t,rfl⟩ (sT h)
def sG(H:Hp):Prop:=∀b,H b=none\/∃o xs,H b=some (.frz o (.lst xs))
noncomputable def jy(s:Stmt)(j:Nat):Stmt:=match s with
 |.ClassDef _ _ _ body _ _ _ _ _ _ _=>body.getD j (.Pass ⟨0,0,0,0⟩)
 |_=>.Pass ⟨0,0,0,0⟩
noncomputable def eX(s:Stmt):Arguments:=match s with
 |.FunctionDef _ a _ _ _ _ _ _ _ _=>a
 |_=>{ posonlyargs:=[],args:=[],vararg:=none,kwonlyargs:=[],kw_defaults:=[],kwarg:=none,defaults:=[] }
noncomputable def dH(s:Stmt):List Stmt:=match s with
 |.FunctionDef _ _ b _ _ _ _ _ _ _=>b
 |_=>[]
noncomputable def aC(s:Stmt):Scope:=match s with
 |.FunctionDef _ _ _ _ _ _ sc _ _ _=>sc
 |_=>{ kind:=.function,names:=[],isGenerator:=false,isCoroutine:=false }
abbrev CX0:CXT:=λ_ _ _ _ _ _=>False
abbrev E0:XK:=λ_ _ _=>False
theorem b9{X:Cx}:jR CX0 X E0:=λ_ _ _ _ _ _ _ h=>h.elim
structure Fun(K:PySem.W.Frag)(x qual:Str)(st:Stmt)(f:Addr)(fd:FuncData):Prop where
 ex:∃(oc:Value) (od:Option Addr) (kV doc pm:Value) (an:Option Addr) (cdv ct:Value) (osl:Array (Option Value)),
  fd=PySem.W.fnOf x qual (eX st) (dH st) (aC st) .none kV doc pm an cdv ct/\K.lookup f=some ⟨oc,od,.func fd,osl⟩/\PySem.W.codeIn K cdv qual=true
 kp:PySem.W.keepIn K (.ref f)=true
section
variable {P:Program}{w:World}{K:PySem.W.Frag}{mg:Str->Option Value}{base:Heap}
theorem Fun.ok{x qual:Str}{st:Stmt}{f:Addr}{fd:FuncData}{N ps:List Str}{k:Nat}{sp:Sp}(F:Fun K x qual st f fd)(S:FnScope N ps (aC st))(len:∀vs H Q E,sp vs H Q E->vs.length=ps.length)
 (hbody:∀(cdv:Value) (A:Around) (outer:List Env) (s:Shared) (H:Hp) (vs:List V) (Q:VK) (E:XK),Room k (A.deeper (envOfC qual (aC st) s.heap.objs.size f cdv))->sp vs H Q E ->
   ∃t,PSs (iz CX0 P w K mg base N qual (aC st) f cdv A outer s H E).nox (dH st) t/\t { nx:=λ_ H'=>Q .non H',rt:=Q } (start N vs) H):FnOk P w K mg base CX0 (k+1) f fd ps sp:=by
 obtain⟨oc,od,kV,doc,pm,an,cdv,ct,osl,rfl,lk,hcd⟩:=F.ex;refine xZ lk hcd S len λA outer s H vs Q E hr hsp=>?_
 obtain⟨t,h,q⟩:=hbody cdv A outer s H vs Q E hr hsp;exact⟨t,h.nox,q⟩
theorem Fun.binds{x qual:Str}{st:Stmt}{f:Addr}{fd:FuncData}{ps:List Str}(F:Fun K x qual st f fd)
 (h:∀(kV doc pm:Value) (an:Option Addr) (cdv ct:Value) (us:List Value),us.length=ps.length->bindArgs (PySem.W.fnOf x qual (eX st) (dH st) (aC st) .none kV doc pm an cdv ct) ⟨us,[]⟩=pure (ps.zip us)):Binds K fd ps []:=by
 obtain⟨oc,od,kV,doc,pm,an,cdv,ct,osl,rfl,lk,hcd⟩:=F.ex;exact .all (h kV doc pm an cdv ct)
theorem xV{x qual:Str}{st:Stmt}{f:Addr}{oc:Value}{od an:Option Addr}{osl:Array (Option Value)}{kV doc pm cdv ct:Value}(l:K.lookup f=some ⟨oc,od,.func (PySem.W.fnOf x qual (eX st) (dH st) (aC st) .none kV doc pm an cdv ct),osl⟩)
 (c:PySem.W.codeIn K cdv qual=true) (k:PySem.W.keepIn K (.ref f)=true):Fun K x qual st f (PySem.W.fnOf x qual (eX st) (dH st) (aC st) .none kV doc pm an cdv ct):=⟨⟨oc,od,kV,doc,pm,an,cdv,ct,osl,rfl,l,c⟩,k⟩
end
section
variable {X:Cx}
theorem pv(i:Nat){x:Str}{pos:Pos}(hN:X.N[i]?=some x:=by rfl)(hv:Vis X.env.scope x:=by first |exact Or.inl rfl |exact Or.inr (Or.inl rfl) |exact Or.inr (Or.inr rfl))(hd:(x == ("__debug__":Str))=false:=by decide)
 (hcd:(x == ("__classdict__":Str))=false:=by decide):PE X (.Name x pos) (fS i):=Cp hN hv hd hcd
end
def Same(H H':Hp):Prop:=∀b o,H b=some o->H' b=some o
theorem Same.refl(H:Hp):Same H H:=λ_ _ h=>h
theorem Same.trans{H H1 H2:Hp}(a:Same H H1)(b:Same H1 H2):Same H H2:=λc o h=>b c o (a c o h)
theorem Same.free{H H':Hp}(e:Same H H'){l:Addr}(h:H' l=Option.none):H l=Option.none:=by
 cases q:H l with
 |none=>rfl
 |some o =>rw[e l o q]at h;cases h
theorem Same.seq{K:PySem.W.Frag}{H H':Hp}{a:Addr}{xs:List V}(e:Same H H')(h:SqL K H a xs):SqL K H' a xs:=by
 rcases h with(h |⟨o,h⟩) |h
 ·exact .inl (.inl (e _ _ h))
 ·exact .inl (.inr ⟨o,e _ _ h⟩)
 ·exact .inr h
end L2
set_option maxHeartbeats 4000000
namespace L2
open PySem PySem.Spec PyProof.Rows
noncomputable def fL(X:Cx)(N:List Str)(scope:Scope)(cl:List (Str×Addr))(C:Addr)(s₀:Shared)(H₀:Hp)(ex:List Addr):Cx where
 prog:=X.prog
 w:=X.w
 K:=X.K
 mg:=X.mg
 base:=X.base
 A:=X.A
 N:=N
 s₀:=s₀
 H₀:=H₀
 env:=compEnvC scope cl C X.env
 outer:=X.stack
 stack:=X.stack
 ex:=ex
 fn:=λ_=>false
 calm:=X.calm
 pn:=[]
 xe:=λ_ _=>False
structure CompOk(X:Cx)(fr:List Str)(js:List Nat)(scope:Scope)(cl:List (Str×Addr)):Prop where
 clos:closureFor scope X.env=pure cl
 cell:∀y∈scope.names,y.2≠.cell
 kind:scope.kind=.function
 names:∀y∈scope.names,y.2=.local->scope.names.lookup y.1=some .local
 clin:∀p∈cl,X.env.cells.lookup p.1=some p.2
 has:scope.names.all (λp=>p.2 != .free || (cl.lookup p.1).isSome)=true
 fre:Paired (λ(x:Str) (j:Nat)=>X.N[j]?=some x/\(X.env.scope.names.lookup x=some .cell\/X.env.scope.names.lookup x=some .free)/\scope.names.lookup x=some .free) fr js
theorem qU{env:Env}{x:Str}{k':NameKind}:∀{names:List (Str×NameKind)},
 (names.map λ(n,k)=>if(k == NameKind.free&&env.scope.kind == .function&&env.kindOf n == some .cell)then(n,NameKind.cell)else(n,k)).lookup x=some k' ->
 ∃k,names.lookup x=some k/\(k'=k\/(k=.free/\k'=.cell))
 | [],h=>by simp at h
 | (n,k)::r,h=>by
  have ih:=@qU env x k' r;change List.lookup x ((if(k == NameKind.free&&env.scope.kind == .function&&env.kindOf n == some .cell)=true then(n,NameKind.cell)else(n,k))::_)=_ at h
  by_cases hc:(k == NameKind.free&&env.scope.kind == .function&&env.kindOf n == some .cell)=true
  ·rw[if_pos hc]at h;cases hx:x == n with
   |true =>simp only[L5,hx]at h ⊢;cases h;refine⟨k,rfl,.inr ⟨?_,rfl⟩⟩;simp only[Mo,beq_iff_eq]at hc;exact hc.1.1
   |false =>simp only[L5,hx]at h ⊢;exact ih h
  ·rw[if_neg hc]at h;cases hx:x == n with
   |true =>simp only[L5,hx]at h ⊢;cases h;exact⟨_,rfl,.inl rfl⟩
   |false =>simp only[L5,hx]at h ⊢;exact ih h
theorem vM{env:Env}{x:Str}:∀{names:List (Str×NameKind)},names.lookup x=some .free ->
 (names.map λ(n,k)=>if(k == NameKind.free&&env.scope.kind == .function&&env.kindOf n == some .cell)then(n,NameKind.cell)else(n,k)).lookup x=some .cell \/
 (names.map λ(n,k)=>if(k == NameKind.free&&env.scope.kind == .function&&env.kindOf n == some .cell)then(n,NameKind.cell)else(n,k)).lookup x=some .free
 | [],h=>by simp at h
 | (n,k)::r,h=>by
  have ih:=@vM env x r;show List.lookup x ((if(k == NameKind.free&&env.scope.kind == .function&&env.kindOf n == some .cell)=true then(n,NameKind.cell)else(n,k))::_)=_\/List.lookup x ((if(k == NameKind.free&&env.scope.kind == .function&&env.kindOf n == some .cell)=true then(n,NameKind.cell)else(n,k))::_)=_;by_cases hc:(k == NameKind.free&&env.scope.kind == .function&&env.kindOf n == some .cell)=true
  ·rw[if_pos hc];cases hx:x == n with
   |true=>simp only[L5,hx];exact .inl trivial
   |false=>simp only[L5,hx]at h ⊢;exact ih h
  ·rw[if_neg hc];cases hx:x == n with
   |true =>simp only[L5,hx]at h ⊢;cases h;exact .inr rfl
   |false=>simp only[L5,hx]at h ⊢;exact ih h
noncomputable def gK(n:Nat)(js:List Nat)(σ:St):St:=List.replicate n none++js.map λj=>(σ[j]?).join
def nV(n:Nat)(js:List Nat)(g:TG)(te:TE)(σ:St)(Q:VK)(J:It)(H1:Hp):Prop:=∃W:Nat->Nat->List V->St->Hp->Prop,(∃m,W 0 m [] (gK n js σ) H1) /\
 ∀i m ys σ' H',W i m ys σ' H' ->
  (J.stop i H'/\∀p,H' p=none->Q (.ref p) (upd H' p (.lst ys))) \/
  (J.go i H'/\ys.length<sizeLine/\∃N:V->St->Hp->Prop,(∀y σ'' H'',N y σ'' H''->∃m',m'<m/\W (i+1) m' (ys++[y]) σ'' H'')/\∀x H2,J.yld i H' x H2->g x σ' H2 λσ3 H3=>te σ3 H3 λy H4=>N y σ3 H4)
def tJ(n:Nat)(js:List Nat)(wi:TI)(g:TG)(te:TE):TE:=λσ H Q=>wi σ H λJ H1=>nV n js g te σ Q J H1
noncomputable def HD(X:Cx)(pins:List (Addr×Obj))(σ:St)(Q:VK)(D C:Addr)(s':Shared):Prop :=
 ∃H2,Inv X pins σ H2 s'/\Q (.ref D) H2/\H2 C=none/\C≠X.env.locals/\X.s₀.heap.objs.size<=C/\(∀x c,X.env.cells.lookup x=some c->c≠C)/\(∀p∈X.pn++pins,p.1≠C)/\∃m,s'.heap.Ns C m
section
variable {X:Cx}{own fr:List Str}{js:List Nat}{scope:Scope}{cl:List (Str×Addr)}{elt target iter:Expr}{pos:Pos}{wi:TI}{g:TG}{te:TE}
theorem gM(O:CompOk X fr js scope cl){x:Str}{c:Addr}(e:cl.lookup x=some c):X.env.cells.lookup x=some c:=O.clin (x,c) (PySem.mem_of_lookup e)
theorem yA{pins:List (Addr×Obj)}{σ:St}{H:Hp}{s:Shared}{fp:List Addr}{C:Addr}(O:CompOk X fr js scope cl)(I:Inv X pins σ H s)(hC:s.heap.objs.size<=C)(hf:∀b∈fp,fQ X pins H b)(ho:∀b∈fp,b<s.heap.objs.size) :
 (fL X (own++fr) scope cl C s H fp).Ok:=by
 refine⟨I.ok.mod,O.kind,I.ok.glob,I.ok.blt,hC,λx y c h1 h2=>I.ok.inj x y c (gM O h1) (gM O h2),λx hx=>?_,λx c h=>(by cases h),I.ok.hd,I.ok.frames,.inl rfl,λb hb=>?_,I.bs,?_,λb o e hb=>?_,λb hb hb'=>?_,I.stack,I.stkFree⟩
 ·have key:scope.names.lookup x=some .free:=by
   have hx':(scope.names.map λ(n,k)=>if(k == NameKind.free&&X.env.scope.kind == .function&&X.env.kindOf n == some .cell)then(n,NameKind.cell)else(n,k)).lookup x=some .cell \/
    (scope.names.map λ(n,k)=>if(k == NameKind.free&&X.env.scope.kind == .function&&X.env.kindOf n == some .cell)then(n,NameKind.cell)else(n,k)).lookup x=some .free:=hx
   rcases hx' with h |h
   ·obtain⟨k,e,z⟩:=qU h;rcases z with z |⟨z,_⟩
    ·subst z;exact absurd rfl (O.cell _ (PySem.mem_of_lookup e))
    ·subst z;exact e
   ·obtain⟨k,e,z⟩:=qU h;rcases z with z |⟨_,z⟩
    ·subst z;exact e
    ·cases z
  have hm:=Mp.mp O.has _ (PySem.mem_of_lookup key);have hs:(cl.lookup x).isSome=true:=by simpa using hm
  exact Option.isSome_iff_exists.mp hs
 ·obtain⟨f0,f1,f2,f3,f4,f5⟩:=hf b hb;exact⟨Lh (Lg (ho b hb) hC),λx c e=>f4 x c (gM O e)⟩
 ·exact KZ I.ok.bsz I.sz
 ·obtain⟨f0,f1,f2,f3,f4,f5⟩:=hf b hb;rcases f3 with z |z
  ·exact I.ok.noex b o e z
  ·exact absurd (Lg (Heap.lt_size e) (KZ I.ok.bsz z)) (LJ _)
 ·obtain⟨f0,f1,f2,f3,f4,f5⟩:=hf b hb;rcases KS.mp (I.stkSub b hb')with z |z
  ·exact f1 z
  ·exact f2 z
theorem Paired.idx{α β:Type}{F:α->β->Prop}:∀{l₁:List α} {l₂:List β},Paired F l₁ l₂->∀(i:Nat) (a:α) (b:β),l₁[i]?=some a->l₂[i]?=some b->F a b
 |_,_,.nil,_,_,_,h,_=>by simp at h
 |_,_,.cons r _,0,a,b,h1,h2=>by simp at h1 h2;subst h1;subst h2;exact r
 |_,_,.cons _ t,i+1,a,b,h1,h2=>Paired.idx t i a b (by simpa using h1) (by simpa using h2)
theorem GV{pins:List (Addr×Obj)}{σ:St}{H:Hp}{s s':Shared}{fp:List Addr}{C:Addr}{m:Str->Option Value}(O:CompOk X fr js scope cl)(hl:fr.length=js.length)(I:Inv X pins σ H s)(hC:s.heap.objs.size<=C)(hf:∀b∈fp,fQ X pins H b)
 (ho:∀b∈fp,b<s.heap.objs.size) (os:s'.os=s.os) (hg:s'.gens=s.gens) (old:∀b o,s.heap.get? b=some o->s'.heap.get? b=some o) (hn:s'.heap.Ns C m) :
 Inv (fL X (own++fr) scope cl C s H fp) [] (gK own.length js σ) H s':=by
 refine⟨yA O I hC hf ho,os,by rw[hg];exact I.bare,Un.kept old,⟨m,hn,λi x v e1 e2 e3=>?_⟩,λx c e=>?_,I.hok.fresh hC,λx c e=>I.freeC x c (gM O e),λp hp=>absurd (show p∈([]:List (Addr×Obj))from hp) (by simp),I.hok.kept old,?_⟩
 ·unfold gK at e2
  have e1':(own++fr)[i]?=some x:=e1;by_cases hi:i<own.length
  ·rw[List.getElem?_append_left (by simpa using hi),List.getElem?_replicate]at e2;split at e2<;>cases e2
  ·have hi':own.length<=i:=LA hi;rw[List.getElem?_append_right (by simpa using hi'),MN,List.getElem?_map]at e2;rw[List.getElem?_append_right hi']at e1';cases ej:js[i-own.length]? with
   |none=>rw[ej]at e2;cases e2
   |some j =>
    rw[ej]at e2;have e2':(σ[j]?).join=some v:=Option.some.inj e2
    have eσ:σ[j]?=some (some v):=by
     cases q:σ[j]? with
     |none=>rw[q]at e2';cases e2'
     |some o=>rw[q]at e2';simp at e2';rw[e2']
    obtain⟨hN,hk,hs⟩:=Paired.idx O.fre _ x j e1' ej;obtain⟨mo,hmo,hlo⟩:=I.loc;have vis:Vis X.env.scope x:=hk.elim (λz=>.inr (.inl z)) λz=>.inr (.inr z)
    obtain⟨u,r,l⟩:=hlo j x v hN eσ vis;refine⟨u,r,.inr ⟨vM hs,?_⟩⟩;have hm:=Mp.mp O.has _ (PySem.mem_of_lookup hs);have hs':(cl.lookup x).isSome=true:=by simpa using hm
    obtain⟨c,ec⟩:=Option.isSome_iff_exists.mp hs';refine⟨c,ec,?_⟩;rcases l with⟨k,_⟩ |⟨_,c',e',z⟩
    ·have k':X.env.scope.names.lookup x=some .local:=k;rcases hk with q |q<;>(rw[q]at k';cases k')
    ·have:=gM O ec;rw[e']at this;cases this;obtain⟨oc,hoc,hd⟩:=z;exact⟨oc,old _ _ hoc,hd⟩
 ·obtain⟨v,oc,hoc,hd⟩:=I.cell x c (gM O e);exact⟨v,oc,old _ _ hoc,hd⟩
 ·unfold gK;show _=(own++fr).length;rw[Lb,Lb,MN,KF,hl]
theorem Un.adopt{fs ex:List Addr}{H H1:Hp}{h h1:Heap}{a:Addr}{o:HO}(u:Un fs ex H H1 h h1)(ha:h.objs.size<=a)(hn:H a=none):Un fs ex H (upd H1 a o) h h1 where
 keep:=u.keep
 slot:=u.slot
 free:=λb ob q n hx=>by rw[upd_ne (Lh (Lg (Heap.lt_size q) ha))];exact u.free b ob q n hx
 there:=u.there
 tups:=λb xs q=>by rw[upd_ne (aX q hn)];exact u.tups b xs q
 frzs:=λb ob xs q=>by rw[upd_ne (aX q hn)];exact u.frzs b ob xs q
 tbls:=λb ps q=>by rw[upd_ne (aX q hn)];exact u.tbls b ps q
theorem HOk.adopt{P:Program}{w:World}{H:Hp}{h:Heap}{a:Addr}{o:HO}(x:HOk P w H h)(hn:H a=none)(new:ObjOk P w (upd H a o) h a o):HOk P w (upd H a o) h:=λb u e=>by
 by_cases hb:b=a
 ·subst hb;rw[ay]at e;cases e;exact new
 ·rw[upd_ne hb]at e;exact(x b u e).stay (λc v _ q=>q) (λc q=>by rw[upd_ne (aX q hn)];exact q) λc xs q=>by rw[upd_ne (aX q hn)];exact q
theorem yG{pins:List (Addr×Obj)}{σ:St}{H:Hp}{s:Shared}{fp:List Addr}{it:Addr}{tn:Nat->Heap->Prop}{J:It}{E:Value->Shared->Prop}{Q:VK}{RR:Value->Addr->Result->Shared->Prop}(O:CompOk X fr js scope cl)(hl:fr.length=js.length)(hcm:X.calm=true)
 (I:Inv X pins σ H s) (T:Turn X.prog X.w X.K target J fp it tn) (st:tn 0 s.heap) (hf:∀b∈fp,fQ X pins H b)
 (hg:∀C s₀ H₀ ex,PG (fL X (own++fr) scope cl C s₀ H₀ ex) target g) (he:∀C s₀ H₀ ex,PE (fL X (own++fr) scope cl C s₀ H₀ ex) elt te)
 (W:Nat->Nat->List V->St->Hp->Prop) {m0:Nat} (w0:W 0 m0 [] (gK own.length js σ) H)
 (turn:∀i m ys σ' H',W i m ys σ' H' ->
   (J.stop i H'/\∀p,H' p=none->Q (.ref p) (upd H' p (.lst ys))) \/
   (J.go i H'/\ys.length<sizeLine/\∃N:V->St->Hp->Prop,(∀y σ'' H'',N y σ'' H''->∃m',m'<m/\W (i+1) m' (ys++[y]) σ'' H'')/\∀x H2,J.yld i H' x H2->g x σ' H2 λσ3 H3=>te σ3 H3 λy H4=>N y σ3 H4))
 (hRR:∀D C s',HD X pins σ Q D C s'->RR (.ref D) C (.ok .next) s') :
 wpAny (model X.prog X.w) X.A (newList []) (λacc s₃=>wpAny (model X.prog X.w) X.A (newFunctionEnv scope X.env.globals cl [] X.env.qual none .none (some X.env)) (λcenv s₄ =>
  codeAny (model X.prog X.w) X.A (.compStart (.ListComp elt [⟨target,iter,[],0⟩] scope pos) 0 (.ref it) acc { cenv with scope:=relabel scope X.env }) (RR acc cenv.locals) s₄) E s₃) E s:=by
 refine wpAny_newObj_type (wpAny_newFunctionEnv O.cell (by intro y hy;simp at hy) (λh₁ hns₁ hsb₁=>?_) O.kind);dsimp only at hns₁ hsb₁ ⊢
 generalize hH2:s.heap.push { cls:=.type "list",dict:=none,data:=.seq ([]:List Value).toArray }=H2 at hns₁ hsb₁ ⊢
 have hCs:H2.objs.size=s.heap.objs.size+1:=by rw[<- hH2,Heap.size_push]
 have hDC:s.heap.objs.size≠H2.objs.size:=by rw[hCs];exact Lh (LK _)
 have hCge:s.heap.objs.size<=H2.objs.size:=by rw[hCs];exact Nat.le_succ _
 have below:∀b,b<s.heap.objs.size->b≠H2.objs.size/\b≠s.heap.objs.size:=λb hb=>⟨by rw[hCs];exact Lh (Nat.lt_succ_of_lt hb),Lh hb⟩
 have old:∀b o,s.heap.get? b=some o->h₁.get? b=some o:=λb o e=>hsb₁.extBut b o (below b (Heap.lt_size e)).1 (Heap.get?_push_of_some _ (hH2 ▸ Heap.get?_push_of_some _ e))
 have hacc:h₁.get? s.heap.objs.size=some { cls:=.type "list",data:=.seq ([]:List Value).toArray 0 }:=hsb₁.extBut _ _ hDC (Heap.get?_push_of_some _ (hH2 ▸ Heap.get?_push_size _ rfl));have ho:∀b∈fp,b<s.heap.objs.size:=λb hb=>by obtain⟨o,e,_⟩:=T.obj 0 _ st b hb;exact Heap.lt_size e
 generalize hDe:s.heap.objs.size=D at *
 generalize hCe:H2.objs.size=C at *
 let X':Cx:=fL X (own++fr) scope cl C s H fp
 have ok':X'.Ok:=yA O I (by rw[hDe];exact hCge) hf (by rw[hDe];exact ho)
 have hDfs:D∉X'.fs:=by
  intro z;rcases KS.mp (I.stkSub D z)with q |q
  ·exact absurd I.lt (by rw[<- q,hDe];exact LJ _)
  ·exact I.nofs (L3 hDe) q
 have hDfp:∀b∈fp,D≠b:=λb hb z=>absurd (ho b hb) (by rw[z];exact LJ _)
 have hDcell:∀x c,cl.lookup x=some c->c≠D:=λx c e z=>by obtain⟨v,q⟩:=I.cell x c (gM O e);exact absurd q.lt (by rw[z,hDe];exact LJ _)
 have fpok:∀{H':Hp} {pins':List (Addr×Obj)},(∀p∈pins',p.1=D)->(∀b∈fp,H' b=none)->∀b∈fp,fQ X' pins' H' b:=λ{H' pins'} hp hn b hb=>by
  obtain⟨f0,f1,f2,f3,f4,f5⟩:=hf b hb;refine⟨hn b hb,(below b (ho b hb)).1,λz=>?_,.inl hb,λx c e=>f4 x c (gM O e),λp hp'=>?_⟩
  ·rcases KS.mp (I.stkSub b z)with q |q
   ·exact f1 q
   ·exact f2 q
  ·have hp'':p∈pins':=by simpa[X',fL]using hp'
   rw[hp p hp''];exact hDfp b hb
 have loop:∀s₃:Shared,s₃={ s with heap:=h₁,toks:=s.toks+([]:List (Str×Value)).length } ->
  codeAny (model X.prog X.w) X.A (.compLoop (.ListComp elt [⟨target,iter,[],0⟩] scope pos) 0 (.ref it) (.ref D) (compEnvC scope cl C X.env)) (RR (.ref D) C) s₃:=by
  rintro s₃ rfl
  refine PySem.W.kcp_loop (λk s'=>∃i σ' H' ys its nn,Inv X' [] σ' H' s'/\tn i s'.heap/\(∀b∈fp,H' b=none)/\H' D=none/\s'.heap.get? D=some { cls:=.type "list",data:=.seq (its:List Value).toArray nn }/\Vals ys its/\ys.length<=sizeLine/\W i k ys σ' H') ?_ m0
   ⟨0,_,H,[],[],0,GV O hl I (by rw[hDe];exact hCge) hf (by rw[hDe];exact ho) rfl rfl (by intro b o e;exact old b o e) hns₁,T.keep _ _ _ st λb _ o e=>old b o e,λb hb=>(hf b hb).1,I.hok.fresh (L3 hDe),hacc,.nil,KJ _,w0⟩
  rintro k s' ⟨i,σ',H',ys,its,nn,I',st',hfn,hDn,hDo,rv,hz,w⟩;have hlen:=rv.length;have hpD:∀p∈[(D,({ cls:=.type "list",data:=.seq its.toArray nn }:Obj))],p.1=D:=λp hp=>by rw[KP.mp hp]
  have Ip:Inv X' [(D,({ cls:=.type "list",data:=.seq its.toArray nn }:Obj))] σ' H' s':=I'.pins_of λp hp=>by rw[KP.mp hp];exact⟨hDo,hDn,hDC,hDfs,λv z=>by cases z⟩
  rcases turn i k ys σ' H' w with⟨stop,fin⟩ |⟨go,hlt,N,hN,step⟩
  ·refine wpAny_mono (T.done X' rfl rfl rfl hcm i _ s' σ' H' (λ_ _=>False) Ip (fpok hpD hfn) st' stop) (λr s4 ⟨hr,I4⟩=>?_) λ_ _ z=>False.elim z
   subst hr;refine hRR D C s4 ?_;have hD4:s4.heap.get? D=some { cls:=.type "list",data:=.seq its.toArray nn }:=(I4.pin _ (Lz _ (KP.mpr rfl))).1;have un:Un (frs X.stack) fp H (upd H' D (.lst ys)) s.heap s4.heap:=Un.adopt I4.base (L3 hDe) (I.hok.fresh (L3 hDe));have hok:HOk X.prog X.w (upd H' D (.lst ys)) s4.heap:=HOk.adopt I4.hok hDn ⟨hz,its,nn,rv,hD4⟩;refine⟨upd H' D (.lst ys),I.call' I4.os un hok I4.bare λb hb=>?_,fin D hDn,?_,?_,?_,λx c e z=>?_,λp hp z=>?_,?_⟩
   ·obtain⟨f0,f1,f2,f3,f4,f5⟩:=hf b hb;exact⟨f3,f1,f4,f5⟩
   ·rw[upd_ne (Ne.symm hDC)];exact I4.free
   ·exact Nat.ne_of_gt (Lg I.lt (by rw[hDe];exact hCge))
   ·exact KZ I.sz (by rw[hDe];exact hCge)
   ·obtain⟨v,q⟩:=I.cell x c e;exact absurd (Lg q.lt (by rw[hDe,z];exact hCge)) (LJ _)
   ·exact absurd (Lg (Heap.lt_size (I.pin p hp).1) (by rw[hDe,z];exact hCge)) (LJ _)
   ·obtain⟨m',hn',_⟩:=I4.loc;exact⟨m',hn'⟩
  ·refine wpAny_mono (T.item X' rfl rfl rfl hcm i _ s' σ' H' (λ_ _=>False) Ip (fpok hpD hfn) st' go) (λr s4 ⟨u,hr,h4⟩=>?_) λ_ _ z=>False.elim z
   subst hr;refine wpAny_mono h4 (λ_ s5 ⟨x,H5,I5,r5,y5,st5,fr5⟩=>?_) λ_ _ z=>False.elim z
   have I5':=I5.pinned (fpok hpD fr5) (T.obj _ _ st5);refine wpAny_mono (hg C s H fp _ s5 σ' H5 x u _ I5' r5 (step x H5 y5)) (λ_ s6 ⟨σ6,H6,I6,q6⟩=>?_) λ_ _ z=>False.elim z
   refine wpAny_mono (he C s H fp _ s6 σ6 H6 _ I6 q6) (λv s7 ⟨y,H7,I7,r7,n7⟩=>?_) λ_ _ z=>False.elim z
   obtain⟨m',hm',w7⟩:=hN y σ6 H7 n7;have hD7:=I7.pin (D,{ cls:=.type "list",data:=.seq its.toArray nn }) (Lz _ (Mm _ (KP.mpr rfl)));refine append_at hD7.1 (λh8 sb hD8=>?_) (by rw[K0,<- hlen];exact hz);have I7':Inv X' [] σ6 H7 s7:=I7.pins_of λp hp=>absurd hp (by simp)
   have I8:Inv X' [] σ6 H7 { s7 with heap:=h8 }:=I7'.turned (t':=s7.toks) (it:=D) (λb o hb e=>(sb.2 b hb).trans e) hD7.2.1 hDC (.inr (L3 hDe)) hDcell (λp hp=>absurd (show p∈([]:List (Addr×Obj))from hp) (by simp));refine⟨m',hm',i+1,σ6,H7,ys++[y],its++[v],nn+1,I8,T.keep _ _ _ st5 λb hb o e=>?_,λb hb=>?_,hD7.2.1,?_,rv.append (.cons r7 .nil),?_,w7⟩
   ·exact(sb.2 b (λz=>hDfp b hb z.symm)).trans (I7.pin (b,o) (Lz _ (Lz _ (mX hb e)))).1
   ·obtain⟨o,e,d⟩:=T.obj _ _ st5 b hb;exact(I7.pin (b,o) (Lz _ (Lz _ (mX hb e)))).2.1
   ·rw[hD8,List.push_toArray]
   ·rw[Lb,List.length_singleton];exact hlt
 exact codeAny_compStart_list (loop _ rfl) (T.self _ 0 _ _ _ (T.keep _ _ _ st λb _ o e=>old b o e) (loop _ rfl))
theorem f9(O:CompOk X fr js scope cl)(hcm:X.calm=true)(hi:PI X target iter wi)(hg:∀C s₀ H₀ ex,PG (fL X (own++fr) scope cl C s₀ H₀ ex) target g)(he:∀C s₀ H₀ ex,PE (fL X (own++fr) scope cl C s₀ H₀ ex) elt te)
 (hs:∀x,foldedSetIterable iter X.env x=pure x:=by intro _;rfl):PE X (.ListComp elt [⟨target,iter,[],0⟩] scope pos) (tJ own.length js wi g te):=by
 intro pins s σ H Q I h;rw[eval_ListComp];refine wpAny_comprehension_free (use:=none) rfl hs O.clos O.kind O.names (thn (hi pins s σ H _ I h) λx s1 h1=>thn h1 λitv s2 h2=>?_);obtain⟨it,fp,tn,J,H2,rfl,I2,T,st,hf,W,⟨m0,w0⟩,turn⟩:=h2;refine yG (RR:=λacc C=>compPost (model X.prog X.w) X.A X.xe none (EP X pins σ Q) acc C) O (Paired.length O.fre) hcm I2 T st hf hg he W w0 turn ?_;rintro D C s' ⟨H3,I3,q,c1,c2,c3,c4,c5,m,hn⟩;exact⟨m,hn,λh' sb=>⟨.ref D,H3,I3.turned (t':=s'.toks) (it:=C) (λb o hb e=>(sb.2 b hb).trans e) c1 c2 (.inr c3) c4 c5,rfl,q⟩⟩
theorem wa{i:Nat}{y:Str}{py spos:Pos}(hN:X.N.Nodup)(hy:X.N[i]?=some y)(hly:Loc X.env.scope y)(O:CompOk X fr js scope cl)(hcm:X.calm=true)(hi:PI X target iter wi)(hg:∀C s₀ H₀ ex,PG (fL X (own++fr) scope cl C s₀ H₀ ex) target g)
 (he:∀C s₀ H₀ ex,PE (fL X (own++fr) scope cl C s₀ H₀ ex) elt te) (hsw:swapsWith (.ListComp elt [⟨target,iter,[],0⟩] scope pos) (some (.Name y py)) spos.line X.env=pure true)
 (hf:X.fn y=true\/X.env.scope.names.lookup y=some .local:=by first |exact .inl rfl |exact .inr rfl |assumption) (hs:∀x,foldedSetIterable iter X.env x=pure x:=by intro _;rfl) :
 PS X (.Assign [.Name y py] (.ListComp elt [⟨target,iter,[],0⟩] scope pos) spos) (fB (tJ own.length js wi g te) (dW i)):=by
 intro pins s σ H D I h;rw[exec_Assign_Name_used _ _ _ _ hsw];refine wpAny_bind (wpAny_standAt (wpAny_bind ?_));show wpAny _ X.A (do let _ <- comprehension (.ListComp elt [⟨target,iter,[],0⟩] scope pos) scope X.env _ (newList []) false (eval iter X.env) (some (assign (.Name y py) X.env))) _ _ s
 refine wpAny_bind (wpAny_mono (wpAny_comprehension_free (use:=some (assign (.Name y py) X.env)) (Q:=λ_ s'=>SP X pins D .next s') rfl hs O.clos O.kind O.names
  (thn (hi pins s σ H _ I h) λx s1 h1=>thn h1 λitv s2 h2=>?_)) (λ_ s' hq=>wpAny_pure (wpAny_pure hq)) λ_ _ e=>e)
 obtain⟨it,fp,tn,J,H2,rfl,I2,T,st,hfp,W,⟨m0,w0⟩,turn⟩:=h2;refine yG (Q:=λx H1=>dW i x σ H1 D.nx) (RR:=λacc C=>compPost (model X.prog X.w) X.A X.xe (some (assign (.Name y py) X.env)) (λ_ s'=>SP X pins D .next s') acc C) O (Paired.length O.fre) hcm I2 T st hfp hg he W w0 turn ?_;rintro DD C s' ⟨H3,I3,q,c1,c2,c3,c4,c5,m,hn⟩;show wpAny _ _ (assign (.Name y py) X.env (.ref DD)) _ _ s';refine wpAny_assign_Name (tP I3 hN hy hly (v:=.ref DD) rfl (λs4 I4 ⟨a,sb,ha⟩=>?_) hf)
 have hCa:C≠a:=by
  rcases ha with rfl |ha
  ·exact c2
  ·exactλz=>c4 y a ha z.symm
 refine⟨m,hn.sameBut sb hCa,λh' sb'=>⟨_,H3,I4.turned (t':=s4.toks) (it:=C) (λb o hb e=>(sb'.2 b hb).trans e) c1 c2 (.inr c3) c4 c5,q⟩⟩
end
theorem jH{n:Nat}{js:List Nat}{K:PySem.W.Frag}{a:Addr}{xs:List V}{g:TG}{te:TE}{σ0:St}{H:Hp}{Q:VK}(Pv:Nat->List V->St->Hp->Prop)(hz:xs.length<=sizeLine)(h0:Pv 0 [] (gK n js σ0) H)(hl:∀i ys σ H,i<=xs.length->Pv i ys σ H->SqL K H a xs/\ys.length<=i)
 (hs:∀i x ys σ H,xs[i]?=some x->Pv i ys σ H->g x σ H λσ2 H2=>te σ2 H2 λy H3=>Pv (i+1) (ys++[y]) σ2 H3) (hd:∀ys σ H p,Pv xs.length ys σ H->H p=none->Q (.ref p) (upd H p (.lst ys))) :
 nV n js g te σ0 Q (Itl K a) H:=by
 refine⟨λi m ys σ H=>m=xs.length-i/\i<=xs.length/\Pv i ys σ H,⟨xs.length,by simp,KJ _,h0⟩,?_⟩;rintro i m ys σ H ⟨rfl,hi,p⟩;obtain⟨q,hy⟩:=hl i ys σ H hi p;by_cases hlt:i<xs.length
 ·refine .inr ⟨⟨xs,xs[i],q,by simp[hlt]⟩,by omega,λy σ'' H''=>Pv (i+1) (ys++[y]) σ'' H'',λy σ' H' p'=>⟨xs.length-(i+1),by omega,rfl,hlt,p'⟩,λx H' y=>?_⟩;obtain⟨e,y⟩:=y;subst e;exact hs i x ys σ _ (y xs q) p
 ·have e:i=xs.length:=by omega
  subst e;exact .inl ⟨⟨xs,q,KH _⟩,λr hr=>hd ys σ H r p hr⟩
theorem nK{k:Nat}{js:List Nat}{lo:Int}{n:Nat}{g:TG}{te:TE}{σ0:St}{H:Hp}{Q:VK}(Pv:Nat->List V->St->Hp->Prop)(hz:n<=sizeLine)(h0:Pv 0 [] (gK k js σ0) H)(hl:∀i ys σ H,i<=n->Pv i ys σ H->ys.length<=i)
 (hs:∀i ys σ H,i<n->Pv i ys σ H->g (.int (lo+i)) σ H λσ2 H2=>te σ2 H2 λy H3=>Pv (i+1) (ys++[y]) σ2 H3) (hd:∀ys σ H p,Pv n ys σ H->H p=none->Q (.ref p) (upd H p (.lst ys))) :
 nV k js g te σ0 Q (Itr lo n) H:=by
 refine⟨λi m ys σ H=>m=n-i/\i<=n/\Pv i ys σ H,⟨n,by simp,KJ _,h0⟩,?_⟩;rintro i m ys σ H ⟨rfl,hi,p⟩;have hy:=hl i ys σ H hi p;by_cases hlt:i<n
 ·refine .inr ⟨hlt,by omega,λy σ'' H''=>Pv (i+1) (ys++[y]) σ'' H'',λy σ' H' p'=>⟨n-(i+1),by omega,rfl,hlt,p'⟩,λx H' y=>?_⟩;obtain⟨e,y⟩:=y;subst e y;exact hs i ys σ _ hlt p
 ·have e:i=n:=by omega
  subst e;exact .inl ⟨KH _,λr hr=>hd ys σ H r p hr⟩
def Bits(k:Nat)(i:Int):Prop:=i.natAbs<2^k
theorem Bits.mono{j k:Nat}{i:Int}(h:Bits j i)(hk:j<=k:=by decide):Bits k i:=Lg h (Mf (by decide) hk)
theorem Bits.mul{j k:Nat}{a b:Int}(ha:Bits j a)(hb:Bits k b):Bits (j+k) (a*b):=by
 unfold Bits at *
 rw[Lj,Nat.pow_add];exact Nat.mul_lt_mul_of_lt_of_lt ha hb
theorem Bits.add{k:Nat}{a b:Int}(ha:Bits k a)(hb:Bits k b):Bits (k+1) (a+b):=by
 unfold Bits at *
 have:=Int.natAbs_add_le a b;rw[Nat.pow_succ];omega
theorem Bits.neg{k:Nat}{a:Int}(ha:Bits k a):Bits k (-a):=by unfold Bits at *;rwa [Int.natAbs_neg]
theorem Bits.sub{k:Nat}{a b:Int}(ha:Bits k a)(hb:Bits k b):Bits (k+1) (a-b):=by rw[Int.sub_eq_add_neg];exact ha.add hb.neg
theorem Bits.of_le{k:Nat}{a b:Int}(hb:Bits k b)(h:a.natAbs<=b.natAbs):Bits k a:=MO h hb
theorem Bits.zero{k:Nat}:Bits k 0:=Nat.pow_pos (by decide)
theorem Bits.log{k:Nat}{i:Int}(h:Bits k i)(hk:0<k):i.natAbs.log2<k:=by
 by_cases h0:i.natAbs=0
 ·rw[h0];simpa using hk
 ·exact(Nat.log2_lt h0).mpr h
theorem Bits.int{k:Nat}{i:Int}(h:Bits k i)(hk:k<=1000000):Builtin.Int.intBits i<=2^20:=by
 have e:(2:Nat)^20=1048576:=by decide
 unfold Builtin.Int.intBits;split
 ·exact KJ _
 ·rename_i hn
  have h0:i.natAbs≠0:=by intro z;have:i=0:=Int.natAbs_eq_zero.mp z;exact hn (by simp[this])
  have:=(Nat.log2_lt h0).mpr h;omega
section
variable {X:Cx}{a b:Expr}{ta tb:TE}{pos:Pos}
def Iw(i j:Int):Prop:=Bits 1000000 i/\Bits 1000000 j
theorem aD:OpR X (binaryOp .Mult) (rI Iw λi j=>.int (i*j)):=opI λ_ _ _ _ _ _ _ hc q=>mul_int q (.of_bits (hc.1.int (KH _)) (hc.2.int (KH _)))
theorem bZ:OpR X (binaryOp .Mod) (rI (λ_ j=>0<j) λi j=>.int (i%j)):=CK
def Ix(_ j:Int):Prop:=0<j/\Bits 9000 j
theorem il:OpR X (binaryOp .FloorDiv) (rI Ix λi j=>.int (i/j)):=opI λi j _ _ _ _ _ hc q=>by refine floordiv_int (Ln hc.1) ?_ (.inl (PyProof.noPylong_of_log2 (hc.2.log (by decide))));rw[Int.fdiv_eq_ediv_of_nonneg _ (KI hc.1)];exact q
def Iy(_ j:Int):Prop:=j≠0/\Bits 9000 j
theorem wF:OpR X (binaryOp .FloorDiv) (rI Iy λi j=>.int (i.fdiv j)):=opI λ_ _ _ _ _ _ _ hc q=>floordiv_int hc.1 q (.inl (PyProof.noPylong_of_log2 (hc.2.log (by decide))))
theorem bN:OpR X (compareOp .Eq) (rI0 λi j=>.bl (decide (i=j))):=ju λ_ _ _ _ _ _ _ q=>eq_int (by rw[Bool.beq_eq_decide_eq];exact q)
theorem ga:OpR X (compareOp .NotEq) (rI0 λi j=>.bl (!decide (i=j))):=ju λ_ _ _ _ _ _ _ q=>ne_int (by rw[bne,Bool.beq_eq_decide_eq];exact q)
def v6(K:PySem.W.Frag):R2:=λx y H Q=>∃(a b:Addr) (ns ms:List Int),x=.ref a/\y=.ref b/\SqL K H a (ns.map V.int)/\SqL K H b (ms.map V.int)/\Q (.bl (decide (ns=ms))) H
def vZ(K:PySem.W.Frag):R2:=λx y H Q=>∃(a b:Addr) (ns ms:List Int),x=.ref a/\y=.ref b/\SqL K H a (ns.map V.int)/\SqL K H b (ms.map V.int)/\Q (.bl (!decide (ns=ms))) H
theorem CL(hu:X.A.units+64<cLine):OpR X (compareOp .Eq) (v6 X.K):=by intro pins s σ H x y v u Q I rx ry h;obtain⟨a,b,ns,ms,rfl,rfl,ha,hb,q⟩:=h;cases rx;cases ry;obtain⟨i1,r1,p1,_⟩:=I.list ha;obtain⟨i2,r2,p2,_⟩:=I.list hb;exact PySem.W.eq_intsK p1.isList (jw r1) p2.isList (jw r2) hu ⟨.bl _,H,I,rfl,q⟩
theorem CH(hu:X.A.units+64<cLine):OpR X (compareOp .NotEq) (vZ X.K):=by intro pins s σ H x y v u Q I rx ry h;obtain⟨a,b,ns,ms,rfl,rfl,ha,hb,q⟩:=h;cases rx;cases ry;obtain⟨i1,r1,p1,_⟩:=I.list ha;obtain⟨i2,r2,p2,_⟩:=I.list hb;exact PySem.W.ne_intsK p1.isList (jw r1) p2.isList (jw r2) hu ⟨.bl _,H,I,rfl,q⟩
noncomputable def jh(K:PySem.W.Frag):List V->Hp->VK->Prop:=λxs H Q=>∃(x:V) (t c:Value) (n:V) (k:Bool),xs=[x,n]/\RelV n c/\(∀u,RelV n u->u=c)/\TyOf K H x t/\PySem.W.kitOne K t c=some k/\Q (.bl k) H
theorem Hg:d5 X (.builtin "isinstance") (jh X.K):=by intro pins s σ H xs us Q I r h;obtain⟨x,t,c,n,k,rfl,rn,hn,ty,e,q⟩:=h;obtain⟨u1,u2,rfl,r1,r2⟩:=r.two;obtain rfl:=hn u2 r2;exact Fn I r1 ty e λtk=>⟨.bl k,H,I.tok tk,rfl,q⟩
theorem kP{K:PySem.W.Frag}{H:Hp}{Q:VK}{x:V}{n:String}{t:Value}{k:Bool}(ty:TyOf K H x t)(e:PySem.W.kitOne K t (.type n)=some k)(q:Q (.bl k) H):jh K [x,.ty n] H Q :=
 ⟨x,t,.type n,.ty n,k,rfl,rfl,λ_ h=>h,ty,e,q⟩
theorem Fo{K:PySem.W.Frag}{H:Hp}{Q:VK}{x:V}{C:Addr}{t:Value}{k:Bool}(ty:TyOf K H x t)(e:PySem.W.kitOne K t (.ref C)=some k)(q:Q (.bl k) H):jh K [x,.ref C] H Q :=
 ⟨x,t,.ref C,.ref C,k,rfl,rfl,λ_ h=>h,ty,e,q⟩
end
section
variable {D:di}{σ:St}{H:Hp}{Q:VK}{t u:TS}{te ta tb:TE}{c:TT}{i:Nat}{v:V}{r:R2}
theorem BO(P:St->Hp->Prop)(h1:∀σ' H',P σ' H'->u D σ' H')(h2:(∀σ' H',P σ' H'->u D σ' H')->t { D with nx:=u D } σ H):b8 t u D σ H:=h2 h1
theorem dN(P:St->Hp->Prop)(h:P σ H)(h1:∀σ' H',P σ' H'->u D σ' H'):u D σ H:=h1 σ H h
theorem aA(h:te σ H λx H1=>u D (σ.set i (some x)) H1):b8 (fB te (dW i)) u D σ H:=h
theorem ie(h:te σ H λ_ H1=>u D σ H1):b8 (lK te) u D σ H:=h
theorem aU{t1:TS}(h:c σ H λb H1=>if b=true then t1 { D with nx:=u D } σ H1 else u D σ H1):b8 (jY c t1 tI) u D σ H:=h
theorem jd{K:PySem.W.Frag}{n:V}(h:ta σ H λx H1=>jh K [x,n] H1 Q):tCB (jh K) (gw ta (gw (tC n) jX)) σ H Q:=h
theorem dP{t1 t2:TS}(P:St->Hp->Prop)(h1:∀σ' H',P σ' H'->u D σ' H')(h2:(∀σ' H',P σ' H'->u D σ' H')->c σ H λb H1=>if b=true then t1 { D with nx:=u D } σ H1 else t2 { D with nx:=u D } σ H1):b8 (jY c t1 t2) u D σ H:=h2 h1
theorem bG(h:te σ H λx H1=>D.nx (σ.set i (some x)) H1):fB te (dW i) D σ H:=h
theorem aL(h:te σ H D.rt):tz te D σ H:=h
theorem vP(h:te σ H λ_ H1=>D.nx σ H1):lK te D σ H:=h
theorem fW(h:c σ H λb H1=>if b=true then t D σ H1 else u D σ H1):jY c t u D σ H:=h
theorem mJ{K:Bool->Hp->Prop}(h:te σ H λx H'=>∃k,x=.bl k/\K k H'):tB te σ H K:=h
theorem cI{K:Bool->Hp->Prop}{tt:TT}(h:tt σ H λk H1=>K (!k) H1):tH tt σ H K:=h
theorem fX{K:Bool->Hp->Prop}{t1 t2:TT}(h:t1 σ H λk H1=>if k=true then t2 σ H1 K else K false H1):tK t1 t2 σ H K:=h
theorem dM{K:Bool->Hp->Prop}{t1 t2:TT}(h:t1 σ H λk H1=>if k=true then K true H1 else t2 σ H1 K):tOr t1 t2 σ H K:=h
theorem eH(h:ta σ H λx H1=>∃k,x=.bl k/\if k=true then tb σ H1 Q else Q (.bl false) H1):ol ta tb σ H Q:=h
theorem vO(h:ta σ H λx H1=>∃k,x=.bl k/\if k=true then Q (.bl true) H1 else tb σ H1 Q):tD ta tb σ H Q:=h
theorem ko(h:ta σ H λx H1=>∃k,x=.bl k/\Q (.bl (!k)) H1):tE ta σ H Q:=h
theorem qV{tt:TT}(h:tt σ H λk H1=>if k=true then ta σ H1 Q else tb σ H1 Q):tIf tt ta tb σ H Q:=h
theorem cJ{K:List V->Hp->Prop}(h:K [] H):jX σ H K:=h
theorem dm{A B:Prop}(h:A):if true=true then A else B:=by rw[if_pos rfl];exact h
theorem bU{A B:Prop}(h:B):if false=true then A else B:=by rw[if_neg Lm];exact h
theorem aG{p A B:Prop}[Decidable p](h1:p->A)(h2:¬p->B):if decide p=true then A else B:=by
 by_cases hp:p
 ·rw[if_pos (decide_eq_true hp)];exact h1 hp
 ·rw[if_neg (by rw[decide_eq_false hp];exact Lm)];exact h2 hp
theorem cX{p A B:Prop}[Decidable p](h1:¬p->A)(h2:p->B):if(!decide p)=true then A else B:=by
 by_cases hp:p
 ·rw[if_neg (by rw[decide_eq_true hp];exact Lm)];exact h2 hp
 ·rw[if_pos (by rw[decide_eq_false hp];rfl)];exact h1 hp
end
structure Cal(P:Program)(w:World)(K:PySem.W.Frag)(mg:Str->Option Value)(base:Heap)(k:Nat)(x:Str)(ps:List Str)(sp:Sp)(f:Addr)(fd:FuncData):Prop where
 ok:FnOk P w K mg base CX0 k f fd ps sp
 mg:mg x=some (.ref f)
 kp:PySem.W.keepIn K (.ref f)=true
 bd:Binds K fd ps []
theorem Same.upd_new{H:Hp}{p:Addr}{o:HO}(h:H p=none):Same H (upd H p o):=λb u e=>by rw[upd_ne (aX e h)];exact e
theorem Same.then_new{H H1:Hp}{p:Addr}{o:HO}(s:Same H H1)(h:H1 p=none):Same H (upd H1 p o):=s.trans (Same.upd_new h)
theorem Same.ne{H H1:Hp}{a p:Addr}{o:HO}(s:Same H H1)(e:H a=some o)(h:H1 p=none):a≠p:=aX (s a o e) h
section
variable {X:Cx}{K:PySem.W.Frag}
theorem Fl(h:X.K=K):IxR X (mM K):=by subst h;exact Fm
theorem Fj(h:X.K=K):IxR X (jf K):=by subst h;exact Fk
theorem mi(h:X.K=K):SlR X (mL K):=by subst h;exact AD
noncomputable def v5(K:PySem.W.Frag):List V->Hp->VK->Prop:=λxs H Q=>∃p ys,xs=[.ref p]/\(SqL K H p ys\/SqT K H p ys)/\Q (.int ys.length) H
theorem G9(h:X.K=K):d5 X (.builtin "len") (v5 K):=by subst h;exact G8
noncomputable def B0(K:PySem.W.Frag):List V->Hp->VK->Prop:=λxs H Q=>∃p ys,xs=[.ref p]/\(SqL K H p ys\/SqT K H p ys)/\∀l,H l=none->Q (.ref l) (upd H l (.lst ys))
theorem lf(h:X.K=K):d5 X (.type "list") (B0 K):=by subst h;exact G7
theorem kF(h:X.K=K)(hu:X.A.units+64<cLine):OpR X (compareOp .Eq) (v6 K):=by subst h;exact CL hu
theorem re(h:X.K=K)(hu:X.A.units+64<cLine):OpR X (compareOp .NotEq) (vZ K):=by subst h;exact CH hu
theorem jK(h:X.K=K):d5 X (.builtin "isinstance") (jh K):=by subst h;exact Hg
theorem dQ{tg l:Expr}{tl:TE}(h:X.K=K)(hl:PE X l tl):PI X tg l (xG K tl):=by subst h;exact Cn hl
theorem wm{tg l:Expr}{tl:TE}(h:X.K=K)(hl:PE X l tl):PI X tg l (xF K tl):=by subst h;exact Cl hl
theorem aH{e:Expr}{ta:TE}{f:Str}{pos:Pos}(h:X.K=K)(he:PE X e ta)(hb:attributeBase e f X.env (eval e X.env)=eval e X.env):PE X (.Attribute e f pos) (oj K ta f):=by subst h;exact Cr he hb
end
noncomputable def Ite(K:PySem.W.Frag)(a:Addr):It :=
 ⟨λi H=>∃xs x,SqL K H a xs/\xs[i]?=some x,λi H x H'=>∃v p,x=.ref p/\H p=none/\H'=upd H p (.tup [.int i,v])/\∀xs,SqL K H a xs->xs[i]?=some v,λi H=>∃xs,SqL K H a xs/\xs.length<=i⟩
theorem zM{P:Program}{w:World}{K:PySem.W.Frag}{es:List Expr}{x1:Nat}{tp:Pos}(a e it:Addr)(hne:e≠it):Turn P w K (.Tuple es x1 tp) (Ite K a) [e,it] e (λi h=>(∃old,IsEnum h e it (i:Int) old)/\h.IsListIter it a i) where
 mem:=by simp
 obj:=λi h st b hb=>by
  obtain⟨⟨old,he⟩,hi⟩:=st;rcases KS.mp hb with rfl |hb
  ·exact⟨_,he,λv z=>by cases z⟩
  ·have q:b=it:=by simpa using hb
   subst q;obtain⟨o,e,c,d⟩:=hi;exact⟨o,e,λv z=>by rw[d]at z;cases z⟩
 keep:=λi h h' st k=>by obtain⟨⟨old,he⟩,hi⟩:=st;exact⟨⟨old,k e (by simp) _ he⟩,hi.at λo q=>k it (by simp) o q⟩
 item:=by
  intro X hP hw hK hc i pins s σ H E I hf st hg;subst hP hw hK;obtain⟨⟨old,he⟩,hi⟩:=st;obtain⟨xs,x,hq,hx⟩:=hg;obtain⟨its,rv,p,hz⟩:=I.list hq;obtain⟨u,hu,ru⟩:=rv.get hx;refine wpAny_pyNext_enum_item he hi p.isList (x:=u) (by simpa using hu) hne λh' out hit' htup hsz kk=>?_
  have hfp:H s.heap.objs.size=none:=I.hok.fresh (KH _);have nfp:∀b o,H b=some o->b≠e/\b≠it:=λb o q=>⟨λz=>(by rw[z,(hf e (by simp)).1]at q;cases q),λz=>(by rw[z,(hf it (by simp)).1]at q;cases q)⟩
  have I1:Inv X pins σ (upd H s.heap.objs.size (.tup [.int i,x])) { s with heap:=h',toks:=s.toks+1 }:=by
   refine I.step (g':=s.gens) (d':=s.drawn) (ch:=[e,it]) (λb hb=>?_) (λb o _ _ hc q _=>kk b o (λz=>hc (by simp[z])) (λz=>hc (by simp[z])) q)
    (λb o _ _ hc q _=>⟨o.slots,kk b o (λz=>hc (by simp[z])) (λz=>hc (by simp[z])) q⟩) (λb o _ q n=>by rw[upd_ne (Lh (Heap.lt_size q))];exact n)
    (λb o hc q=>⟨o,kk b o (λz=>hc (by simp[z])) (λz=>hc (by simp[z])) q⟩) (λb ys q=>by rw[upd_ne (aX q hfp)];exact q) (λb o ys q=>by rw[upd_ne (aX q hfp)];exact q)
    (λb ps q=>⟨#[],by rw[upd_ne (aX q hfp),q];simp⟩) (λm hm=>?_) (λb o q=>?_) I.bare
   ·obtain⟨f0,f1,f2,f3,f4,f5⟩:=hf b hb;exact⟨f3,f1,f4,f5⟩
   ·obtain⟨o,es',ep',ho,r⟩:=hm;exact⟨o,es',ep',kk _ o (Ne.symm (hf e (by simp)).2.1) (Ne.symm (hf it (by simp)).2.1) ho,r⟩
   ·by_cases hb:b=s.heap.objs.size
    ·subst hb;rw[ay]at q;cases q;exact⟨by show 2<=sizeLine;decide,[.int i s.toks,u],.cons ⟨_,rfl⟩ (.cons ru .nil),⟨_,htup,rfl,_,rfl⟩⟩
    ·rw[upd_ne hb]at q;refine(I.hok b o q).stay (λc v hc z=>?_) (λc z=>by rw[upd_ne (aX z hfp)];exact z) λc ys z=>by rw[upd_ne (aX z hfp)];exact z
     rcases hc with rfl |hc
     ·exact kk c v (nfp c o q).1 (nfp c o q).2 z
     ·exact kk c v (nfp c _ hc).1 (nfp c _ hc).2 z
  refine⟨_,rfl,wpAny_letOwnedTupleGo_enum out λh'' he'' sb=>?_⟩;obtain⟨f0,f1,f2,f3,f4,f5⟩:=hf e (by simp)
  have hen:upd H s.heap.objs.size (.tup [.int i,x]) e=none:=by rw[upd_ne (Lh (Heap.lt_size he))];exact f0
  have I2:=I1.turned (h':=h'') (t':=s.toks+1) (it:=e) (λb o hb q=>(sb.2 b hb).trans q) hen f1 f3 f4 f5;refine⟨.ref s.heap.objs.size,_,I2,rfl,⟨x,_,rfl,hfp,rfl,λys hy=>by rw[I.list_inj hy hq];exact hx⟩,⟨⟨u,?_⟩,hit'.at λo q=>(sb.2 it (Ne.symm hne)).trans q⟩,λb hb=>?_⟩
  ·have:((i+1:Nat):Int)=(i:Int)+1:=by omega
   rw[this];exact he''
  ·have hlt:b<s.heap.objs.size:=by
    rcases KS.mp hb with rfl |hb
    ·exact Heap.lt_size he
    ·have q:b=it:=by simpa using hb
     subst q;obtain⟨o,e1,_⟩:=hi;exact Heap.lt_size e1
   rw[upd_ne (Lh hlt)];exact(hf b hb).1
 done:=by intro X hP hw hK hc i pins s σ H E I hf st hg;subst hP hw hK;obtain⟨⟨old,he⟩,hi⟩:=st;obtain⟨xs,hq,hx⟩:=hg;obtain⟨its,rv,p,hz⟩:=I.list hq;obtain⟨f0,f1,f2,f3,f4,f5⟩:=hf it (by simp);have hl:=rv.length;exact wpAny_pyNext_enum_end (I.ok.hd hc) he hi p.isList (by simp;omega) λh' eb=>⟨rfl,I.turned (t':=s.toks) (λb o hb e=>eb b o hb e) f0 f1 f3 f4 f5⟩
 self:=λ_ _ _ _ _ st h=>by obtain⟨⟨old,he⟩,hi⟩:=st;exact wpAny_pyIter_enum he h
section
variable {X:Cx}
def Fx(K:PySem.W.Frag)(ta:TA):TI:=λσ H R=>ta σ H λvs H1=>∃a,vs=[.ref a]/\(∃xs,SqL K H1 a xs)/\R (Ite K a) H1
theorem jn{es:List Expr}{x1:Nat}{tp:Pos}{a:Expr}{ta:TA}{p pos:Pos}(hg:Gl X "enumerate")(hm:X.mg "enumerate"=none)(ha:PA X [a] ta)(hs:starEach [a] X.env=[(false,eval a X.env)]:=by rfl):PI X (.Tuple es x1 tp) (.Call (.Name "enumerate" p) [a] [] pos) (Fx X.K ta):=by
 intro pins s σ H R I h;refine Call_ (gI I hg hm boot_enumerate (PyProof.Rows.callWith_type1 (thn (ha pos pins s σ H _ I h) λus s1 ⟨vs,H1,I1,r1,q1⟩=>?_) hs rfl));obtain⟨a',e,⟨xs,hq⟩,q⟩:=q1;subst e;obtain⟨u,rfl,ru⟩:=r1.one;cases ru;obtain⟨its,rv,pl,hz⟩:=I1.list hq;refine call_enumerate_list pl.isList λh' he hit hsz hk=>?_
 have I2:Inv X pins σ H1 { s1 with heap:=h' }:=I1.kept (t':=s1.toks) hk;refine wpAny_pyIter_enum he ?_;refine⟨s1.heap.objs.size+1,[s1.heap.objs.size+1,s1.heap.objs.size],_,_,H1,rfl,I2,zM a' _ _ (Nat.succ_ne_self _),⟨⟨_,he⟩,hit⟩,λb hb=>?_,q⟩
 have hb':s1.heap.objs.size<=b:=by
  rcases KS.mp hb with rfl |hb
  ·exact Nat.le_succ _
  ·have q:b=s1.heap.objs.size:=by simpa using hb
   subst q;exact KH _
 exact I1.fpOk hb' (I1.hok.fresh hb')
end
theorem jz{K:PySem.W.Frag}{a:Addr}{xs:List V}{g:TG}{tb:TS}{D:di}{σ:St}{H:Hp}(Pv:Nat->St->Hp->Prop)(h0:Pv 0 σ H)(hl:∀i σ H,i<=xs.length->Pv i σ H->SqL K H a xs)
 (hs:∀i x σ H p,xs[i]?=some x->Pv i σ H->H p=none->g (.ref p) σ (upd H p (.tup [.int i,x])) λσ2 H2=>tb { D with nx:=Pv (i+1),ct:=Pv (i+1),bk:=D.nx } σ2 H2) (hd:∀σ H,Pv xs.length σ H->D.nx σ H) :
 ∃W:Nat->Nat->St->Hp->Prop,(∃m,W 0 m σ H)/\∀i m σ H,W i m σ H ->
  ((Ite K a).stop i H/\D.nx σ H)\/((Ite K a).go i H/\∃N:St->Hp->Prop,(∀σ' H',N σ' H'->∃m',m'<m/\W (i+1) m' σ' H')/\∀x H',(Ite K a).yld i H x H'->g x σ H' λσ2 H2=>tb { D with nx:=N,ct:=N,bk:=D.nx } σ2 H2):=by
 refine⟨λi m σ H=>m=xs.length-i/\i<=xs.length/\Pv i σ H,⟨xs.length,by simp,KJ _,h0⟩,?_⟩;rintro i m σ H ⟨rfl,hi,p⟩;have q:=hl i σ H hi p;by_cases hlt:i<xs.length
 ·refine .inr ⟨⟨xs,xs[i],q,by simp[hlt]⟩,Pv (i+1),λσ' H' p'=>⟨xs.length-(i+1),by omega,rfl,hlt,p'⟩,λx H' y=>?_⟩;obtain⟨v,r,rfl,hr,rfl,y⟩:=y;exact hs i v σ _ r (y xs q) p hr
 ·have e:i=xs.length:=by omega
  subst e;exact .inl ⟨⟨xs,q,KH _⟩,hd σ H p⟩
noncomputable def Itv(K:PySem.W.Frag)(a:Addr)(xs:List V):It :=
 ⟨λi H=>SqL K H a xs/\i<xs.length,λi H x H'=>H'=H/\xs[xs.length-1-i]?=some x,λi H=>xs.length<=i⟩
theorem zI{P:Program}{w:World}{K:PySem.W.Frag}{tg:Expr}(a it:Addr)(xs:List V):Turn P w K tg (Itv K a xs) [it] it (λi h=>i<=xs.length/\h.IsRevIter it a ((xs.length:Int)-1-i)) where
 mem:=by simp
 obj:=λi h st b hb=>by
  have e:b=it:=by simpa using hb
  subst e;obtain⟨_,o,e,c,d⟩:=st;exact⟨o,e,λv z=>by rw[d]at z;cases z⟩
 keep:=λi h h' st k=>⟨st.1,st.2.at λo e=>k it (by simp) o e⟩
 item:=by
  intro X hP hw hK hc i pins s σ H E I hf st hg;subst hP hw hK;obtain⟨hq,hlt⟩:=hg;obtain⟨its,rv,p,hz⟩:=I.list hq;have hl:=rv.length;obtain⟨x,hx⟩:∃x,xs[xs.length-1-i]?=some x:=⟨_,List.getElem?_eq_getElem (by omega)⟩;obtain⟨u,hu,ru⟩:=rv.get hx;obtain⟨f0,f1,f2,f3,f4,f5⟩:=hf it (by simp);have e1:(xs.length:Int)-1-i=((xs.length-1-i:Nat):Int):=by omega
  have hit:=st.2;rw[e1]at hit;refine wpAny_pyNext_rev_item hit p.isList (x:=u) (by simpa using hu) λh' st' sb=>?_
  have I1:Inv X pins σ H { s with heap:=h' }:=I.turned (t':=s.toks) (λb o hb e=>(sb.2 b hb).trans e) f0 f1 f3 f4 f5;obtain⟨o,e,c,d⟩:=id st';refine⟨u,rfl,kQ (s:={ s with heap:=h' }) e c d (by decide) ⟨x,H,I1,ru,⟨rfl,hx⟩,⟨hlt,?_⟩,λb hb=>(hf b hb).1⟩⟩;have e2:(xs.length:Int)-1-((i+1:Nat):Int)=((xs.length-1-i:Nat):Int)-1:=by omega
  rw[e2];exact st'
 done:=by
  intro X hP hw hK hc i pins s σ H E I hf st hg;subst hP hw hK;obtain⟨f0,f1,f2,f3,f4,f5⟩:=hf it (by simp);have hle:xs.length<=i:=hg;have e1:(xs.length:Int)-1-i = -1:=by have:=st.1;omega
  have hit:=st.2;rw[e1]at hit;exact wpAny_pyNext_rev_end (I.ok.hd hc) hit λh' eb=>⟨rfl,I.turned (t':=s.toks) (λb o hb e=>eb b o hb e) f0 f1 f3 f4 f5⟩
 self:=λ_ _ _ _ _ st h=>wpAny_pyIter_revIter st.2 h
section
variable {X:Cx}{tg:Expr}
def Fw(K:PySem.W.Frag)(ta:TA):TI:=λσ H R=>ta σ H λvs H1=>∃a xs,vs=[.ref a]/\SqL K H1 a xs/\R (Itv K a xs) H1
theorem mR{a:Expr}{ta:TA}{p pos:Pos}(hg:Gl X "reversed")(hm:X.mg "reversed"=none)(ha:PA X [a] ta)(hs:starEach [a] X.env=[(false,eval a X.env)]:=by rfl):PI X tg (.Call (.Name "reversed" p) [a] [] pos) (Fw X.K ta):=by
 intro pins s σ H R I h;refine Call_ (gI I hg hm boot_reversed (PyProof.Rows.callWith_type1 (thn (ha pos pins s σ H _ I h) λus s1 ⟨vs,H1,I1,r1,q1⟩=>?_) hs rfl));obtain⟨a',xs,e,hq,q⟩:=q1;subst e;obtain⟨u,rfl,ru⟩:=r1.one;cases ru;obtain⟨its,rv,pl,hz⟩:=I1.list hq;have hl:=rv.length;refine call_reversed_list pl.isList ?_
 have hit:(s1.heap.push (revObj a' ((its.toArray.size:Int)-1))).IsRevIter s1.heap.objs.size a' ((xs.length:Int)-1-((0:Nat):Int)):=by
  have e1:(xs.length:Int)-1-((0:Nat):Int)=(its.toArray.size:Int)-1:=by rw[K0];omega
  rw[e1];exact⟨_,Heap.get?_push_size _ rfl,rfl,rfl⟩
 have I2:Inv X pins σ H1 { s1 with heap:=s1.heap.push (revObj a' ((its.toArray.size:Int)-1)) }:=I1.kept (t':=s1.toks) λb o e=>Heap.get?_push_of_some _ e
 refine wpAny_pyIter_revIter (s:={ s1 with heap:=s1.heap.push (revObj a' ((its.toArray.size:Int)-1)) }) hit ?_;refine⟨s1.heap.objs.size,[s1.heap.objs.size],_,_,H1,rfl,I2,zI a' _ xs,⟨KJ _,hit⟩,λb hb=>?_,q⟩;have e:b=s1.heap.objs.size:=by simpa using hb
 subst e;exact I1.fpOk (KH _) (I1.hok.fresh (KH _))
end
theorem nC{K:PySem.W.Frag}{a:Addr}{xs:List V}{g:TG}{tb:TS}{D:di}{σ:St}{H:Hp}(Pv:Nat->St->Hp->Prop)(h0:Pv 0 σ H)(hl:∀i σ H,i<=xs.length->Pv i σ H->SqL K H a xs)
 (hs:∀i x σ H,i<xs.length->xs[xs.length-1-i]?=some x->Pv i σ H->g x σ H λσ2 H2=>tb { D with nx:=Pv (i+1),ct:=Pv (i+1),bk:=D.nx } σ2 H2) (hd:∀σ H,Pv xs.length σ H->D.nx σ H) :
 ∃W:Nat->Nat->St->Hp->Prop,(∃m,W 0 m σ H)/\∀i m σ H,W i m σ H ->
  ((Itv K a xs).stop i H/\D.nx σ H)\/((Itv K a xs).go i H/\∃N:St->Hp->Prop,(∀σ' H',N σ' H'->∃m',m'<m/\W (i+1) m' σ' H')/\∀x H',(Itv K a xs).yld i H x H'->g x σ H' λσ2 H2=>tb { D with nx:=N,ct:=N,bk:=D.nx } σ2 H2):=by
 refine⟨λi m σ H=>m=xs.length-i/\i<=xs.length/\Pv i σ H,⟨xs.length,by simp,KJ _,h0⟩,?_⟩;rintro i m σ H ⟨rfl,hi,p⟩;by_cases hlt:i<xs.length
 ·refine .inr ⟨⟨hl i σ H hi p,hlt⟩,Pv (i+1),λσ' H' p'=>⟨xs.length-(i+1),by omega,rfl,hlt,p'⟩,λx H' y=>?_⟩;obtain⟨e,y⟩:=y;subst e;exact hs i x σ _ hlt y p
 ·have e:i=xs.length:=by omega
  subst e;exact .inl ⟨KH _,hd σ H p⟩
structure FunD(K:PySem.W.Frag)(x qual:Str)(st:Stmt)(dV:Value)(f:Addr)(fd:FuncData):Prop where
 ex:∃(oc:Value) (od:Option Addr) (kV doc pm:Value) (an:Option Addr) (cdv ct:Value) (osl:Array (Option Value)),
  fd=PySem.W.fnOf x qual (eX st) (dH st) (aC st) dV kV doc pm an cdv ct/\K.lookup f=some ⟨oc,od,.func fd,osl⟩/\PySem.W.codeIn K cdv qual=true
 kp:PySem.W.keepIn K (.ref f)=true
section
variable {P:Program}{w:World}{K:PySem.W.Frag}{mg:Str->Option Value}{base:Heap}
theorem FunD.ok{x qual:Str}{st:Stmt}{dV:Value}{f:Addr}{fd:FuncData}{N ps:List Str}{k:Nat}{sp:Sp}(F:FunD K x qual st dV f fd)(S:FnScope N ps (aC st))(len:∀vs H Q E,sp vs H Q E->vs.length=ps.length)
 (hbody:∀(cdv:Value) (A:Around) (outer:List Env) (s:Shared) (H:Hp) (vs:List V) (Q:VK) (E:XK),Room k (A.deeper (envOfC qual (aC st) s.heap.objs.size f cdv))->sp vs H Q E ->
   ∃t,PSs (iz CX0 P w K mg base N qual (aC st) f cdv A outer s H E).nox (dH st) t/\t { nx:=λ_ H'=>Q .non H',rt:=Q } (start N vs) H):FnOk P w K mg base CX0 (k+1) f fd ps sp:=by
 obtain⟨oc,od,kV,doc,pm,an,cdv,ct,osl,rfl,lk,hcd⟩:=F.ex;refine xZ lk hcd S len λA outer s H vs Q E hr hsp=>?_
 obtain⟨t,h,q⟩:=hbody cdv A outer s H vs Q E hr hsp;exact⟨t,h.nox,q⟩
theorem FunD.bindsD{x qual:Str}{st:Stmt}{T:Addr}{f:Addr}{fd:FuncData}{ps:List Str}{ds tup:List Value}{o:Obj}{n:Nat}(m:Nat)(F:FunD K x qual st (.ref T) f fd)(lo:K.lookup T=some o)(hs:o.data=.seq tup.toArray n)(hm:m+ds.length=ps.length)
 (h:∀(kV doc pm:Value) (an:Option Addr) (cdv ct:Value) (us:List Value),us.length=m->∃k:Option (Array Value)->Sem (List (Str×Value)),
   bindArgs (PySem.W.fnOf x qual (eX st) (dH st) (aC st) (.ref T) kV doc pm an cdv ct) ⟨us,[]⟩=seqItems? (.ref T) >>= k/\k (some tup.toArray)=pure (ps.zip (us++ds))):Binds K fd ps ds:=by
 obtain⟨oc,od,kV,doc,pm,an,cdv,ct,osl,rfl,lk,hcd⟩:=F.ex;intro s us KX hl;rw[Lb]at hl;obtain⟨k,h1,h2⟩:=h kV doc pm an cdv ct us (by omega);exact PySem.W.binds_K (k:=k) KX rfl lo hs h1 h2
theorem FV{x qual:Str}{st:Stmt}{f:Addr}{oc:Value}{od an:Option Addr}{osl:Array (Option Value)}{dV kV doc pm cdv ct:Value}(l:K.lookup f=some ⟨oc,od,.func (PySem.W.fnOf x qual (eX st) (dH st) (aC st) dV kV doc pm an cdv ct),osl⟩)
 (c:PySem.W.codeIn K cdv qual=true) (k:PySem.W.keepIn K (.ref f)=true):FunD K x qual st dV f (PySem.W.fnOf x qual (eX st) (dH st) (aC st) dV kV doc pm an cdv ct):=⟨⟨oc,od,kV,doc,pm,an,cdv,ct,osl,rfl,l,c⟩,k⟩
end
structure MCal(P:Program)(w:World)(K:PySem.W.Frag)(mg:Str->Option Value)(base:Heap)(k:Nat)(C:Addr)(m:Str)(ps:List Str)(sp:Sp)(f:Addr)(fd:FuncData):Prop where
 ok:FnOk P w K mg base CX0 k f fd ps sp
 mt:Meth K C m f
 bd:Binds K fd ps []
structure KCal(P:Program)(w:World)(K:PySem.W.Frag)(mg:Str->Option Value)(base:Heap)(k:Nat)(C:Addr)(x:Str)(ps:List Str)(sp:Sp)(f:Addr)(fd:FuncData)(ds:List Value)(dvs:List V):Prop where
 ok:FnOk P w K mg base CX0 k f fd ps sp
 mkr:Mk K C f
 mg:mg x=some (.ref C)
 bd:Binds K fd ps []
 bdD:Binds K fd ps ds
 vd:Vals dvs ds
section
variable {X:Cx}{k j:Nat}{f:Addr}{fd:FuncData}{ps P:List Str}{sp:Sp}{x:Str}{p pos apos cpos pos':Pos}{e o a b:Expr}{es:List Expr}{ta tb te to:TE}{t:TA}{sc:Scope}{op:CmpOp}{r:R2}
theorem ak(C:Cal X.prog X.w X.K X.mg X.base k x ps sp f fd)(hr:Room j X.A)(ha:PA X (e::es) t)(hj:k<=j:=by decide)(hg:Gl X x:=by rfl)(hdb:(x == ("__debug__":Str))=false:=by decide)(he:starEach (e::es) X.env=(false,eval e X.env)::starEach es X.env:=by rfl)(hpl:(backTo pos (starEach es X.env)).any (·.1)=false:=by rfl) :
 PE X (.Call (.Name x p) (e::es) [] pos) (lM sp [] E0 t):=Ct C.ok (hr.mono hj) hg C.mg C.kp C.bd .nil b9 ha hdb he hpl
theorem aj(i:Nat)(S:FnScope X.N P sc)(he:PE X e te)(hi:X.N[i]?=some x:=by rfl)(hx:Loc X.env.scope x:=by first |exact Or.inl rfl |exact Or.inr rfl)(hs:swapsWith e (some (.Name x pos')) pos.line X.env=pure false:=by rfl)(hf:X.fn x=true\/X.env.scope.names.lookup x=some .local:=by first |exact .inl rfl |exact .inr rfl |assumption) :
 PS X (.Assign [.Name x pos'] e pos) (fB te (dW i)):=B6 S.nd hi hx he hs hf
theorem bH(i:Nat)(S:FnScope X.N P sc)(hi:X.N[i]?=some x:=by rfl)(hx:Loc X.env.scope x:=by first |exact Or.inl rfl |exact Or.inr rfl)(hf:X.fn x=true\/X.env.scope.names.lookup x=some .local:=by first |exact .inl rfl |exact .inr rfl |assumption):PG X (.Name x pos) (dW i):=eK S.nd hi hx hf
theorem aE(ho:OpR X (compareOp op) r)(ha:PE X a ta)(hb:PE X b tb)(hm:behindInMarks op b=false:=by exact wM _):PT X (.Compare a [op] [b] pos) (tx (tOp r ta tb)):=B5 ho ha hb hm
theorem bR(ho:OpR X (compareOp op) r)(ha:PE X a ta)(hb:PE X b tb)(hm:behindInMarks op b=false:=by exact wM _):PE X (.Compare a [op] [b] pos) (tOp r ta tb):=Cs ho ha hb hm
theorem aN(K:PySem.W.Frag)(ha:PE X a ta)(hb:PE X b tb)(h:X.K=K:=by rfl)(hs:sF b:=by exactλ_ _=>rfl):PE X (.Subscript a b pos) (tOp (mM K) ta tb):=wp (Fl h) ha hb hs
theorem aq(K:PySem.W.Frag)(ha:PE X a ta)(hb:PE X b tb)(h:X.K=K:=by rfl)(hs:sF b:=by exactλ_ _=>rfl):PE X (.Subscript a b pos) (tOp (jf K) ta tb):=wp (Fj h) ha hb hs
theorem bM(K:PySem.W.Frag)(hm:X.mg "len"=none)(ha:PA X (e::es) t)(h:X.K=K:=by rfl)(hg:Gl X "len":=by rfl)(he:starEach (e::es) X.env=(false,eval e X.env)::starEach es X.env:=by rfl)(hpl:(backTo pos (starEach es X.env)).any (·.1)=false:=by rfl):PE X (.Call (.Name "len" p) (e::es) [] pos) (tCB (v5 K) t):=cQ (G9 h) hg hm PySem.boot_len ha (by decide) (by decide) he hpl
theorem gE(ho:PE X o to)(ha:PA X (e::es) t)
 (hbase:attributeBase o "append" X.env (eval o X.env)=eval o X.env:=by rfl)
 (hfew:((backTo cpos (starEach (e::es) X.env)).all (λx=>!x.1)&&(backToKw cpos (keywordEach [] X.env)).all (λx=>x.1.isSome)
   && decide ((e::es).length+([]:List Keyword).length+(if([]:List Keyword).isEmpty then 0 else 1)<30))=true:=by rfl)
 (hline:(apos.endLine == cpos.line)=true:=by rfl) (hs:starEach (e::es) X.env=(false,eval e X.env)::starEach es X.env:=by rfl) (hplain:(backTo cpos (starEach es X.env)).any (·.1)=false:=by rfl) :
 PE X (.Call (.Attribute o "append" apos) (e::es) [] cpos) (tBM X.K "list" v7 to t):=Cv PySem.F.plainAttrs_list PySem.F.slot_list_append PySem.F.type_list_append EM ho ha hbase hfew hline hs hplain
end
section
variable {prog:Program}{w:World}{A:Around}{E:Value->Shared->Prop}{s:Shared}
end
section
variable {X:Cx}{K:PySem.W.Frag}
end
section
variable {P:Program}{w:World}{K:PySem.W.Frag}{mg:Str->Option Value}{base:Heap}{N:List Str}{qual:Str}{scope:Scope}{f:Addr}{cd:Value}{A:Around}{outer:List Env}{s:Shared}{H:Hp}{E:XK}{pins:List (Addr×Obj)}{σ:St}{H1:Hp}{s1:Shared}
end
noncomputable def jS(lo:Int)(n:Nat):It:=⟨λi _=>i<n,λi H x H'=>H'=H/\x=.int (lo+i * -1),λi _=>n<=i⟩
theorem zJ{P:Program}{w:World}{K:PySem.W.Frag}{tg:Expr}(it:Addr)(lo:Int)(n:Nat):Turn P w K tg (jS lo n) [it] it (λi h=>IsRangeIter h it (lo+(i:Nat) * -1) ((n:Int)-(i:Nat)) (-1)) where
 mem:=by simp
 obj:=λi h st b hb=>by
  have e:b=it:=by simpa using hb
  subst e
  exact⟨_,st,λv z=>by
   have z':Data.fields _=Data.cell v:=z
   cases z'⟩
 keep:=λi h h' st k=>k it (by simp) _ st
 item:=by
  intro X hP hw hK hc i pins s σ H E I hf st hg;subst hP hw hK;obtain⟨f0,f1,f2,f3,f4,f5⟩:=hf it (by simp);have W:=Walks.range (prog:=X.prog) (w:=X.w) (I.ok.hd hc) it lo (-1) n;refine W.item i s _ _ hg st λv h' tk hv st' kk=>?_
  obtain⟨t,rfl⟩:=hv;have I1:Inv X pins σ H { s with heap:=h',toks:=tk }:=I.turned (λb o hb e=>kk b o (by simpa using hb) e) f0 f1 f3 f4 f5;exact⟨_,rfl,kQ (s:={ s with heap:=h',toks:=tk }) (n:="range_iterator") st' rfl rfl (by decide) ⟨.int (lo+i * -1),H,I1,⟨t,rfl⟩,⟨rfl,rfl⟩,st',λb hb=>(hf b hb).1⟩⟩
 done:=by intro X hP hw hK hc i pins s σ H E I hf st hg;subst hP hw hK;obtain⟨f0,f1,f2,f3,f4,f5⟩:=hf it (by simp);exact wpAny_pyNext_range_end (I.ok.hd hc) st (by have:n<=i:=hg;omega) λh' eb=>⟨rfl,I.turned (t':=s.toks) (λb o hb e=>eb b o hb e) f0 f1 f3 f4 f5⟩
 self:=λ_ _ _ _ _ st h=>wpAny_pyIter_rangeiter st h
theorem vW(a b:Int):Builtin.Range.rangeSize a b (-1)=if b<a then a-b else 0:=by unfold Builtin.Range.rangeSize;rw[if_neg (by decide)];show(if a>b then(a-b-1)/1+1 else 0)=_;rw[Int.ediv_one];split<;>omega
theorem As{a b:Int}(ha : -(2^61)<=a)(ha':a<2^61)(hb : -(2^61)<=b)(hb':b<2^61):Builtin.Range.small a b (-1)=true:=by unfold Builtin.Range.small;rw[vW];simp only[Builtin.Range.rangeFitsLong,Mo,Bool.or_eq_true,decide_eq_true_eq,beq_iff_eq,show ¬((-1:Int)>0) by decide,if_false];split<;>omega
section
variable {X:Cx}{tg:Expr}
theorem BW{pins:List (Addr×Obj)}{σ:St}{H:Hp}{s:Shared}{R:It->Hp->Prop}{E:Value->Shared->Prop}{lo hi:Int}{t u v:Tok}{tk:Nat}(I:Inv X pins σ H s)(h1 : -(2^61)<=lo)(h2:lo<2^61)(h3 : -(2^61)<=hi)(h4:hi<2^61)
 (q:R (jS lo (lo-hi).toNat) H):wpAny (model X.prog X.w) X.A (pyIter (.ref s.heap.objs.size)) (PIE X pins σ tg R) E { s with heap:=s.heap.push { cls:=.type "range",data:=.fields #[.int lo t,.int hi u,.int (-1) v] },toks:=tk }:=by
 refine wpAny_pyIter_range (IsRange.new ..) (As h1 h2 h3 h4) ?_;have I1:Inv X pins σ H { s with heap:=s.heap.push { cls:=.type "range",data:=.fields #[.int lo t,.int hi u,.int (-1) v] },toks:=tk }:=I.kept λb o e=>Heap.get?_push_of_some _ e
 refine⟨(s.heap.push { cls:=.type "range",data:=.fields #[.int lo t,.int hi u,.int (-1) v] }).objs.size,[(s.heap.push { cls:=.type "range",data:=.fields #[.int lo t,.int hi u,.int (-1) v] }).objs.size],_,_,H,rfl,
  I1.kept (t':=tk) λb o e=>Heap.get?_push_of_some _ e,zJ _ lo (lo-hi).toNat,?_,λb hb=>?_,q⟩
 ·have e1:lo+((0:Nat):Int) * -1=lo:=by simp
  have e2:(((lo-hi).toNat:Nat):Int)-((0:Nat):Int)=Builtin.Range.rangeSize lo hi (-1):=by rw[vW];split<;>omega
  show IsRangeIter _ _ (lo+((0:Nat):Int) * -1) ((((lo-hi).toNat:Nat):Int)-((0:Nat):Int)) (-1);rw[e1,e2];exact Heap.get?_push_size _ rfl
 ·have e:b=(s.heap.push { cls:=.type "range",data:=.fields #[.int lo t,.int hi u,.int (-1) v] }).objs.size:=by simpa using hb
  subst e;exact I1.fpOk (KH _) (I1.hok.fresh (KH _))
def Ft(ta:TA):TI:=λσ H R=>ta σ H λvs H1=>∃i j:Int,vs=[.int i,.int j,.int (-1)]/\(-(2^61)<=i/\i<2^61 /\ -(2^61)<=j/\j<2^61)/\R (jS i (i-j).toNat) H1
theorem wn{a b c:Expr}{ta:TA}{p pos:Pos}(hg:Gl X "range")(hm:X.mg "range"=none)(ha:PA X [a,b,c] ta)(hs:starEach [a,b,c] X.env=[(false,eval a X.env),(false,eval b X.env),(false,eval c X.env)]:=by rfl)(hs2:starEach [b,c] X.env=[(false,eval b X.env),(false,eval c X.env)]:=by rfl) :
 PI X tg (.Call (.Name "range" p) [a,b,c] [] pos) (Ft ta):=by
 intro pins s σ H R I h;refine Call_ (gI I hg hm boot_range (PyProof.Rows.callWith_type1 (thn (ha pos pins s σ H _ I h) λus s1 ⟨vs,H1,I1,r1,q1⟩=>?_) (by rw[hs,hs2]) (by rw[hs2];rfl)));obtain⟨i,j,e,⟨q1,q2,q3,q4⟩,q⟩:=q1;subst e;cases r1 with
 |cons r rr =>
  cases rr with
  |cons r' rr =>
   cases rr with
   |cons r'' rr =>cases rr;obtain⟨t,rfl⟩:=r;obtain⟨t',rfl⟩:=r';obtain⟨t'',rfl⟩:=r'';exact call_range_3 (by decide) (BW I1 q1 q2 q3 q4 q) (Or.inl (PyProof.noPylong_small (by decide)))
end
theorem xW{lo:Int}{n:Nat}{g:TG}{tb:TS}{D:di}{σ:St}{H:Hp}(Pv:Nat->St->Hp->Prop)(h0:Pv 0 σ H)
 (hs:∀i σ H,i<n->Pv i σ H->g (.int (lo+i * -1)) σ H λσ2 H2=>tb { D with nx:=Pv (i+1),ct:=Pv (i+1),bk:=D.nx } σ2 H2) (hd:∀σ H,Pv n σ H->D.nx σ H) :
 ∃W:Nat->Nat->St->Hp->Prop,(∃m,W 0 m σ H)/\∀i m σ H,W i m σ H ->
  ((jS lo n).stop i H/\D.nx σ H)\/((jS lo n).go i H/\∃N:St->Hp->Prop,(∀σ' H',N σ' H'->∃m',m'<m/\W (i+1) m' σ' H')/\∀x H',(jS lo n).yld i H x H'->g x σ H' λσ2 H2=>tb { D with nx:=N,ct:=N,bk:=D.nx } σ2 H2):=by
 refine⟨λi m σ H=>m=n-i/\i<=n/\Pv i σ H,⟨n,by simp,KJ _,h0⟩,?_⟩;rintro i m σ H ⟨rfl,hi,p⟩;by_cases hlt:i<n
 ·refine .inr ⟨hlt,Pv (i+1),λσ' H' p'=>⟨n-(i+1),by omega,rfl,hlt,p'⟩,λx H' y=>?_⟩;obtain⟨e,y⟩:=y;subst e y;exact hs i σ _ hlt p
 ·have e:i=n:=by omega
  subst e;exact .inl ⟨KH _,hd σ H p⟩
section
variable {X:Cx}{K:PySem.W.Frag}
end
theorem Fb{P:Program}{w:World}{K:PySem.W.Frag}{mg mb:Str->Option Value}{CX:CXT}{k:Nat}{fa a:Addr}{fd:FuncData}{x:Str}{sp:Sp}{s₁:Shared}{vs:List Value}{ns:List Int}
 (KX:K.In s₁.heap) (hns:s₁.heap.Ns mainGlobals mg) (hb:s₁.heap.Ns builtinsNs mb) (hbb:∀x:Str,x≠"__name__"->mb x=bootBuiltins x) (hlim:s₁.heap.NoLimit) (hse:s₁.heap.NoSeer) (hg:s₁.gens=#[])
 (ha:s₁.heap.get? a=some { cls:=.type "list",data:=.seq vs.toArray }) (hi:IntsAre vs ns) (hl:ns.length<=sizeLine) (hr:Room k callerA)
 (F:∀base:Heap,K.In base->base.Ns mainGlobals mg->base.NoSeer->FnOk P w K mg base CX k fa fd [x] sp) (hbind:∀(s:Shared) (u:Value),BindsTo s fd ⟨[u],[]⟩ [(x,u)])
 (hsp:∀H:Hp,sG H->SqL K H a (ns.map V.int)->sp [.ref a] H (λv _=>v=.bl true) λ_ _ _=>False)
 (hCX:∀H e s',CX [] H s₁ (λ_ _ _=>False) e s'->False) :
 codeAny (model P w) callerA (.call (.ref fa) ⟨[.ref a],[]⟩) (λr s'=>r=.ok (.ret (.bool true))/\OldK s₁.heap s'.heap/\s'.os=s₁.os/\AllBare s'.gens) s₁:=by
 have rv:=sT hi;have lenV:=hi.length
 have core:∀H:Hp,sG H->SqL K H a (ns.map V.int)->HOk P w H s₁.heap->(∀b,H b≠none->b=a)->(H a≠none->K.lookup a=none) ->
  codeAny (model P w) callerA (.call (.ref fa) ⟨[.ref a],[]⟩) (λr s'=>r=.ok (.ret (.bool true))/\OldK s₁.heap s'.heap/\s'.os=s₁.os/\AllBare s'.gens) s₁:=by
  intro H hO hS hok hA hK;have base_of:∀{b:Addr} {o:Obj},s₁.heap.get? b=some o->H b=none->(fI s₁.heap H).get? b=some o:=λe n=>FB e n
  have noA:∀{b:Addr} {o:Obj} {es:Array DictEntry} {ep:Nat},s₁.heap.get? b=some o->o.data=.dict es ep->H b=none:=λ{b o es ep} e d=>by
   cases q:H b with
   |none=>rfl
   |some u =>have e':b=a:=hA b (by rw[q];simp);subst e';rw[ha]at e;cases e;have d':Data.seq vs.toArray _=Data.dict es ep:=d;cases d'
  have nsK:∀{b:Addr} {m:Str->Option Value},s₁.heap.Ns b m->(fI s₁.heap H).Ns b m:=λ{b m} ⟨o,es,ep,e,d,r⟩=>⟨o,es,ep,base_of e (noA e d),d,r⟩
  have hKb:K.In (fI s₁.heap H):=λb o e=>base_of (KX b o e) (by
   cases q:H b with
   |none=>rfl
   |some u =>
    have e':b=a:=hA b (by rw[q];simp);subst e'
    rw[hK (by rw[q];simp)]at e;cases e)
  have hM:Mod K mg (fI s₁.heap H):=⟨hKb,nsK hns,⟨mb,nsK hb,hbb⟩,let⟨mc,h1,h2⟩:=hlim;⟨mc,nsK h1,h2⟩⟩
  have hSb:(fI s₁.heap H).NoSeer:=by
   obtain⟨⟨mc,c1,c2,c3⟩,⟨mm,m1,m2⟩,⟨mb',b1,b2⟩,⟨mg',bm,ob,g1,g2,g3,g4,g5⟩⟩:=hse;refine⟨⟨mc,nsK c1,c2,c3⟩,⟨mm,nsK m1,m2⟩,⟨mb',nsK b1,b2⟩,⟨mg',bm,ob,nsK g1,g2,base_of g3 ?_,g4,g5⟩⟩;cases q:H bm with
   |none=>rfl
   |some u =>have e':bm=a:=hA bm (by rw[q];simp);rw[e',ha]at g3;cases g3;exact absurd (Value.type.inj g4) (by decide)
  have e0:Env0 P w K mg (fI s₁.heap H) callerA [] s₁ H:=⟨rfl,hM,λb o e=>Er e,L3 (FA _ _),trivial,λb hb=>absurd (show b∈([]:List Addr)from hb) (by simp),hok,.of_eq hg⟩;refine codeAny_mono ((F _ hKb (nsK hns) hSb).run callerA [] s₁ H ⟨[.ref a],[]⟩ [.ref a] [.ref a] _ _ hr e0 (hbind s₁ (.ref a)) (.cons rfl .nil) (hsp H hO hS)) λr s' h=>?_
  cases r with
  |error e=>exact(hCX H e s' h).elim
  |ok fl =>
   cases fl with
   |next=>exact False.elim h
   |brk=>exact False.elim h
   |cont=>exact False.elim h
   |ret u =>
    obtain⟨v,H',os,bare,un,hok',r',q⟩:=h;have q':v=.bl true:=q;subst q';obtain rfl:u=Value.bool true:=r';refine⟨rfl,OldK.of_keep λb o e=>?_,os,bare⟩;cases q:H b with
    |none=>exact un.keep b o e q (by intro z;exact absurd (show b∈([]:List Addr)from z) (by simp)) (by simp)
    |some u =>
     rcases hO b with z |⟨ob,xs,z⟩
     ·rw[q]at z;cases z
     ·have z2:=un.frzs b ob _ z;obtain⟨e1,_⟩:=hok b _ z;obtain⟨e2,_⟩:=hok' b _ z2;rw[e]at e1;cases e1;exact e2
 cases hk:K.lookup a with
 |some o =>have e:=KX a o hk;rw[ha]at e;cases e;refine core (λ_=>none) (λ_=>.inl rfl) (.inr ⟨_,vs.toArray,_,hk,rfl,rfl,rfl,by rw[K0,lenV];exact hl,by simpa using rv⟩) (λb u z=>by have z':(none:Option HO)=some u:=z;cases z') (λb z=>absurd rfl z) λz=>absurd rfl z
 |none =>
  refine core (λb=>if b=a then some (.frz { cls:=.type "list",data:=.seq vs.toArray } (.lst (ns.map V.int)))else none) (λb=>?_) (.inl (.inr ⟨{ cls:=.type "list",data:=.seq vs.toArray },if_pos rfl⟩)) (λb u z=>?_) (λb z=>?_) λ_=>hk
  ·by_cases hb:b=a
   ·exact .inr ⟨_,_,if_pos hb⟩
   ·exact .inl (if_neg hb)
  ·by_cases hb:b=a
   ·have z':=(if_pos hb).symm.trans z;cases z';subst hb;exact⟨ha,by rw[KF];exact hl,vs,_,rv,ha⟩
   ·have z':=(if_neg hb).symm.trans z;cases z'
  ·by_cases hb:b=a
   ·exact hb
   ·exact absurd (if_neg hb) z
theorem walk_ofS{l:PySem.W.OpenLaw}{n k:Nat}{q:Program}{loose:List Str}{XP:(Str->Option Value)->Heap->Prop}{YP:World->Heap->Prop}{d:DefRec}{K:Params->PySem.W.Frag}{CX:World->CXT}{sp:World->Sp}{x:Str}
 (hi:PyProof.Rows.importsNone q=true) (hn:l.most=some n) (hn2:n<=sizeLine) (hdf:d.params.defaults=[]) (hr:Room k callerA)
 (hY:∀(w:World) (h:Heap),YP w h->(K w.params).In h)
 (F:∀(w:World) (mg:Str->Option Value) (fa:Addr) (h:Heap),(K w.params).In h->h.Ns mainGlobals mg->mg d.name=some (.ref fa) ->
   ∃fd:FuncData,(∀(s:Shared) (u:Value),BindsTo s fd ⟨[u],[]⟩ [(x,u)]) /\
    ∀base:Heap,(K w.params).In base->base.Ns mainGlobals mg->base.NoSeer->FnOk l.prog w (K w.params) mg base (CX w) k fa fd [x] (sp w))
 (hsp:∀(w:World) (H:Hp) (a:Addr) (ns:List Int),ns.length<=n->sG H->SqL (K w.params) H a (ns.map V.int)->sp w [.ref a] H (λv _=>v=.bl true) λ_ _ _=>False)
 (hCX:∀(w:World) (H:Hp) (s:Shared) (e:Value) (s':Shared),CX w [] H s (λ_ _ _=>False) e s'->False) :
 PySem.W.WalkO q loose XP YP l.row.toRowW d [] (λf vs=>PySem.call f vs):=by
 refine Att.attach_call hn hdf λw s₀ s₁ mg mb fa o pm cd doc a vs ns G Y ho hd hcd hmg hobj hints hlen hg=>?_
 have KX:=hY w _ Y;obtain⟨fd,hb,hF⟩:=F w mg fa _ KX G.T.g hmg;exact Fb KX G.T.g G.T.b G.T.builtins G.T.nolimit (G.T.seer hi) hg hobj hints (KZ hlen hn2) hr hF hb (λH hO hS=>hsp w H a ns hlen hO hS) λH e s'=>hCX w H s₁ e s'
section
variable {X:Cx}{e:Env}{l:List Env}
theorem BL{pins:List (Addr×Obj)}{σ:St}{H:Hp}{s:Shared}(hs:X.base.NoSeer)(ht:X.prog.given.tree=none)(hd:X.A.depth+100<recursionLimit)(hst:X.stack=e::l)(h1:e.scope.isGenerator=false)(h2:e.scope.isCoroutine=false)(h3:e.builtins=builtinsNs)(h4:e.globals=mainGlobals)(I:Inv X pins σ H s):PylongRoom (model X.prog X.w) X.A s :=
 PylongRoom.of (I.ok.mod.nolimit.keeps I.bk) hd (SeerAt.of (hs.keeps I.bk) ht (by rw[I.ok.frames,hst]) h1 h2 h3 h4)
theorem wE(hs:X.base.NoSeer)(ht:X.prog.given.tree=none)(hd:X.A.depth+100<recursionLimit)(hst:X.stack=e::l)(h1:e.scope.isGenerator=false)(h2:e.scope.isCoroutine=false)(h3:e.builtins=builtinsNs)(h4:e.globals=mainGlobals):OpR X (binaryOp .FloorDiv) (rI (λ_ j=>0<j) λi j=>.int (i/j)):=by intro pins s σ H x y v u Q I rx ry h;obtain⟨i,j,rfl,rfl,hj,q⟩:=h;obtain⟨t,rfl⟩:=rx;obtain⟨t',rfl⟩:=ry;have hj':(0:Int)<j:=hj;refine floordiv_int (Ln hj') ?_ (.inr (BL hs ht hd hst h1 h2 h3 h4 I));rw[Int.fdiv_eq_ediv_of_nonneg _ (KI hj')];exact⟨.int (i/j),H,I.tok _,⟨_,rfl⟩,q⟩
end
section
variable {prog:Program}{w:World}{A:Around}{R:Result->Shared->Prop}{I S:Addr}{fp wr:List Addr}{n:Nat}{P:Nat->Value->Prop}{St:Nat->Heap->Prop}{val:Nat->Int}{d:Value}
end
section
variable {prog:Program}{w:World}{A:Around}{E:Value->Shared->Prop}{s:Shared}{l:Addr}{xs:Array (Int×Tok)}{d:Value}
end
section
variable {X:Cx}{K:PySem.W.Frag}{e ed:Expr}{ta td:TE}{p pos kp:Pos}
end
theorem yT:∀{bs:List Bool} {us:List Value},Vals (bs.map V.bl) us->us=bs.map Value.bool
 | [],_,h=>by cases h;rfl
 |b::bs,_,h=>by
  cases h with
  |cons r rr =>cases r;rw[yT rr];rfl
def oy:Sp:=λ_ _ _ _=>False
section
variable {X:Cx}
end
theorem xD:∀{ns:List Int} {us:List Value},Vals (ns.map V.int) us->∃l:List (Int×Tok),us=l.map (λp=>Value.int p.1 p.2)/\l.map (·.1)=ns
 | [],_,h=>by cases h;exact⟨[],rfl,rfl⟩
 |n::ns,_,h=>by
  cases h with
  |cons r rr =>obtain⟨t,rfl⟩:=r;obtain⟨l,rfl,e⟩:=xD rr;exact⟨(n,t)::l,rfl,by rw[Me,e]⟩
theorem wf:∀(l:List (Int×Tok)) (n:Nat),n<=l.length->preSum (numAt l.toArray) n=((l.take n).map (·.1)).sum
 |l,0,_=>rfl
 |l,n+1,h=>by rw[preSum,wf l n (by omega),LQ,List.getElem?_eq_getElem (by omega)];unfold numAt;rw[List.getElem?_toArray,List.getElem?_eq_getElem (by omega),Option.toList_some,Lu,List.sum_append];show _=_+(l[n].1+0);rw[LH];rfl
theorem G6{X:Cx}{K:PySem.W.Frag}(hK:X.K=K)(hc:X.calm=true):d5 X (.builtin "sum") (λxs H Q=>∃(p:Addr) (ns:List Int),xs=[.ref p]/\SqL K H p (ns.map V.int)/\Q (.int ns.sum) H):=by
 subst hK;intro pins s σ H xs us Q I r h;obtain⟨p,ns,rfl,hq,q⟩:=h;obtain⟨u,rfl,rx⟩:=gS r;cases rx;obtain⟨its,r',pl,hz⟩:=I.list hq;obtain⟨l,rfl,e⟩:=xD r'
 have hl:s.heap.IsList p (intItems l.toArray):=by
  have h1:=pl.isList;have e2:(l.map (λp=>Value.int p.1 p.2)).toArray=intItems l.toArray:=by unfold intItems;simp
  rw[<- e2];exact h1
 refine sum_intListG (I.ok.hd hc) hl λh' tk t' hk=>⟨.int ns.sum,H,I.kept hk,⟨t',?_⟩,q⟩
 have e3:preSum (numAt l.toArray) l.toArray.size=ns.sum:=by rw[K0,wf l l.length (KH _),LB,e]
 rw[e3]
section
variable {X:Cx}{K:PySem.W.Frag}
end
noncomputable def bg:Nat:=67000000
section
variable {X:Cx}{K:PySem.W.Frag}
end
section
variable {X:Cx}{tg:Expr}{K:PySem.W.Frag}
theorem Hr(bs:List Bool):(List.range bs.length).all (λi=>bs.getD i false)=bs.all id:=by
 rw[Md,Mp,Mp];constructor
 ·intro h b hb;obtain⟨i,hi,rfl⟩:=List.getElem_of_mem hb;have:=h i (MC.mpr hi);simpa[List.getD,List.getElem?_eq_getElem hi]using this
 ·intro h i hi;have hi':=MC.mp hi;have:=h bs[i] (Mr hi');simpa[List.getD,List.getElem?_eq_getElem hi']using this
end
theorem Hh{X:Cx}{K:PySem.W.Frag}(hK:X.K=K)(hc:X.calm=true):d5 X (.builtin "all") (λxs H Q=>∃(p:Addr) (bs:List Bool),xs=[.ref p]/\SqL K H p (bs.map V.bl)/\Q (.bl (bs.all id)) H):=by
 subst hK;intro pins s σ H xs us Q I r h;obtain⟨p,bs,rfl,hq,q⟩:=h;obtain⟨u,rfl,rx⟩:=gS r;cases rx;obtain⟨its,r',pl,hz⟩:=I.list hq;have e:=yT r';subst e;have hl:=pl.isList;have hlt:p<s.heap.objs.size:=by obtain⟨_,e,_⟩:=hl;exact Heap.lt_size e
 refine call_all_walk (wpAny_pyIter_list hl ?_);refine⟨_,_,_,_,_,_,λi=>bs.getD i false,rfl,Walks.list (A:=X.A.in1) (I.ok.hd hc) _ p (Lh hlt) _,⟨⟨_,Heap.get?_push_size _ rfl,rfl,rfl⟩,hl.push _⟩,λi v s' Q' E' hP hQ=>?_,λh' tk hk=>?_⟩
 ·have e:v=.bool (bs.getD i false):=by have hP':((bs.map Value.bool).toArray)[i]?=some v:=hP;simp only[List.getElem?_toArray,List.getElem?_map,Option.map_eq_some_iff]at hP';obtain⟨b,hb,rfl⟩:=hP';simp[List.getD,hb]
  subst e;exact wpAny_truthy_bool hQ
 ·refine⟨.bl (bs.all id),H,I.kept (old_kept hk),?_,q⟩;show Value.bool _=Value.bool _;rw[<- Hr bs];simp
section
variable {X:Cx}
end
end L2
namespace RM
open PySem
end RM
namespace L2
open PySem PySem.Spec PyProof.Rows
section
variable {X:Cx}{K:PySem.W.Frag}
end
section
variable {X:Cx}{pins:List (Addr×Obj)}{σ:St}{H:Hp}{s:Shared}{h':Heap}
end
section
variable {X:Cx}
end
theorem GX{n:Nat}{js:List Nat}{K:PySem.W.Frag}{a:Addr}{xs:List V}{g:TG}{te:TE}{σ0:St}{H:Hp}{Q:VK}(Pv:Nat->List V->St->Hp->Prop)(hz:xs.length<=sizeLine)(h0:Pv 0 [] (gK n js σ0) H)(hl:∀i ys σ H,i<=xs.length->Pv i ys σ H->SqT K H a xs/\ys.length<=i)
 (hs:∀i x ys σ H,xs[i]?=some x->Pv i ys σ H->g x σ H λσ2 H2=>te σ2 H2 λy H3=>Pv (i+1) (ys++[y]) σ2 H3) (hd:∀ys σ H p,Pv xs.length ys σ H->H p=none->Q (.ref p) (upd H p (.lst ys))) :
 nV n js g te σ0 Q (Itt K a) H:=by
 refine⟨λi m ys σ H=>m=xs.length-i/\i<=xs.length/\Pv i ys σ H,⟨xs.length,by simp,KJ _,h0⟩,?_⟩;rintro i m ys σ H ⟨rfl,hi,p⟩;obtain⟨q,hy⟩:=hl i ys σ H hi p;by_cases hlt:i<xs.length
 ·refine .inr ⟨⟨xs,xs[i],q,by simp[hlt]⟩,by omega,λy σ'' H''=>Pv (i+1) (ys++[y]) σ'' H'',λy σ' H' p'=>⟨xs.length-(i+1),by omega,rfl,hlt,p'⟩,λx H' y=>?_⟩;obtain⟨e,y⟩:=y;subst e;exact hs i x ys σ _ (y xs q) p
 ·have e:i=xs.length:=by omega
  subst e;exact .inl ⟨⟨xs,q,KH _⟩,λr hr=>hd ys σ H r p hr⟩
section
variable {X:Cx}{K:PySem.W.Frag}
def vY(K:PySem.W.Frag):R2:=λx y H Q=>∃(a b:Addr) (ns ms:List Int),x=.ref a/\y=.ref b/\SqT K H a (ns.map V.int)/\SqT K H b (ms.map V.int)/\Q (.bl (!decide (ns=ms))) H
theorem ng{us:List Value}{ns:List Int}(h:IntsAre us ns):us.length=ns.length:=by induction h<;>simp[*]
theorem xE{us:List Value}{ns:List Int}(h:IntsAre us ns):∀(j:Nat) (hj:j<us.length),∃(n:Int) (t:Tok),us[j]=.int n t/\ns[j]?=some n:=by
 induction h with
 |nil=>intro j hj;cases hj
 |cons n t _ ih =>
  intro j hj;cases j with
  |zero=>exact⟨n,t,rfl,rfl⟩
  |succ j=>obtain⟨n',t',e1,e2⟩:=ih j (Nat.lt_of_succ_lt_succ hj);exact⟨n',t',e1,e2⟩
theorem Hs{ns ms:List Int}{n:Nat}(hn:min ns.length ms.length=n):((List.range n).all (λj=>decide (ns[j]?=ms[j]?))&&ns.length == ms.length)=decide (ns=ms):=by
 rw[Md];simp only[Mo,Mp,MC,decide_eq_true_eq,beq_iff_eq];constructor
 ·rintro⟨h1,h2⟩;refine List.ext_getElem? λj=>?_
  by_cases hj:j<n
  ·exact h1 j hj
  ·rw[List.getElem?_eq_none (by omega),List.getElem?_eq_none (by omega)]
 ·rintro rfl;exact⟨λ_ _=>rfl,rfl⟩
theorem CG(hu:X.A.units+66<cLine):OpR X (compareOp .NotEq) (vY X.K):=by
 intro pins s σ H x y v u Q I rx ry h;obtain⟨a,b,ns,ms,rfl,rfl,ha,hb,q⟩:=h;cases rx;cases ry;obtain⟨i1,r1,p1,_⟩:=I.tuple ha;obtain⟨i2,r2,p2,_⟩:=I.tuple hb;have z1:=jw r1;have z2:=jw r2;refine SeqAt.RcNeAt.tuples (e:=λj=>decide (ns[j]?=ms[j]?)) p1 p2 (by omega) (λj h1 h2=>?_) _ _ _ _ ⟨.bl _,H,I,?_,q⟩
 ·obtain⟨n,t,e1,g1⟩:=xE z1 j h1;obtain⟨m,t',e2,g2⟩:=xE z2 j h2;have w1:i1.toArray[j]=i1[j]'h1:=rfl;have w2:i2.toArray[j]=i2[j]'h2:=rfl;rw[w1,w2,e1,e2,g1,g2];have:=(MeetsSeq.EqGives.int n m t t').at X.A.in1 s;have e:decide (some n=some m)=(n == m):=by rw[Md];simp
  rw[e];exact this
 ·show Value.bool _=Value.bool _
  congr 2
  rw[<- Hs (n:=min i1.toArray.size i2.toArray.size) (by rw[K0,K0,ng z1,ng z2])];rw[K0,K0,ng z1,ng z2]
theorem CF(h:X.K=K)(hu:X.A.units+66<cLine):OpR X (compareOp .NotEq) (vY K):=by subst h;exact CG hu
theorem AB(h:X.K=K):SlR X (vX K):=by subst h;exact AC
theorem wD:OpR X (compareOp .Is) (λx y H Q=>∃i j:Bool,x=.bl i/\y=.bl j/\Q (.bl (i == j)) H):=by intro pins s σ H x y v u Q I rx ry h;obtain⟨i,j,rfl,rfl,q⟩:=h;cases rx;cases ry;exact is_bool (bE I q rfl)
end
section
variable {X:Cx}{K:PySem.W.Frag}
theorem GJ(b:Bool):MeetsSeq.EqGives (.bool b) (.bool b) true:=λprog w A E s Q h=>by unfold eqBool;show wpAny _ _ (if(Value.bool b == Value.bool b)=true then _ else _) Q E s;rw[if_pos (beq_self_eq_true _)];exact wpAny_bind (wpAny_rule (wpAny_pure h))
theorem sv:∀{bs:List Bool} {us:List Value},Vals (bs.map V.bl) us->us=bs.map Value.bool
 | [],_,.nil=>rfl
 |b::bs,_,.cons h t=>by cases h;rw[sv t];rfl
end
def v4(K:PySem.W.Frag):R2:=λx y H Q=>∃(a b:Addr) (bs:List Bool),x=.ref a/\y=.ref b/\SqL K H a (bs.map V.bl)/\SqL K H b (bs.map V.bl)/\Q (.bl false) H
section
variable {X:Cx}{K:PySem.W.Frag}
theorem CJ(hu:X.A.units+66<cLine):OpR X (compareOp .NotEq) (v4 X.K):=by
 intro pins s σ H x y v u Q I rx ry h;obtain⟨a,b,bs,rfl,rfl,ha,hb,q⟩:=h;cases rx;cases ry;obtain⟨i1,r1,p1,_⟩:=I.list ha;obtain⟨i2,r2,p2,_⟩:=I.list hb;obtain rfl:=sv r1;obtain rfl:=sv r2;refine SeqAt.RcNeAt.lists (e:=λ_=>true) p1.isList p2.isList rfl (by omega) (λj h1 h2=>?_) _ _ _ _ ⟨.bl _,H,I,?_,q⟩
 ·have e:(bs.map Value.bool).toArray[j]=Value.bool (bs[j]'(by simpa using h1)):=by simp
  rw[e];exact(GJ _).at X.A.in1 s
 ·show Value.bool _=Value.bool _
  congr 1
  rw[show(List.range _).all (λ_=>true)=true from Mp.mpr λ_ _=>rfl];rfl
theorem CI(h:X.K=K)(hu:X.A.units+66<cLine):OpR X (compareOp .NotEq) (v4 K):=by subst h;exact CJ hu
end
end L2
namespace RM
noncomputable def cf(l:List Int)(k:Nat):Int:=l.getD k 0
theorem cD(k:Nat):cf [] k=0:=by simp[cf]
theorem sh(x:Int)(l:List Int):cf (x::l) 0=x:=rfl
theorem nM(x:Int)(l:List Int)(k:Nat):cf (x::l) (k+1)=cf l k:=rfl
theorem bV{l:List Int}{k:Nat}(h:l.length<=k):cf l k=0:=by unfold cf;rw[List.getD,List.getElem?_eq_none_iff.mpr h];rfl
theorem da{l:List Int}{k:Nat}(h:k<l.length):cf l k=l[k]:=by unfold cf;rw[List.getD,List.getElem?_eq_getElem h];rfl
theorem sj{l:List Int}{k:Nat}{x:Int}(h:l[k]?=some x):cf l k=x:=by unfold cf;rw[List.getD,h];rfl
theorem fm{l:List Int}{k:Nat}(h:k<l.length):l[k]?=some (cf l k):=by rw[da h,List.getElem?_eq_getElem h]
theorem yQ{l r:List Int}{k:Nat}(h:k<l.length):cf (l++r) k=cf l k:=by unfold cf;rw[List.getD,List.getD,List.getElem?_append_left h]
theorem lc{l r:List Int}{k:Nat}(h:l.length<=k):cf (l++r) k=cf r (k-l.length):=by unfold cf;rw[List.getD,List.getD,List.getElem?_append_right h]
theorem nO{l:List Int}{j k:Nat}{x:Int}(h:j<l.length):cf (l.set j x) k=if k=j then x else cf l k:=by
 unfold cf;rw[List.getD,List.getD,List.getElem?_set];by_cases e:j=k
 ·subst e;simp[h]
 ·rw[if_neg e,if_neg (λz=>e z.symm)]
theorem k8(n k:Nat):cf (List.replicate n 0) k=0:=by unfold cf;rw[List.getD,List.getElem?_replicate];split<;>rfl
theorem nQ(f:Nat->Int)(n k:Nat):cf ((List.range n).map f) k=if k<n then f k else 0:=by
 unfold cf;rw[List.getD,List.getElem?_map];by_cases h:k<n
 ·rw[if_pos h,List.getElem?_range h];rfl
 ·rw[if_neg h,List.getElem?_eq_none_iff.mpr (by simpa using h)];rfl
theorem fu{a b:List Int}(hl:a.length=b.length)(h:∀k,k<a.length->cf a k=cf b k):a=b:=by apply List.ext_getElem hl;intro k h1 h2;rw[<- da h1,<- da h2];exact h k h1
noncomputable def trim(l:List Int):List Int:=(l.reverse.dropWhile (· == 0)).reverse
theorem sZ:trim []=[]:=rfl
theorem lG(l:List Int):trim (l++[0])=trim l:=by unfold trim;rw[List.reverse_append];rfl
theorem jW(l:List Int){x:Int}(h:x≠0):trim (l++[x])=l++[x]:=by unfold trim;rw[List.reverse_append];show((x::l.reverse).dropWhile (· == 0)).reverse=_;rw[List.dropWhile_cons_of_neg (by simpa using h)];simp
def Tr(l:List Int):Prop:=∀n,l.length=n+1->cf l n≠0
theorem dk(l:List Int):l=[]\/∃r x,l=r++[x]:=by
 cases h:l.reverse with
 |nil=>left;simpa using h
 |cons x r=>right;exact⟨r.reverse,x,by rw[<- List.reverse_reverse l,h];simp⟩
theorem jI(r:List Int)(x:Int):cf (r++[x]) r.length=x:=by rw[lc (KH _),LX];rfl
theorem zR:Tr []:=λn h=>by simp at h
theorem tr_snoc{r:List Int}{x:Int}:Tr (r++[x])↔x≠0:=by
 constructor
 ·intro h;have:=h r.length (by simp)
  rwa [jI]at this
 ·intro h n hn;have e:n=r.length:=by simp at hn;omega
  subst e
  rwa [jI]
theorem lE:∀(n:Nat) (l:List Int),l.length=n->Tr (trim l)/\(trim l).length<=l.length/\∀k,cf (trim l) k=cf l k
 |0,l,h=>by have:l=[]:=Lv.mp h;subst this;exact⟨zR,KH _,λ_=>rfl⟩
 |n+1,l,h=>by
  rcases dk l with rfl |⟨r,x,rfl⟩
  ·simp at h
  ·by_cases hx:x=0
   ·subst hx;obtain⟨h1,h2,h3⟩:=lE n r (by simpa using h);rw[lG];refine⟨h1,by rw[Lb];exact KZ h2 (Nat.le_add_right _ _),λk=>?_⟩;rw[h3];by_cases hk:k<r.length
    ·rw[yQ hk]
    ·rw[lc (LA hk),bV (LA hk)];cases e:k-r.length with
     |zero=>rfl
     |succ j=>rw[nM,cD]
   ·rw[jW r hx];exact⟨tr_snoc.mpr hx,KH _,λ_=>rfl⟩
theorem fb(l:List Int):Tr (trim l):=(lE _ l rfl).1
theorem rF(l:List Int):(trim l).length<=l.length:=(lE _ l rfl).2.1
theorem fM(l:List Int)(k:Nat):cf (trim l) k=cf l k:=(lE _ l rfl).2.2 k
theorem lH{l:List Int}(h:Tr l):trim l=l:=by
 rcases dk l with rfl |⟨r,x,rfl⟩
 ·rfl
 ·exact jW r (tr_snoc.mp h)
theorem kY{a b:List Int}(ha:Tr a)(hb:Tr b)(h:∀k,cf a k=cf b k):a=b:=by
 have le:∀{a b:List Int},Tr a->(∀k,cf a k=cf b k)->a.length<=b.length:=λ{a b} ha h=>by
  cases e:a.length with
  |zero=>exact KJ _
  |succ n =>apply Classical.byContradiction;intro hn;exact ha n e (by rw[h n,bV (by omega)])
 have hl:a.length=b.length:=Nat.le_antisymm (le ha h) (le hb λk=>(h k).symm);exact fu hl λk _=>h k
theorem sX{l:List Int}{n:Nat}(hn:n<l.length)(h:cf l n=0):trim (l.take (n+1))=trim (l.take n):=by rw[LQ,fm hn,h];exact lG _
theorem sY{l:List Int}{n:Nat}(hn:n<l.length)(h:cf l n≠0):trim (l.take (n+1))=l.take (n+1):=by rw[LQ,fm hn];exact jW _ h
noncomputable def gj(f:Int)(a b:List Int):List Int:=(List.range (max a.length b.length)).map λk=>cf a k+f*cf b k
theorem k9(f:Int)(a b:List Int)(k:Nat):cf (gj f a b) k=cf a k+f*cf b k:=by
 unfold gj;rw[nQ];by_cases h:k<max a.length b.length
 ·rw[if_pos h]
 ·have h1:a.length<=k:=by omega
  have h2:b.length<=k:=by omega
  rw[if_neg h,bV h1,bV h2];simp
noncomputable def gP(a b:List Int):List Int:=trim (gj 1 a b)
noncomputable def cu(a b:List Int):List Int:=trim (gj (-1) a b)
noncomputable def tm(a b:List Int)(n i:Nat):Int:=if i<=n then cf a i*cf b (n-i)else 0
noncomputable def sm(a b:List Int)(n:Nat):Nat->Int
 |0=>0
 |j+1=>sm a b n j+tm a b n j
noncomputable def aR(a b:List Int)(n:Nat):Int:=sm a b n a.length
noncomputable def am(a b:List Int):List Int:=if a=[]\/b=[]then[]else(List.range (a.length+b.length-1)).map (aR a b)
theorem zU{a b:List Int}{n i:Nat}(h:a.length<=i):tm a b n i=0:=by
 unfold tm;split
 ·rw[bV h,Lc]
 ·rfl
theorem lJ{a b:List Int}{n i:Nat}(h:b.length<=n-i):tm a b n i=0:=by
 unfold tm;split
 ·rw[bV h,KO]
 ·rfl
theorem j9{a b:List Int}{n:Nat}:∀{j:Nat},(∀i,i<j->tm a b n i=0)->sm a b n j=0
 |0,_=>rfl
 |j+1,h=>by rw[sm,j9 λi hi=>h i (Nat.lt_succ_of_lt hi),h j (LK _)];rfl
theorem wV{a b:List Int}{n:Nat}(h:a.length+b.length<=n+1):aR a b n=0:=by apply j9;intro i hi;exact lJ (by omega)
theorem kH{a b:List Int}{la lb:Nat}(ha:a.length=la+1)(hb:b.length=lb+1):aR a b (la+lb)=cf a la*cf b lb:=by unfold aR;rw[ha,sm,j9 λi hi=>lJ (by omega)];unfold tm;rw[if_pos (Nat.le_add_right _ _),Nat.add_sub_cancel_left,Lw]
theorem aW(a b:List Int)(n:Nat):cf (am a b) n=aR a b n:=by
 unfold am;by_cases h:a=[]\/b=[]
 ·rw[if_pos h,cD]
  symm
  apply j9;intro i hi;rcases h with rfl |rfl
  ·simp at hi
  ·exact lJ (KJ _)
 ·rw[if_neg h,nQ];by_cases hn:n<a.length+b.length-1
  ·rw[if_pos hn]
  ·rw[if_neg hn,wV (by omega)]
theorem gU{a b:List Int}(ha:Tr a)(hb:Tr b):Tr (am a b):=by
 intro n hn;rw[aW];by_cases h:a=[]\/b=[]
 ·unfold am at hn;rw[if_pos h]at hn;simp at hn
 ·have h1:a≠[]:=λz=>h (.inl z)
  have h2:b≠[]:=λz=>h (.inr z)
  obtain⟨la,ea⟩:∃la,a.length=la+1:=⟨a.length-1,by have:=KL.mpr h1;omega⟩;obtain⟨lb,eb⟩:∃lb,b.length=lb+1:=⟨b.length-1,by have:=KL.mpr h2;omega⟩;unfold am at hn
  rw[if_neg h,KF,LY]at hn;have e:n=la+lb:=by omega
  subst e;rw[kH ea eb];exact KM (ha la ea) (hb lb eb)
theorem wW{a b acc:List Int}{j k:Nat}(hj:j<a.length)(hk:k<b.length)(hl:j+k<acc.length)
 (h:∀n,n<acc.length->cf acc n=sm a b n j+(if j<=n/\n-j<k then tm a b n j else 0)) :
 ∀n,n<(acc.set (j+k) (cf acc (j+k)+cf a j*cf b k)).length->cf (acc.set (j+k) (cf acc (j+k)+cf a j*cf b k)) n=sm a b n j+(if j<=n/\n-j<k+1 then tm a b n j else 0):=by
 intro n hn;rw[LW]at hn;rw[nO hl];by_cases e:n=j+k
 ·subst e;rw[if_pos rfl,h _ hl,if_neg (by omega),if_pos ⟨by omega,by omega⟩];unfold tm;rw[if_pos (by omega),Nat.add_sub_cancel_left,LH]
 ·rw[if_neg e,h n hn]
  congr 1
  by_cases h1:j<=n/\n-j<k
  ·rw[if_pos h1,if_pos ⟨h1.1,by omega⟩]
  ·rw[if_neg h1,if_neg (by omega)]
theorem wY{a b acc:List Int}{j:Nat}(h:∀n,n<acc.length->cf acc n=sm a b n j+(if j<=n/\n-j<b.length then tm a b n j else 0)):∀n,n<acc.length->cf acc n=sm a b n (j+1):=by
 intro n hn;rw[h n hn,sm]
 congr 1
 by_cases h1:j<=n/\n-j<b.length
 ·rw[if_pos h1]
 ·rw[if_neg h1];by_cases h2:j<=n
  ·rw[lJ (by omega)]
  ·unfold tm;rw[if_neg h2]
theorem wX{a b acc:List Int}{j:Nat}(h:∀n,n<acc.length->cf acc n=sm a b n j):∀n,n<acc.length->cf acc n=sm a b n j+(if j<=n/\n-j<0 then tm a b n j else 0):=by intro n hn;rw[if_neg (by omega),LH];exact h n hn
theorem wZ{a b acc:List Int}(hl:a.length+b.length<=acc.length+1)(h:∀n,n<acc.length->cf acc n=sm a b n a.length)(n:Nat):cf acc n=aR a b n:=by
 by_cases hn:n<acc.length
 ·exact h n hn
 ·rw[bV (LA hn),wV (by omega)]
theorem Hv(a b:List Int):trim ((List.range (max a.length b.length)).map λk=>cf a k+cf b k)=gP a b:=by
 unfold gP gj
 congr 2;funext k;rw[K4]
theorem Am(a b:List Int):trim ((List.range (max a.length b.length)).map λk=>cf a k-cf b k)=cu a b:=by
 unfold cu gj
 congr 2;funext k;omega
noncomputable def dv(t b:Int):Int:=if b<0 then -((Nat.gcd t.natAbs b.natAbs:Nat):Int)else((Nat.gcd t.natAbs b.natAbs:Nat):Int)
noncomputable def rt(t b:Int):Int:=t.fdiv (dv t b)
noncomputable def rb(t b:Int):Int:=b.fdiv (dv t b)
theorem kR{t b:Int}(hb:b≠0):0<Nat.gcd t.natAbs b.natAbs:=Nat.gcd_pos_of_pos_right _ (Mg.mpr hb)
theorem nI{t b:Int}(hb:b≠0):dv t b≠0:=by have:=@kR t b hb;unfold dv;split<;>omega
theorem ix(t b:Int):(dv t b).natAbs=Nat.gcd t.natAbs b.natAbs:=by unfold dv;split<;>omega
theorem GN(t b:Int):dv t b∣t:=MP.mp (by rw[ix];exact LZ _ _)
theorem GM(t b:Int):dv t b∣b:=MP.mp (by rw[ix];exact Mh _ _)
theorem x4{a d:Int}(hd:d≠0)(h:d∣a):d*a.fdiv d=a:=by obtain⟨c,rfl⟩:=h;rw[Int.mul_fdiv_cancel_left c hd]
theorem km{t b:Int}(hb:b≠0):dv t b*rt t b=t:=x4 (nI hb) (GN t b)
theorem je{t b:Int}(hb:b≠0):dv t b*rb t b=b:=x4 (nI hb) (GM t b)
theorem cR{t b:Int}(hb:b≠0):0<rb t b:=by
 have h1:=@je t b hb;have h2:=@kR t b hb;by_cases hn:b<0
 ·have hd:dv t b<0:=by unfold dv;rw[if_pos hn];omega
  apply Classical.byContradiction;intro h;have:0<=dv t b*rb t b:=Ms (KI hd) (by omega);omega
 ·have hd:0<dv t b:=by unfold dv;rw[if_neg hn];omega
  apply Classical.byContradiction;intro h;have:dv t b*rb t b<=0:=Int.mul_nonpos_of_nonneg_of_nonpos (KI hd) (by omega);omega
theorem qW{t b:Int}(hb:b≠0):Nat.gcd (rt t b).natAbs (rb t b).natAbs=1:=by
 have h1:t.natAbs=Nat.gcd t.natAbs b.natAbs*(rt t b).natAbs:=by rw[<- ix,<- Lj,km hb]
 have h2:b.natAbs=Nat.gcd t.natAbs b.natAbs*(rb t b).natAbs:=by rw[<- ix,<- Lj,je hb]
 have hp:=@kR t b hb
 have e:Nat.gcd t.natAbs b.natAbs=Nat.gcd t.natAbs b.natAbs*Nat.gcd (rt t b).natAbs (rb t b).natAbs:=by rw[<- Nat.gcd_mul_left,<- h1,<- h2]
 exact(Nat.eq_of_mul_eq_mul_left hp (by rw[Nat.mul_one];exact e)).symm
theorem mK{t b:Int}(hb:b≠0):rt t b*b=t*rb t b:=by
 have e1:=@km t b hb;have e2:=@je t b hb
 calc rt t b*b=rt t b*(dv t b*rb t b):=by rw[e2]
  _=(dv t b*rt t b)*rb t b:=by rw[<- KQ,K8 (rt t b)]
  _=t*rb t b:=by rw[e1]
theorem BF{t b:Int}(hb:b≠0):(rt t b).natAbs<=t.natAbs:=by
 have h1:t.natAbs=Nat.gcd t.natAbs b.natAbs*(rt t b).natAbs:=by rw[<- ix,<- Lj,km hb]
 rw[h1];exact Mt _ (kR hb)
theorem BP{t b:Int}(hb:b≠0):(rb t b).natAbs<=b.natAbs:=by
 have h1:b.natAbs=Nat.gcd t.natAbs b.natAbs*(rb t b).natAbs:=by rw[<- ix,<- Lj,je hb]
 rw[h1];exact Mt _ (kR hb)
noncomputable def sg(x:Int):Int:=if x<0 then -1 else if 0<x then 1 else 0
theorem AS(x:Int):sg (-x) = -sg x:=by unfold sg;split<;>split<;>(try split)<;>(try split)<;>omega
theorem AT{x p:Int}(hp:0<p):sg (x*p)=sg x:=by
 unfold sg;by_cases h1:x<0
 ·rw[if_pos h1,if_pos (MQ h1 hp)]
 ·by_cases h2:0<x
  ·have:=KG h2 hp;rw[if_neg h1,if_pos h2,if_neg (by omega),if_pos this]
  ·obtain rfl:x=0:=by omega
   simp
noncomputable def hv(t b:Int):List Int->Int
 | []=>0
 |v::l=>v*b^(l.length+1)+t*hv t b l
theorem nj(t b:Int):hv t b []=0:=rfl
theorem dU(t b v:Int)(l:List Int):hv t b (v::l)=v*b^(l.length+1)+t*hv t b l:=rfl
noncomputable def mb(a b:Int):Int->List Int->List Int
 |c,[]=>[c]
 |c,x::l=>(-a*x+c)::mb a b (b*x) l
theorem mZ(a b:Int):∀(c:Int) (l:List Int),(mb a b c l).length=l.length+1
 |c,[]=>rfl
 |c,x::l=>by show(mb a b (b*x) l).length+1=_;rw[mZ];rfl
theorem iC(a b:Int):∀(c:Int) (l:List Int) (k:Nat),cf (mb a b c l) k = -a*cf l k+(if k=0 then c else b*cf l (k-1))
 |c,[],0=>by show c=_;rw[cD];simp
 |c,[],k+1=>by show cf [] k=_;rw[cD,cD];simp[cD]
 |c,x::l,0=>rfl
 |c,x::l,k+1=>by
  show cf (mb a b (b*x) l) k=_;rw[iC a b (b*x) l k,nM,if_neg (Nat.succ_ne_zero k)];cases k with
  |zero=>rfl
  |succ k=>rw[if_neg (Nat.succ_ne_zero k)];rfl
theorem xP(t u a b:Int):∀(c:Int) (l:List Int),hv t u (mb a b c l)=c*u^(l.length+1)+(b*t-a*u)*hv t u l
 |c,[]=>by show c*u^1+t*0=c*u^1+(b*t-a*u)*0;simp
 |c,x::l=>by show(-a*x+c)*u^((mb a b (b*x) l).length+1)+t*hv t u (mb a b (b*x) l)=c*u^(l.length+1+1)+(b*t-a*u)*(x*u^(l.length+1)+t*hv t u l);rw[xP t u a b (b*x) l,mZ];generalize hv t u l=h;rw[K5 u (l.length+1)];generalize u^(l.length+1)=p;grind
theorem si(x y:Int)(k:Nat):cf [x,y] k=if k=0 then x else if k=1 then y else 0:=by
 rcases k with _ |_ |k
 ·rfl
 ·rfl
 ·rw[if_neg (by omega),if_neg (by omega)];exact bV (by simp)
theorem uY(l:List Int)(x y:Int)(n:Nat):∀j,sm l [x,y] n j=(if n<j then cf l n*x else 0)+(if 1<=n/\n-1<j then cf l (n-1)*y else 0)
 |0=>by rw[if_neg (by omega),if_neg (by omega)];rfl
 |j+1=>by
  show sm l [x,y] n j+tm l [x,y] n j=_;rw[uY l x y n j];unfold tm;rw[si];by_cases h1:n<j
  ·rw[if_pos h1,if_neg (show ¬j<=n by omega),if_pos (show n<j+1 by omega),LH];by_cases h2:1<=n
   ·rw[if_pos ⟨h2,by omega⟩,if_pos ⟨h2,by omega⟩]
   ·rw[if_neg (λz=>h2 z.1),if_neg (λz=>h2 z.1)]
  ·rw[if_neg h1,if_pos (show j<=n by omega),Lw];by_cases h2:n=j
   ·subst h2;rw[LX,if_pos rfl,if_pos (LK _),L6];by_cases h3:1<=n
    ·rw[if_pos ⟨h3,by omega⟩,if_pos ⟨h3,by omega⟩]
    ·rw[if_neg (λz=>h3 z.1),if_neg (λz=>h3 z.1)]
   ·rw[if_neg (show ¬n-j=0 by omega),if_neg (show ¬n<j+1 by omega),Lw,if_neg (show ¬(1<=n/\n-1<j) by omega),Lw];by_cases h3:n-j=1
    ·rw[if_pos h3,if_pos (show 1<=n/\n-1<j+1 by omega),show n-1=j by omega]
    ·rw[if_neg h3,if_neg (show ¬(1<=n/\n-1<j+1) by omega),KO]
theorem EJ{a b:Int}{l:List Int}(h:l≠[]):am l [-a,b]=mb a b 0 l:=by
 apply fu
 ·rw[mZ];unfold am;rw[if_neg (by simp[h]),KF,LY];simp
 ·intro k _;rw[aW,iC];unfold aR;rw[uY]
  have e1:(if k<l.length then cf l k * -a else 0) = -a*cf l k:=by
   by_cases hk:k<l.length
   ·rw[if_pos hk,K8]
   ·rw[if_neg hk,bV (LA hk),KO]
  have e2:(if 1<=k/\k-1<l.length then cf l (k-1)*b else 0)=if k=0 then 0 else b*cf l (k-1):=by
   by_cases h0:k=0
   ·rw[if_neg (by omega),if_pos h0]
   ·rw[if_neg h0];by_cases hk:k-1<l.length
    ·rw[if_pos (by omega),K8]
    ·rw[if_neg (by omega),bV (LA hk),KO]
  rw[e1,e2]
theorem ni(g t b:Int):∀l:List Int,hv (g*t) (g*b) l=g^l.length*hv t b l
 | []=>by simp[nj]
 |v::l=>by rw[dU,dU,ni g t b l,Int.mul_pow];show v*(g^(l.length+1)*b^(l.length+1))+g*t*(g^l.length*hv t b l)=g^(l.length+1)*(v*b^(l.length+1)+t*hv t b l);rw[K5 g l.length];generalize b^(l.length+1)=p;generalize g^l.length=q;generalize hv t b l=h;grind
theorem xO(t u c:Int):hv t u [c]=c*u:=by show c*u^1+t*0=c*u;grind
theorem GO(t b:Int){l:List Int}{n:Nat}(h:n<l.length):hv t b (l.drop n)=cf l n*b^(l.length-n)+t*hv t b (l.drop (n+1)):=by
 rw[MF h,dU,LL,da h];have e:l.length-(n+1)+1=l.length-n:=by omega
 rw[e]
noncomputable def lv(t b:Int):List Int->Int
 | []=>0
 |v::l=>v*b^l.length+t*lv t b l
theorem rL(t b:Int):∀l:List Int,hv t b l=b*lv t b l
 | []=>by show(0:Int)=b*0;simp
 |v::l=>by show v*b^(l.length+1)+t*hv t b l=b*(v*b^l.length+t*lv t b l);rw[rL t b l,K5];generalize b^l.length=p;generalize lv t b l=x;grind
theorem yq(t b:Int){l:List Int}{n:Nat}(h:n<l.length):lv t b (l.drop n)=cf l n*b^(l.length-(n+1))+t*lv t b (l.drop (n+1)):=by
 have e:l.drop n=cf l n::l.drop (n+1):=by rw[da h];exact MF h
 rw[e];show cf l n*b^(l.drop (n+1)).length+_=_;rw[LL]
noncomputable def chF(z:Int×Int)(s:Int):Int×Int:=(if s*z.2<0 then z.1+1 else z.1,if s=0 then z.2 else s)
noncomputable def chS(l:List Int):Int×Int:=l.foldl chF (0,0)
theorem yM(l:List Int)(s:Int):chS (l++[s])=chF (chS l) s:=by unfold chS;rw[List.foldl_append];rfl
theorem yN:∀(n:Nat) (l:List Int),l.length=n->(∀s∈l,s.natAbs<=1)->(chS l).2.natAbs<=1/\0<=(chS l).1/\(chS l).1<=l.length
 |n,l,hn,h=>by
  rcases dk l with rfl |⟨r,s,rfl⟩
  ·decide
  ·have hr:r.length+1=n:=by rw[<- hn,Lb];rfl
   obtain⟨i1,i2,i3⟩:=yN (n-1) r (by omega) (λx hx=>h x (Mm _ hx));have hs:=h s (by simp);rw[yM];unfold chF;refine⟨?_,?_,?_⟩
   ·dsimp only;split
    ·exact i1
    ·exact hs
   ·dsimp only;split<;>omega
   ·dsimp only;rw[Lb];show _<=((r.length+1:Nat):Int);split<;>omega
termination_by n=>n
theorem G4(l:List Int)(h:∀s∈l,s.natAbs<=1):(chS l).2.natAbs<=1/\0<=(chS l).1/\(chS l).1<=l.length:=yN _ l rfl h
theorem vj(x:Int):(sg x).natAbs<=1:=by unfold sg;split<;>(try split)<;>decide
theorem u7{q q' b:List Int}{c l:Int}{p n:Nat}(h:∀k,cf q' k=c*cf q k+(if k=p then l else 0)) :
 ∀j,sm q' b n j=c*sm q b n j+(if p<j/\p<=n then l*cf b (n-p)else 0)
 |0=>by rw[sm,sm,if_neg (by omega)];simp
 |j+1=>by
  rw[sm,sm,u7 h j];unfold tm;by_cases hj:j<=n
  ·rw[if_pos hj,if_pos hj,h j];by_cases e:j=p
   ·subst e;rw[if_pos rfl,if_neg (by omega),if_pos ⟨by omega,hj⟩];grind
   ·rw[if_neg e];by_cases h2:p<j/\p<=n
    ·rw[if_pos h2,if_pos ⟨by omega,h2.2⟩];grind
    ·rw[if_neg h2,if_neg (by omega)];grind
  ·rw[if_neg hj,if_neg hj];by_cases h2:p<j/\p<=n
   ·rw[if_pos h2,if_pos ⟨by omega,h2.2⟩];grind
   ·rw[if_neg h2,if_neg (by omega)];grind
theorem EI{q q' b:List Int}{c l:Int}{p n:Nat}(hl:q'.length=q.length)(hp:p<q.length)(h:∀k,cf q' k=c*cf q k+(if k=p then l else 0)) :
 aR q' b n=c*aR q b n+(if p<=n then l*cf b (n-p)else 0):=by
 unfold aR;rw[hl,u7 h];by_cases h2:p<=n
 ·rw[if_pos h2,if_pos ⟨hp,h2⟩]
 ·rw[if_neg h2,if_neg (by omega)]
noncomputable def scL(c:Int)(l:List Int):List Int:=l.map λx=>c*x
theorem cP(c:Int)(l:List Int):(scL c l).length=l.length:=by unfold scL;rw[KF]
theorem bK(c:Int)(l:List Int)(k:Nat):cf (scL c l) k=c*cf l k:=by
 by_cases h:k<l.length
 ·unfold cf scL;simp[h]
 ·rw[bV (by rw[cP];omega),bV (by omega)];simp
noncomputable def iq(r b:List Int)(p:Nat)(l:Int):List Int:=(List.range (r.length-1)).map λk=>cf r k-(if p<=k then l*cf b (k-p)else 0)
theorem xt(r b:List Int)(p:Nat)(l:Int):(iq r b p l).length=r.length-1:=by unfold iq;simp
theorem nR(r b:List Int)(p:Nat)(l:Int)(k:Nat):cf (iq r b p l) k=if k<r.length-1 then cf r k-(if p<=k then l*cf b (k-p)else 0)else 0:=by unfold iq;rw[nQ]
theorem AR(x:Int):sg x*x=(x.natAbs:Int):=by unfold sg;split<;>(try split)<;>omega
noncomputable def dG(b:List Int)(z:List Int×List Int)(i:Nat):List Int×List Int :=
 let s:Int:=((cf b (b.length-1)).natAbs:Int)
 let l:=sg (cf b (b.length-1))*cf z.2 (z.2.length-1)
 ((scL s z.1).set i l,iq (scL s z.2) b i l)
noncomputable def aV(a b:List Int):Nat->List Int×List Int
 |0=>(List.replicate (a.length+1-b.length) 0,a)
 |i+1=>dG b (aV a b i) (a.length+1-b.length-1-i)
structure DivInv(a b:List Int)(i:Nat):Prop where
 lq:(aV a b i).1.length=a.length+1-b.length
 lr:(aV a b i).2.length=a.length-i
 low:∀k,k+i<a.length+1-b.length->cf (aV a b i).1 k=0
 eqn:∀n,((cf b (b.length-1)).natAbs:Int)^i*cf a n=aR (aV a b i).1 b n+cf (aV a b i).2 n
theorem rp{a b:List Int}{n:Nat}(h:∀k,cf a k=0):aR a b n=0:=by apply j9;intro i _;unfold tm;rw[h i];simp
theorem GS{A B i:Nat}(hi:i+1<=A+1-B)(hb:0<B):∃p,A+1-B=p+i+1/\p+i+B=A:=⟨A-B-i,by omega,by omega⟩
theorem yv(p i:Nat):p<p+i+1:=Nat.lt_succ_of_le (Nat.le_add_right _ _)
theorem nJ{P A C M R:Int}(en:P*A=M+R):P*C*A=C*M+C*R:=by rw[Int.mul_right_comm,en,K8,Int.mul_add]
theorem GU(x y z:Int):x+y=x+z+(y-z):=by omega
theorem kZ{a b:List Int}(hb:b≠[]):∀i,i<=a.length+1-b.length->DivInv a b i
 |0,_=>⟨by simp[aV],by simp[aV],λk _=>by show cf (List.replicate _ 0) k=0;rw[k8],λn=>by
  show _=aR (List.replicate _ 0) b n+cf a n
  rw[rp λk=>k8 _ _];simp⟩
 |i+1,hi=>by
  obtain⟨lq,lr,low,eqn⟩:=kZ (a:=a) hb i (Nat.le_of_succ_le hi);have hbl:=KL.mpr hb;have e:aV a b (i+1)=dG b (aV a b i) (a.length+1-b.length-1-i):=rfl;generalize aV a b i=z at e lq lr low eqn
  obtain⟨p,ep,ed⟩:=GS hi hbl;rw[ep,show p+i+1-1-i=p from Nat.add_sub_cancel _ _]at e;rw[ep]at lq low;have lz:z.2.length=p+b.length:=by rw[lr,<- ed,Nat.add_right_comm,Nat.add_sub_cancel]
  have hp:p<(scL ((cf b (b.length-1)).natAbs:Int) z.1).length:=by rw[cP,lq];exact yv p i
  have hq:∀k,cf (dG b z p).1 k=((cf b (b.length-1)).natAbs:Int)*cf z.1 k+(if k=p then sg (cf b (b.length-1))*cf z.2 (z.2.length-1)else 0):=by
   intro k;unfold dG;dsimp only
   rw[nO hp,bK];by_cases h:k=p
   ·rw[if_pos h,if_pos h,low k (by rw[h];exact LK _)];simp
   ·rw[if_neg h,if_neg h];simp
  have hlq:(dG b z p).1.length=p+i+1:=by unfold dG;dsimp only;rw[LW,cP,lq]
  refine⟨?_,?_,?_,?_⟩
  ·rw[e,hlq,ep]
  ·rw[e];unfold dG;dsimp only;rw[xt,cP,lr];rfl
  ·intro k hk;rw[ep]at hk;have hk':k<p:=by clear lq lr low eqn hp hq hlq lz e ep ed;omega
   rw[e,hq,if_neg (Lh hk'),low k (Nat.lt_trans (Nat.add_lt_add_right hk' i) (LK _))];simp
  ·intro n;rw[e,EI (by rw[hlq,lq]) (by rw[lq];exact yv p i) hq,K5];have en:=eqn n;unfold dG;dsimp only
   rw[nR,cP,bK,lz];clear lq lr low eqn hp hq hlq e ep ed;by_cases h1:n<p+b.length-1
   ·rw[if_pos h1];by_cases h2:p<=n
    ·rw[if_pos h2,nJ en];exact GU _ _ _
    ·rw[if_neg h2,nJ en,LH,Int.sub_zero]
   ·rw[if_neg h1];have h2:p<=n:=by clear en;omega
    by_cases h3:n=p+b.length-1
    ·have h4:n-p=b.length-1:=by clear en;omega
     rw[if_pos h2,h4];have sg:=AR (cf b (b.length-1));rw[<- h3,nJ en,LH,Int.mul_right_comm,sg]
    ·have hc:cf z.2 n=0:=bV (by rw[lz];clear en;omega);rw[if_pos h2,bV (l:=b) (k:=n-p) (by clear en;omega),nJ en,hc,KO,KO,LH,LH]
noncomputable def bz(a b:List Int):Nat:=a.length+1-b.length
noncomputable def b7(a b:List Int):Int:=((cf b (b.length-1)).natAbs:Int)^bz a b
noncomputable def cC(a b:List Int):List Int:=(aV a b (bz a b)).1
noncomputable def aQ(a b:List Int):List Int:=trim (aV a b (bz a b)).2
theorem jD{a b:List Int}(hb:b≠[])(n:Nat):b7 a b*cf a n=aR (cC a b) b n+cf (aQ a b) n:=by unfold aQ cC b7;rw[fM];exact(kZ hb (bz a b) (KH _)).eqn n
theorem iy{a b:List Int}(hb:b≠[]):(aQ a b).length<b.length:=by
 have h:=(kZ (a:=a) hb (bz a b) (KH _)).lr;have h2:=rF (aV a b (bz a b)).2;have hbl:=KL.mpr hb;unfold aQ;unfold bz at *
 omega
theorem GQ{a b:List Int}(hb:b≠[]):(cC a b).length=bz a b:=(kZ (a:=a) hb (bz a b) (KH _)).lq
theorem gr(a b:List Int):Tr (aQ a b):=fb _
theorem vb{a a' b b':List Int}{n:Nat}(h1:∀k,cf a k=cf a' k)(h2:∀k,cf b k=cf b' k):∀j,sm a b n j=sm a' b' n j
 |0=>rfl
 |j+1=>by rw[sm,sm,vb h1 h2 j];unfold tm;rw[h1 j,h2 (n-j)]
theorem u8{a b:List Int}{n:Nat}:∀d,sm a b n (a.length+d)=aR a b n
 |0=>rfl
 |d+1=>by rw[<- Nat.add_assoc,sm,u8 d,zU (by omega)];omega
theorem ka{a b:List Int}{n N:Nat}(h:a.length<=N):sm a b n N=aR a b n:=by obtain⟨d,rfl⟩:=Nat.exists_eq_add_of_le h;exact u8 d
theorem wU{a a' b b':List Int}{n:Nat}(h1:∀k,cf a k=cf a' k)(h2:∀k,cf b k=cf b' k):aR a b n=aR a' b' n:=by rw[<- ka (Nat.le_max_left a.length a'.length),<- ka (Nat.le_max_right a.length a'.length)];exact vb h1 h2 _
theorem u6{a b c q:List Int}{x y:Int}{n:Nat}(h:∀k,cf c k=x*cf a k+y*cf b k):∀j,sm c q n j=x*sm a q n j+y*sm b q n j
 |0=>by simp[sm]
 |j+1=>by
  rw[sm,sm,sm,u6 h j];unfold tm;rw[h j];by_cases hj:j<=n
  ·rw[if_pos hj,if_pos hj,if_pos hj];grind
  ·rw[if_neg hj,if_neg hj,if_neg hj];grind
theorem gH{a b c q:List Int}{x y:Int}{n:Nat}(h:∀k,cf c k=x*cf a k+y*cf b k):aR c q n=x*aR a q n+y*aR b q n:=by
 have h1:a.length<=a.length+b.length+c.length:=by omega
 have h2:b.length<=a.length+b.length+c.length:=by omega
 have h3:c.length<=a.length+b.length+c.length:=by omega
 rw[<- ka h1,<- ka h2,<- ka h3];exact u6 h _
theorem uZ{a b b':List Int}{c:Int}{n:Nat}(h:∀k,cf b' k=c*cf b k):∀j,sm a b' n j=c*sm a b n j
 |0=>by simp[sm]
 |j+1=>by
  rw[sm,sm,uZ h j];unfold tm;rw[h (n-j)];by_cases hj:j<=n
  ·rw[if_pos hj,if_pos hj];grind
  ·rw[if_neg hj,if_neg hj];grind
theorem mU{a b b':List Int}{c:Int}{n:Nat}(h:∀k,cf b' k=c*cf b k):aR a b' n=c*aR a b n:=uZ h _
theorem ge(c:Int)(l:List Int)(n:Nat):aR [c] l n=c*cf l n:=by unfold aR;show sm [c] l n 0+tm [c] l n 0=_;unfold sm tm;rw[if_pos (KJ _),sh,LM,Lw]
theorem rk{l:List Int}(ht:Tr l)(h:∀k,cf l k=0):l=[]:=by
 refine Classical.byContradiction λhne=>?_
 have hl:=KL.mpr hne;exact ht (l.length-1) (by omega) (h _)
theorem ED{d q:List Int}(hq:q≠[])(hqt:Tr q)(h:∀n,q.length<=n+1->aR d q n=0):∀k,cf d k=0:=by
 have e:trim d=[]:=by
  refine Classical.byContradiction λhne=>?_
  have hl:=KL.mpr hne;have hql:=KL.mpr hq;have ht:=fb d ((trim d).length-1) (by omega);have hb:=hqt (q.length-1) (by omega);have h1:=h ((trim d).length-1+(q.length-1)) (by omega);rw[<- wU (a:=trim d) (b:=q) (λk=>fM d k) (λ_=>rfl),kH (la:=(trim d).length-1) (lb:=q.length-1) (by omega) (by omega)]at h1;exact KM ht hb h1
 intro k;rw[<- fM,e,cD]
theorem rZ{a b:List Int}(hb:b≠[])(hbt:Tr b):b7 a b≠0:=by
 have hbl:=KL.mpr hb;have h:=hbt (b.length-1) (by omega);have h1:((cf b (b.length-1)).natAbs:Int)≠0:=by omega
 unfold b7;generalize bz a b=n
 induction n with
 |zero=>rw[LI];decide
 |succ n ih=>rw[K5];exact KM ih h1
noncomputable def eW(d:Nat)(l:List Int):Nat:=l.foldl (λd v=>Nat.gcd d v.natAbs) d
noncomputable def aK(l:List Int):Nat:=eW 0 l
theorem FP(d:Nat):eW d []=d:=rfl
theorem FQ(d:Nat)(v:Int)(l:List Int):eW d (v::l)=eW (Nat.gcd d v.natAbs) l:=rfl
theorem FO(d:Nat)(l:List Int)(v:Int):eW d (l++[v])=Nat.gcd (eW d l) v.natAbs:=by unfold eW;rw[List.foldl_append];rfl
theorem xT(l:List Int)(v:Int):aK (l++[v])=Nat.gcd (aK l) v.natAbs:=FO 0 l v
theorem ym{m:Nat}:∀{l:List Int} {d:Nat},m∣eW d l↔m∣d/\∀v∈l,m∣v.natAbs
 | [],d=>by simp[FP]
 |v::l,d=>by rw[FQ,ym,Nat.dvd_gcd_iff];simp only[KS,forall_eq_or_imp];exact⟨λ⟨⟨a,b⟩,c⟩=>⟨a,b,c⟩,λ⟨a,b,c⟩=>⟨⟨a,b⟩,c⟩⟩
theorem dvd_gcdL{m:Nat}{l:List Int}:m∣aK l↔∀v∈l,m∣v.natAbs:=by unfold aK;rw[ym];exact⟨λh=>h.2,λh=>⟨Nat.dvd_zero m,h⟩⟩
theorem nv{l:List Int}{v:Int}(h:v∈l):aK l∣v.natAbs:=dvd_gcdL.mp (Nat.dvd_refl _) v h
theorem FM(v:Int):aK [v]=v.natAbs:=by show Nat.gcd 0 v.natAbs=_;exact Nat.gcd_zero_left _
theorem xS{a b:Int}(ha:0<=a)(hb:0<b):Nat.gcd b.natAbs (a%b).natAbs=Nat.gcd a.natAbs b.natAbs:=by
 have e:(a%b).natAbs=a.natAbs%b.natAbs:=by obtain⟨x,rfl⟩:=Int.eq_ofNat_of_zero_le ha;obtain⟨y,rfl⟩:=Int.eq_ofNat_of_zero_le (KI hb);rfl
 rw[e,Nat.gcd_comm,<- Nat.gcd_rec,Nat.gcd_comm]
noncomputable def aB(l:List Int):List Int:=l.map λx=>x/(aK l:Int)
noncomputable def cb(l:List Int):Int:=cf l (l.length-1)
theorem fH(r:List Int)(x:Int):cb (r++[x])=x:=by unfold cb;rw[Lb];exact jI r x
noncomputable def bQ(l:List Int):List Int:=if cb l<0 then l.map λx => -x else l
noncomputable def aO(l:List Int):List Int:=bQ (aB l)
theorem tf{c:Int->Int}(h0:∀x,c x=0↔x=0):∀(n:Nat) (l:List Int),l.length=n->trim (l.map c)=(trim l).map c
 |0,l,h=>by rw[Lv.mp h];rfl
 |n+1,l,h=>by
  rcases dk l with rfl |⟨r,x,rfl⟩
  ·rfl
  ·rw[Lu];show trim (r.map c++[c x])=_;by_cases hx:x=0
   ·subst hx;rw[(h0 0).mpr rfl,lG,lG];exact tf h0 n r (by simpa using h)
   ·rw[jW r hx,jW _ (λz=>hx ((h0 x).mp z)),Lu];rfl
def jQ(l:List Int):Prop:=l=[]\/aK l=1
theorem mr{l:List Int}(h:jQ l):aB l=l:=by
 rcases h with rfl |h
 ·rfl
 ·unfold aB;rw[h]
  conv=>rhs;rw[<- List.map_id l]
  apply Mu;intro x _;show x/1=x;exact Int.ediv_one x
theorem FN{l:List Int}{s:Int}(hs:s=1\/s = -1):aK (l.map λx=>x*s)=aK l:=by
 have key:∀m:Nat,m∣aK (l.map λx=>x*s)↔m∣aK l:=by
  intro m;rw[dvd_gcdL,dvd_gcdL]
  have e:∀x:Int,(x*s).natAbs=x.natAbs:=λx=>by
   rcases hs with rfl |rfl
   ·rw[Le]
   ·rw[Int.mul_neg,Le,Int.natAbs_neg]
  constructor
  ·intro h v hv;have:=h (v*s) (LO.mpr ⟨v,hv,rfl⟩)
   rwa [e]at this
  ·intro h v hv;obtain⟨u,hu,rfl⟩:=LO.mp hv;rw[e];exact h u hu
 exact Nat.dvd_antisymm ((key _).mp (Nat.dvd_refl _)) ((key _).mpr (Nat.dvd_refl _))
theorem B9{l:List Int}(h:jQ l):jQ (l.map λx => -x):=by
 rcases h with rfl |h
 ·exact .inl rfl
 ·right
  have e:(l.map λx => -x)=l.map λx=>x*(-1):=by apply Mu;intro x _;omega
  rw[e,FN (.inr rfl),h]
theorem xw(l:List Int):cb (l.map λx => -x) = -cb l:=by
 rcases dk l with rfl |⟨r,x,rfl⟩
 ·rfl
 ·rw[Lu];show cb (r.map _++[-x])=_;rw[fH,fH]
theorem B8{l:List Int}(h:jQ l):jQ (bQ l):=by
 unfold bQ;split
 ·exact B9 h
 ·exact h
theorem zS{c:Int->Int}(h0:∀x,c x=0↔x=0){l:List Int}(h:Tr l):Tr (l.map c):=by rw[<- lH h,<- tf h0 _ l rfl];exact fb _
theorem zP{l:List Int}(h:Tr l):Tr (bQ l):=by
 unfold bQ;split
 ·exact zS (λx=>by omega) h
 ·exact h
theorem xU(c:Int):∀(l:List Int) (d:Nat),eW (c.natAbs*d) (scL c l)=c.natAbs*eW d l
 | [],d=>rfl
 |v::l,d=>by show eW (Nat.gcd (c.natAbs*d) (c*v).natAbs) (scL c l)=c.natAbs*eW (Nat.gcd d v.natAbs) l;rw[Lj,Nat.gcd_mul_left,xU c l]
theorem nt(c:Int)(l:List Int):aK (scL c l)=c.natAbs*aK l:=by have h:=xU c l 0;rw[Nat.mul_zero]at h;exact h
theorem jx{l:List Int}{x:Int}(h:x∈l):(aK l:Int)∣x:=Mi.mpr (nv h)
theorem AG{c:Int}(hc:0<c)(l:List Int):aB (scL c l)=aB l:=by
 unfold aB;rw[nt];unfold scL;rw[L7];refine Mu λx _=>?_
 show c*x/((c.natAbs*aK l:Nat):Int)=x/(aK l:Int);have e:((c.natAbs*aK l:Nat):Int)=c*(aK l:Int):=by rw[LP];congr 1;omega
 rw[e,Int.mul_ediv_mul_of_pos _ _ hc]
theorem AH{c:Int}(hc:c<0)(l:List Int):aB (scL c l)=(aB l).map λx => -x:=by
 unfold aB;rw[nt];unfold scL;rw[L7,L7];refine Mu λx hx=>?_
 show c*x/((c.natAbs*aK l:Nat):Int) = -(x/(aK l:Int));have e:((c.natAbs*aK l:Nat):Int)=(-c)*(aK l:Int):=by rw[LP];congr 1;omega
 have e2:c*x=(-c)*(-x):=by rw[Int.neg_mul_neg]
 rw[e,e2,Int.mul_ediv_mul_of_pos _ _ (by omega:0 < -c),Int.neg_ediv_of_dvd (jx hx)]
theorem Cc{m:List Int}(h:Tr m):bQ (m.map λx => -x)=bQ m:=by
 rcases dk m with rfl |⟨r,x,rfl⟩
 ·rfl
 have hx:x≠0:=tr_snoc.mp h;have h1:=xw (r++[x]);rw[fH]at h1;unfold bQ;rw[h1,fH];by_cases hn:x<0
 ·rw[if_neg (by omega),if_pos hn]
 ·rw[if_pos (by omega),if_neg hn,L7];rw[show((λx:Int => -x) ∘ λx:Int => -x)=id from by funext y;simp];exact List.map_id _
theorem gT{l:List Int}(h:Tr l):Tr (aB l):=by
 intro n hn;have hl:l.length=n+1:=by rw[<- hn];unfold aB;rw[KF]
 have hx:=h n hl;have hm:cf l n∈l:=by rw[da (by omega)];exact Mr _
 have e:cf (aB l) n=cf l n/(aK l:Int):=by
  have h1:n<l.length:=by omega
  unfold aB cf;simp[List.getD,h1]
 rw[e];intro z;have d:=jx hm;have:=Int.mul_ediv_cancel' d;rw[z,KO]at this;exact hx this.symm
theorem jm{c:Int}(hc:c≠0){l:List Int}(h:Tr l):aO (scL c l)=aO l:=by
 unfold aO;by_cases hp:0<c
 ·rw[AG hp]
 ·rw[AH (by omega),Cc (gT h)]
theorem lI{c:Int}(hc:c≠0){l:List Int}(h:Tr l):Tr (scL c l):=by intro n hn;rw[cP]at hn;rw[bK];exact KM hc (h n hn)
theorem Cf{a b:List Int}{x y:Int}(hx:x≠0)(hy:y≠0)(ha:Tr a)(hb:Tr b)(h:∀k,x*cf a k=y*cf b k):aO a=aO b:=by
 have e:scL x a=scL y b:=kY (lI hx ha) (lI hy hb) λk=>by rw[bK,bK,h k]
 rw[<- jm hx ha,e,jm hy hb]
noncomputable def slopeL(l:List Int):List Int:=(List.range (l.length-1)).map λ(k:Nat)=>((k:Int)+1)*cf l (k+1)
noncomputable def lp(l:List Int)(m i n:Nat):Int:=if n%m=0/\n/m<i then cf l (n/m)else 0
noncomputable def rst(one other:List Int):List Int:=if other=[]then[]else aQ one other
noncomputable def nxt(one other:List Int):List Int:=aB (cu [] (rst one other))
noncomputable def bA:Nat->List Int->List Int->List (List Int)
 |0,_,_=>[]
 |n+1,one,other=>if one=[]then[]else one::bA n other (nxt one other)
theorem ic(n:Nat)(o:List Int):bA n [] o=[]:=by cases n with |zero=>rfl |succ n=>show(if([]:List Int)=[]then _ else _)=_;rw[if_pos rfl]
noncomputable def up(f:Nat->Int)(n:Nat):Int:=if n=0 then 0 else f (n-1)
theorem va(x:Int)(a b:List Int)(n:Nat):∀j,sm (x::a) b n (j+1)=x*cf b n+(if n=0 then 0 else sm a b (n-1) j)
 |0=>by
  show 0+tm (x::a) b n 0=_;unfold tm;rw[if_pos (KJ _)];rw[sh,LM];by_cases h:n=0
  ·rw[if_pos h];omega
  ·rw[if_neg h];show _=_+0;omega
 |j+1=>by
  show sm (x::a) b n (j+1)+tm (x::a) b n (j+1)=_;rw[va x a b n j];by_cases h:n=0
  ·rw[if_pos h,if_pos h];unfold tm;rw[if_neg (by omega)];omega
  ·rw[if_neg h,if_neg h];show _=_+(sm a b (n-1) j+tm a b (n-1) j)
   have e:tm (x::a) b n (j+1)=tm a b (n-1) j:=by
    unfold tm;rw[nM];by_cases h2:j+1<=n
    ·rw[if_pos h2,if_pos (by omega)]
     congr 2;omega
    ·rw[if_neg h2,if_neg (by omega)]
   rw[e];omega
theorem fi(x:Int)(a b:List Int)(n:Nat):aR (x::a) b n=x*cf b n+up (aR a b) n:=va x a b n a.length
theorem eS(b:List Int)(n:Nat):aR [] b n=0:=rfl
theorem su(x:Int)(a:List Int)(n:Nat):cf (x::a) n=(if n=0 then x else 0)+up (cf a) n:=by
 cases n with
 |zero=>show x=x+0;omega
 |succ n=>show cf a n=0+cf a n;omega
theorem rq(y:Int)(b:List Int):∀(a:List Int) (n:Nat),aR a (y::b) n=y*cf a n+up (aR a b) n
 | [],n=>by
  rw[eS,cD];unfold up;split
  ·simp
  ·rw[eS];simp
 |x::a,n=>by
  rw[fi,su,su];cases n with
  |zero =>show x*(y+0)+0=y*(x+0)+0;simp only[LH];exact K8 _ _
  |succ n =>show x*(0+cf b n)+aR a (y::b) n=y*(0+cf a n)+aR (x::a) b n;rw[rq y b a n,fi];simp only[Lw];omega
theorem wT:∀(a:List Int) (n:Nat),aR a [] n=0
 | [],n=>rfl
 |x::a,n=>by
  rw[fi,cD];unfold up;split
  ·simp
  ·rw[wT a];simp
theorem kI:∀(a b:List Int) (n:Nat),aR a b n=aR b a n
 | [],b,n=>by rw[wT];rfl
 |x::a,b,n=>by
  rw[fi,rq]
  congr 1
  unfold up;split
  ·rfl
  ·exact kI a b _
theorem EH{a b c q:List Int}{x y:Int}{n:Nat}(h:∀k,cf c k=x*cf a k+y*cf b k):aR q c n=x*aR q a n+y*aR q b n:=by rw[kI q c,gH h,kI q a,kI q b]
theorem nN(a:List Int)(n:Nat):cf (0::a) n=up (cf a) n:=by rw[su];split<;>omega
theorem EF(a b:List Int)(n:Nat):aR (0::a) b n=up (aR a b) n:=by rw[fi];omega
theorem kJ:∀(a b c:List Int) (n:Nat),aR (am a b) c n=aR a (am b c) n
 | [],b,c,n=>by rw[eS,rp λk=>by rw[aW,eS]]
 |x::a,b,c,n=>by
  rw[fi,aW]
  have e:∀k,cf (am (x::a) b) k=x*cf b k+1*cf (0::am a b) k:=λk=>by
   rw[aW,fi,nN,K4]
   congr 1
   unfold up;split
   ·rfl
   ·rw[aW]
  rw[gH e,EF,K4]
  congr 1
  unfold up;split
  ·rfl
  ·exact kJ a b c _
def Dv(d p:List Int):Prop:=∃(c:Int) (q:List Int),c≠0/\∀n,c*cf p n=aR q d n
theorem Dv.refl(d:List Int):Dv d d:=⟨1,[1],by decide,λn=>by rw[ge]⟩
theorem Dv.nil(d:List Int):Dv d []:=⟨1,[],by decide,λn=>by rw[cD,eS];rfl⟩
theorem Dv.trans{d e p:List Int}(h1:Dv d e)(h2:Dv e p):Dv d p:=by obtain⟨c1,q1,hc1,e1⟩:=h1;obtain⟨c2,q2,hc2,e2⟩:=h2;refine⟨c1*c2,am q2 q1,KM hc1 hc2,λn=>?_⟩;rw[kJ,KQ,e2,<- mU (b':=am q1 d) (λk=>by rw[aW,e1])]
theorem Dv.up{d a b r q:List Int}{f:Int}(hf:f≠0)(h:∀n,f*cf a n=aR q b n+cf r n)(hb:Dv d b)(hr:Dv d r):Dv d a:=by obtain⟨c1,q1,hc1,e1⟩:=hb;obtain⟨c2,q2,hc2,e2⟩:=hr;refine⟨c1*c2*f,gj c1 (scL c2 (am q q1)) q2,KM (KM hc1 hc2) hf,λn=>?_⟩;rw[gH (a:=am q q1) (b:=q2) (x:=c2) (y:=c1) (λk=>by rw[k9,bK]),kJ,<- e2,mU (b:=b) (b':=am q1 d) (c:=c1) (λk=>by rw[aW,e1])];have:=h n;grind
theorem Dv.down{d a b r q:List Int}{f:Int}(h:∀n,f*cf a n=aR q b n+cf r n)(ha:Dv d a)(hb:Dv d b):Dv d r:=by obtain⟨c1,q1,hc1,e1⟩:=ha;obtain⟨c2,q2,hc2,e2⟩:=hb;refine⟨c1*c2,gj (-c1) (scL (f*c2) q1) (am q q2),KM hc1 hc2,λn=>?_⟩;rw[gH (a:=q1) (b:=am q q2) (x:=f*c2) (y := -c1) (λk=>by rw[k9,bK]),kJ,<- e1,mU (b:=b) (b':=am q2 d) (c:=c2) (λk=>by rw[aW,e2])];have:=h n;grind
theorem Dv.prop_right{d p p':List Int}{x y:Int}(hx:x≠0)(h:∀n,x*cf p' n=y*cf p n)(hd:Dv d p):Dv d p':=by obtain⟨c,q,hc,e⟩:=hd;refine⟨c*x,scL y q,KM hc hx,λn=>?_⟩;rw[gH (a:=q) (b:=[]) (x:=y) (y:=0) (λk=>by rw[bK];simp),<- e];have:=h n;grind
theorem Dv.prop_left{d d' p:List Int}{x y:Int}(hx:x≠0)(hy:y≠0)(h:∀n,x*cf d' n=y*cf d n)(hd:Dv d p):Dv d' p :=
 Dv.trans (Dv.prop_right hy (λn=>(h n).symm) (Dv.refl d')) hd
theorem gD{l:List Int}(h:Tr l):∃g:Int,g≠0/\∀n,cf l n=g*cf (aO l) n:=by
 by_cases hl:l=[]
 ·subst hl;exact⟨1,by decide,λn=>by rw[cD];show 0=1*cf [] n;rw[cD];rfl⟩
 have hg:(aK l:Int)≠0:=by obtain⟨r,x,rfl⟩:=(dk l).resolve_left hl;have hx:x≠0:=tr_snoc.mp h;have h1:0<aK (r++[x]):=Nat.pos_of_dvd_of_pos (nv (by simp:x∈r++[x])) (Mg.mpr hx);omega
 have e1:∀n,cf l n=(aK l:Int)*cf (aB l) n:=λn=>by
  unfold aB;by_cases hn:n<l.length
  ·rw[da hn,da (by rw[KF];exact hn),List.getElem_map];exact(Int.mul_ediv_cancel' (jx (Mr hn))).symm
  ·rw[bV (by omega),bV (by rw[KF];omega),KO]
 unfold aO bQ;split
 ·refine⟨-(aK l:Int),by omega,λn=>?_⟩
  have e2:cf ((aB l).map λx => -x) n = -cf (aB l) n:=by
   by_cases hn:n<(aB l).length
   ·rw[da hn,da (by rw[KF];exact hn),List.getElem_map]
   ·rw[bV (l:=aB l) (by omega),bV (l:=(aB l).map λx => -x) (by rw[KF];omega)];rfl
  rw[e1,e2];grind
 ·exact⟨_,hg,e1⟩
theorem Dv.plain{d p:List Int}(hp:Tr p):Dv d (aO p)↔Dv d p:=by obtain⟨g,hg,e⟩:=gD hp;exact⟨λh=>Dv.prop_right (x:=1) (y:=g) (by decide) (λn=>by rw[e];omega) h,λh=>Dv.prop_right (x:=g) (y:=1) hg (λn=>by rw[<- e];omega) h⟩
theorem plain_len(l:List Int):(aO l).length=l.length:=by unfold aO bQ aB;split<;>simp
theorem tj{l:List Int}(h:Tr l):Tr (aO l):=zP (gT h)
noncomputable def eY:Nat->List Int->List Int->List Int
 |0,one,_=>one
 |n+1,one,other=>if other=[]then one else eY n other (aO (aQ one other))
theorem GZ(n:Nat)(one:List Int):eY n one []=one:=by cases n<;>rfl
theorem GY{n:Nat}{one other:List Int}(h:other≠[]):eY (n+1) one other=eY n other (aO (aQ one other)):=by show(if other=[]then one else eY n other (aO (aQ one other)))=_;rw[if_neg h]
def Cop(a:List Int)(m:Nat):Prop:=∀k:Nat,k∣m->(∀n,(k:Int)∣cf a n)->k=1
theorem rQ:∀(N:Nat) (a b:List Int) (m:Nat),a.length+b.length<=N->Cop a m->Cop b m->(∀n,(m:Int)∣aR a b n)->m=1
 |_,[],b,m,_,h1,_,_=>h1 m (Nat.dvd_refl _) λn=>by rw[cD];exact Int.dvd_zero _
 |_,_::_,[],m,_,_,h2,_=>h2 m (Nat.dvd_refl _) λn=>by rw[cD];exact Int.dvd_zero _
 |0,_::_,_::_,_,h,_,_,_=>absurd h (by simp)
 |N+1,x::a,y::b,m,h,h1,h2,h3=>by
  have d1:Nat.gcd m x.natAbs=1:=by
   refine rQ N a (y::b) _ (by simp at h ⊢;omega) (λk hk hn=>h1 k (Mv hk (LZ _ _)) λn=>?_) (λk hk=>h2 k (Mv hk (LZ _ _))) λn=>?_
   ·cases n with
    |zero=>exact Mi.mpr (Mv hk (Mh _ _))
    |succ n=>exact hn n
   ·have e:=fi x a (y::b) (n+1);have g1:((Nat.gcd m x.natAbs:Nat):Int)∣aR (x::a) (y::b) (n+1):=Int.dvd_trans (Int.ofNat_dvd.mpr (LZ _ _)) (h3 _);have g2:((Nat.gcd m x.natAbs:Nat):Int)∣x*cf (y::b) (n+1):=Int.dvd_mul_of_dvd_left (Mi.mpr (Mh _ _))
    have e2:aR a (y::b) n=aR (x::a) (y::b) (n+1)-x*cf (y::b) (n+1):=by rw[e];show _=_+aR a (y::b) n-_;omega
    rw[e2];exact Int.dvd_sub g1 g2
  have d2:Nat.gcd m y.natAbs=1:=by
   refine rQ N (x::a) b _ (by simp at h ⊢;omega) (λk hk=>h1 k (Mv hk (LZ _ _))) (λk hk hn=>h2 k (Mv hk (LZ _ _)) λn=>?_) λn=>?_
   ·cases n with
    |zero=>exact Mi.mpr (Mv hk (Mh _ _))
    |succ n=>exact hn n
   ·have e:=rq y b (x::a) (n+1);have g1:((Nat.gcd m y.natAbs:Nat):Int)∣aR (x::a) (y::b) (n+1):=Int.dvd_trans (Int.ofNat_dvd.mpr (LZ _ _)) (h3 _);have g2:((Nat.gcd m y.natAbs:Nat):Int)∣y*cf (x::a) (n+1):=Int.dvd_mul_of_dvd_left (Mi.mpr (Mh _ _))
    have e2:aR (x::a) b n=aR (x::a) (y::b) (n+1)-y*cf (x::a) (n+1):=by rw[e];show _=_+aR (x::a) b n-_;omega
    rw[e2];exact Int.dvd_sub g1 g2
  have h0:=h3 0;rw[fi]at h0
  have h0':m∣x.natAbs*y.natAbs:=by
   rw[<- Lj];refine Mi.mp ?_
   have e:x*cf (y::b) 0+up (aR a (y::b)) 0=x*y:=by show x*y+0=x*y;omega
   rwa [e]at h0
  have h4:m∣y.natAbs:=Nat.Coprime.dvd_of_dvd_mul_left d1 h0';rw[Nat.gcd_eq_left h4]at d2;exact d2
theorem EU{l:List Int}{v:Int}(h:v∈l):∃n,n<l.length/\cf l n=v:=by obtain⟨n,hn,e⟩:=List.getElem_of_mem h;exact⟨n,hn,by rw[da hn,e]⟩
theorem yF{a:List Int}{m:Nat}(h:aK a=1):Cop a m:=λk _ hn=>by
 have:k∣aK a:=dvd_gcdL.mpr λv hv=>by obtain⟨n,_,rfl⟩:=EU hv;exact Mi.mp (hn n)
 rw[h]at this;exact Nat.dvd_one.mp this
theorem Ca{a b:List Int}(ha:aK a=1)(hb:aK b=1):aK (am a b)=1:=by
 refine rQ _ a b _ (KH _) (yF ha) (yF hb) λn=>?_
 rw[<- aW];by_cases hn:n<(am a b).length
 ·rw[da hn];exact jx (Mr hn)
 ·rw[bV (by omega)];exact Int.dvd_zero _
structure Pln(l:List Int):Prop where
 tr:Tr l
 ne:l≠[]
 prim:aK l=1
 pos:0<cb l
theorem gJ{l:List Int}(h:Tr l)(hne:l≠[]):cb l≠0:=by have:=KL.mpr hne;exact h (l.length-1) (by omega)
theorem Pln.plain{l:List Int}(h:Pln l):aO l=l:=by unfold aO;rw[mr (.inr h.prim)];unfold bQ;rw[if_neg (by have:=h.pos;omega)]
theorem shr_scale{l:List Int}:scL (aK l:Int) (aB l)=l:=by unfold scL aB;rw[L7];refine(Mu (g:=id) λx hx=>?_).trans (List.map_id _);exact Int.mul_ediv_cancel' (jx hx)
theorem jl{l:List Int}(h:Tr l)(hne:l≠[]):Pln (aO l):=by
 have hg:0<aK l:=by obtain⟨r,x,rfl⟩:=(dk l).resolve_left hne;have hx:x≠0:=tr_snoc.mp h;exact Nat.pos_of_dvd_of_pos (nv (by simp:x∈r++[x])) (Mg.mpr hx)
 have h1:aK (aB l)=1:=by have e:=nt (aK l:Int) (aB l);rw[shr_scale,Lp]at e;exact Nat.eq_of_mul_eq_mul_left hg (by rw[<- e,Nat.mul_one])
 have hs:aB l≠[]:=λz=>hne (by have:=congrArg List.length z;unfold aB at this;simpa using this)
 have hl:=gJ (gT h) hs
 have hp:aK (aO l)=1:=by
  rcases B8 (.inr h1:jQ (aB l))with z |z
  ·exact absurd (congrArg List.length z) (by
    have:=plain_len l;unfold aO at this
    rw[this]
    exactλq=>hne (Lv.mp q))
  ·exact z
 refine⟨tj h,λz=>hne (Lv.mp (by rw[<- plain_len,z];rfl)),hp,?_⟩;unfold aO bQ;split
 ·rw[xw];omega
 ·omega
theorem cs{a b:List Int}(ha:a≠[])(hb:b≠[]):(am a b).length=a.length+b.length-1:=by unfold am;rw[if_neg (λz=>z.elim ha hb),KF,LY]
theorem Fc{a b:List Int}(ha:a≠[])(hb:b≠[]):cb (am a b)=cb a*cb b:=by
 have h1:=KL.mpr ha;have h2:=KL.mpr hb;unfold cb;rw[cs ha hb,aW];have e:a.length+b.length-1-1=(a.length-1)+(b.length-1):=by omega
 rw[e,kH (by omega) (by omega)]
theorem Pln.mul{a b:List Int}(ha:Pln a)(hb:Pln b):Pln (am a b):=by
 refine⟨gU ha.tr hb.tr,λz=>?_,Ca ha.prim hb.prim,by rw[Fc ha.ne hb.ne];exact KG ha.pos hb.pos⟩;have h1:=KL.mpr ha.ne;have h2:=KL.mpr hb.ne;have:=cs ha.ne hb.ne;rw[z]at this;simp at this
 omega
theorem Ch{p q d:List Int}{c:Int}(hc:c≠0)(hp:Tr p)(hpn:p≠[])(hq:Tr q)(hd:Pln d)(h:∀n,c*cf p n=aR q d n):am (aO q) d=aO p:=by
 have hqn:q≠[]:=λz=>by have h1:=KL.mpr hpn;have h2:=h (p.length-1);rw[z,eS]at h2;exact KM hc (hp (p.length-1) (by omega)) h2
 obtain⟨g,hg,e⟩:=gD hq;have hm:=(jl hq hqn).mul hd;rw[<- hm.plain];refine Cf hg hc hm.tr hp λk=>?_
 rw[h,aW,gH (a:=aO q) (b:=[]) (x:=g) (y:=0) (c:=q) (λk=>by rw[e];simp),eS];simp
theorem Dv.trim{d p:List Int}(h:Dv d p):∃(c:Int) (q:List Int),c≠0/\Tr q/\∀n,c*cf p n=aR q d n:=by obtain⟨c,q,hc,e⟩:=h;exact⟨c,RM.trim q,hc,fb q,λn=>by rw[e];exact(wU (λk=>fM q k) λ_=>rfl).symm⟩
theorem Dv.fellow{d p:List Int}(hd:Pln d)(hp:Tr p)(hpn:p≠[])(h:Dv d p):∃q,Pln q/\am q d=aO p:=by
 obtain⟨c,q,hc,hq,e⟩:=h.trim
 have hqn:q≠[]:=λz=>by have h1:=KL.mpr hpn;have h2:=e (p.length-1);rw[z,eS]at h2;exact KM hc (hp (p.length-1) (by omega)) h2
 exact⟨aO q,jl hq hqn,Ch hc hp hpn hq hd e⟩
theorem Pln.const{l:List Int}(h:Pln l)(h1:l.length=1):l=[1]:=by
 obtain⟨x,rfl⟩:∃x,l=[x]:=MR.mp h1;have h2:=h.prim;rw[FM]at h2;have h3:0<x:=h.pos;have:x=1:=by omega
 rw[this]
theorem one_mul(l:List Int)(h:Tr l):am [1] l=l:=by
 refine kY (gU (tr_snoc (r:=[]).mpr (by decide)) h) h λk=>?_
 rw[aW,ge];omega
theorem Cd{a b:List Int}(ha:Pln a)(hb:Pln b)(h1:Dv a b)(h2:Dv b a):a=b:=by obtain⟨q,hq,e⟩:=h1.fellow ha hb.tr hb.ne;obtain⟨r,hr,e'⟩:=h2.fellow hb ha.tr ha.ne;rw[hb.plain]at e;rw[ha.plain]at e';have l1:=cs hq.ne ha.ne;have l2:=cs hr.ne hb.ne;rw[e]at l1;rw[e']at l2;have p1:=KL.mpr hq.ne;have p2:=KL.mpr hr.ne;have p3:=KL.mpr ha.ne;have hq1:=hq.const (by omega);rw[hq1,one_mul a ha.tr]at e;exact e
theorem Dv.short{d r:List Int}(hd:d≠[])(hdt:Tr d)(hr:Tr r)(hl:r.length<d.length)(h:Dv d r):r=[]:=by
 obtain⟨c,q,hc,e⟩:=h;have z:=ED hd hdt (d:=q) λn hn=>by rw[<- e,bV (by omega),KO]
 refine rk hr λk=>?_
 have h1:=e k;rw[rp z]at h1;exact(K9.mp h1).resolve_left hc
theorem Dv.rest{d p:List Int}(hd:d≠[])(hdt:Tr d)(h:Dv d p):aQ p d=[] :=
 Dv.short hd hdt (gr _ _) (iy hd) (Dv.down (λn=>jD (a:=p) hd n) h (Dv.refl d))
theorem Dv.mul_right(a b:List Int):Dv b (am a b):=⟨1,a,by decide,λn=>by rw[aW];omega⟩
theorem Ho{l1 l2 r1 r2 pl pc a1 a2 c1 c2 x1 x2:Int}(ha:0<a2)(hc:0<c2)(e1:a1*pc=pl*a2)(e2:c1*(r2*a2)=r1*a1*c2)(e3:x1*(l2*c2)=(l1*c2+c1*l2)*x2) :
 x1*(l2*r2*pc)=(l1*r2*pc+r1*l2*pl)*x2:=by
 have h0:c2*a2≠0:=Ln (KG hc ha);refine Int.eq_of_mul_eq_mul_right h0 ?_
 calc x1*(l2*r2*pc)*(c2*a2)=x1*(l2*c2)*(r2*pc*a2):=by grind
  _=(l1*c2+c1*l2)*x2*(r2*pc*a2):=by rw[e3]
  _=x2*(l1*c2*r2*pc*a2+l2*pc*(c1*(r2*a2))):=by grind
  _=x2*(l1*c2*r2*pc*a2+l2*pc*(r1*a1*c2)):=by rw[e2]
  _=x2*c2*(l1*r2*pc*a2+l2*r1*(a1*pc)):=by grind
  _=x2*c2*(l1*r2*pc*a2+l2*r1*(pl*a2)):=by rw[e1]
  _=(l1*r2*pc+r1*l2*pl)*x2*(c2*a2):=by grind
theorem Hi{l r:Int}(hl:0<l)(hr:0<r){g:Nat}(hg:g=Nat.gcd l.natAbs r.natAbs):∃l' r':Int,0<l'/\0<r'/\(0:Int)<g/\l=g*l'/\r=g*r'/\l*r/g=l*r'/\l*r'/l=r'/\l*r'/r=l'/\0<l*r':=by
 have g0:0<g:=by rw[hg];exact Nat.gcd_pos_of_pos_left _ (by omega)
 have gi:(0:Int)<g:=by omega
 obtain⟨l',hl'⟩:(g:Int)∣l:=MP.mp (by rw[Lp,hg];exact LZ _ _);obtain⟨r',hr'⟩:(g:Int)∣r:=MP.mp (by rw[Lp,hg];exact Mh _ _);have l0:0<l':=Int.lt_of_mul_lt_mul_left (a:=(g:Int)) (by rw[KO,<- hl'];exact hl) (KI gi);have r0:0<r':=Int.lt_of_mul_lt_mul_left (a:=(g:Int)) (by rw[KO,<- hr'];exact hr) (KI gi);refine⟨l',r',l0,r0,gi,hl',hr',?_,?_,?_,KG hl r0⟩
 ·have e:l*r=(l*r')*g:=by
   calc l*r=l*(g*r'):=by rw[<- hr']
    _=(l*r')*g:=by grind
  rw[e];exact Int.mul_ediv_cancel _ (Ln gi)
 ·exact Int.mul_ediv_cancel_left _ (Ln hl)
 ·have e:l*r'=l'*r:=by
   calc l*r'=(g*l')*r':=by rw[<- hl']
    _=l'*(g*r'):=by grind
    _=l'*r:=by rw[<- hr']
  rw[e];exact Int.mul_ediv_cancel _ (Ln hr)
noncomputable def cp:List Int->List Int
 | []=>[]
 |v::l=>2^l.length*v::cp l
theorem lO:∀l,(cp l).length=l.length
 | []=>rfl
 |v::l=>by show(cp l).length+1=_;rw[lO l];rfl
theorem xK(p q:Int):∀l,2*hv p q (cp l)=hv p (2*q) l
 | []=>by show 2*0=(0:Int);rfl
 |v::l=>by have ih:=xK p q l;show 2*(2^l.length*v*q^((cp l).length+1)+p*hv p q (cp l))=v*(2*q)^(l.length+1)+p*hv p (2*q) l;rw[lO,<- ih,Int.mul_pow,K5 2];grind
noncomputable def suf:List Int->List Int
 | []=>[]
 |v::l=>(v+(suf l).headD 0)::suf l
theorem iM:∀l,(suf l).length=l.length
 | []=>rfl
 |v::l=>by show(suf l).length+1=_;rw[iM l];rfl
theorem tM(p q:Int):∀l,hv (p+q) q l=(suf l).headD 0*q^l.length+p*hv (p+q) q ((suf l).tail)
 | []=>by show(0:Int)=0*q^0+p*0;omega
 |v::l=>by
  have ih:=tM p q l;show v*q^(l.length+1)+(p+q)*hv (p+q) q l=(v+(suf l).headD 0)*q^(l.length+1)+p*hv (p+q) q (suf l);cases hs:suf l with
  |nil =>
   have hl:l=[]:=by have:=iM l;rw[hs]at this;exact L8 this.symm
   subst hl;show v*q^1+(p+q)*0=(v+0)*q^1+p*0;grind
  |cons g r =>
   rw[hs]at ih;have hl:r.length+1=l.length:=by have:=iM l;rw[hs]at this;exact this
   have ih':hv (p+q) q l=g*q^l.length+p*hv (p+q) q r:=ih;show v*q^(l.length+1)+(p+q)*hv (p+q) q l=(v+g)*q^(l.length+1)+p*(g*q^(r.length+1)+(p+q)*hv (p+q) q r);rw[ih',hl,K5];grind
noncomputable def dR:Nat->List Int->List Int
 |0,m=>suf m
 |_+1,[]=>[]
 |i+1,c::m=>c::dR i m
theorem q5:∀(i:Nat) (m:List Int),(dR i m).length=m.length
 |0,m=>iM m
 |_+1,[]=>rfl
 |i+1,c::m=>by show(dR i m).length+1=_;rw[q5 i m];rfl
noncomputable def fF(p q:Int):Nat->List Int->Int
 |0,m=>hv (p+q) q m
 |_+1,[]=>0
 |i+1,c::m=>c*q^(m.length+1)+p*fF p q i m
theorem xj(p q:Int):∀(i:Nat) (m:List Int),fF p q (i+1) (dR i m)=fF p q i m
 |0,m=>by
  show fF p q 1 (suf m)=hv (p+q) q m;rw[tM];cases hs:suf m with
  |nil =>show(0:Int)=0*q^m.length+p*hv (p+q) q [];rw[nj];omega
  |cons g r =>
   have hl:r.length+1=m.length:=by have:=iM m;rw[hs]at this;exact this
   show g*q^(r.length+1)+p*hv (p+q) q r=g*q^m.length+p*hv (p+q) q r;rw[hl]
 |i+1,[]=>rfl
 |i+1,c::m=>by show c*q^((dR i m).length+1)+p*fF p q (i+1) (dR i m)=c*q^(m.length+1)+p*fF p q i m;rw[xj p q i m,q5]
theorem xl(p q:Int):∀(i:Nat) (m:List Int),m.length<=i+1->fF p q i m=hv p q m
 |0,[],_=>rfl
 |0,[c],_=>by show c*q^1+(p+q)*0=c*q^1+p*0;omega
 |0,_::_::_,h=>absurd h (by simp)
 |_+1,[],_=>rfl
 |i+1,c::m,h=>by show c*q^(m.length+1)+p*fF p q i m=c*q^(m.length+1)+p*hv p q m;rw[xl p q i m (by simpa using h)]
noncomputable def fj:Nat->List Int->List Int
 |0,l=>l
 |i+1,l=>dR i (fj i l)
theorem mW:∀(i:Nat) (l:List Int),(fj i l).length=l.length
 |0,_=>rfl
 |i+1,l=>by show(dR i (fj i l)).length=_;rw[q5,mW i l]
theorem xk(p q:Int):∀(i:Nat) (l:List Int),fF p q i (fj i l)=hv (p+q) q l
 |0,_=>rfl
 |i+1,l=>by show fF p q (i+1) (dR i (fj i l))=_;rw[xj,xk p q i l]
noncomputable def kK(l:List Int):List Int:=fj (l.length-1) l
theorem xh(l:List Int):(kK l).length=l.length:=mW _ _
theorem Fz(p q:Int)(l:List Int):hv p q (kK l)=hv (p+q) q l:=by rw[<- xk p q (l.length-1) l];exact(xl p q (l.length-1) _ (by rw[xh];omega)).symm
theorem xI:∀l:List Int,hv 1 1 l=l.sum
 | []=>rfl
 |v::l=>by show v*1^(l.length+1)+1*hv 1 1 l=v+l.sum;rw[xI l,Int.one_pow];omega
noncomputable def bO(m s0 s1:Int):List Int->List Int
 | []=>[]
 |v::l=>mb (-s0) s1 (v*m^l.length) (bO m s0 s1 l)
theorem iO(m s0 s1:Int):∀l,(bO m s0 s1 l).length=l.length
 | []=>rfl
 |v::l=>by show(mb _ _ _ _).length=_;rw[mZ,iO m s0 s1 l];rfl
theorem xJ(m s0 s1 p q:Int):∀l,m*hv p q (bO m s0 s1 l)=hv (s0*q+s1*p) (m*q) l
 | []=>by show m*0=(0:Int);omega
 |v::l=>by have ih:=xJ m s0 s1 p q l;show m*hv p q (mb (-s0) s1 (v*m^l.length) (bO m s0 s1 l))=v*(m*q)^(l.length+1)+(s0*q+s1*p)*hv (s0*q+s1*p) (m*q) l;rw[xP,iO,<- ih,Int.mul_pow,K5 m];grind
theorem tN(m s0 s1:Int):∀l,cf (bO m s0 s1 l) (l.length-1)=cf l (l.length-1)*s1^(l.length-1)
 | []=>by show(0:Int)=0*_;omega
 | [v]=>by show cf (mb (-s0) s1 (v*m^0) []) 0=v*s1^0;rw[iC,if_pos rfl,cD,LI,LI];omega
 |v::u::l=>by have ih:=tN m s0 s1 (u::l);show cf (mb (-s0) s1 _ (bO m s0 s1 (u::l))) (l.length+1)=cf (u::l) l.length*s1^(l.length+1);rw[iC,if_neg (by omega)];have e1:cf (bO m s0 s1 (u::l)) (l.length+1)=0:=bV (by rw[iO];exact KH _);have e2:cf (bO m s0 s1 (u::l)) (l.length+1-1)=cf (u::l) l.length*s1^l.length:=ih;rw[e1,e2,K5];grind
theorem d9{x p:Int}(hp:0<p):sg (p*x)=sg x:=by rw[K8];exact AT hp
noncomputable def sgq(u v d:Int):Int :=
 if 0<=u/\0<=v then(if 0<u\/0<v then 1 else 0)
 else if u<=0/\v<=0 then -1
 else if 0<u then(if u*u<d*v*v then -1 else 1)
 else(if u*u>d*v*v then -1 else 1)
def NSq(d:Int):Prop:=0<d/\∀a b:Int,b≠0->a*a≠d*b*b
theorem Eu(n d:Nat)(h1:n*n<d)(h2:d<(n+1)*(n+1)):∀b a:Nat,0<b->a*a≠d*(b*b):=by
 intro b
 induction b using Nat.strongRecOn with
 |ind b ih =>
  intro a hb e
  have l1:n*b<a:=by
   refine Classical.byContradiction λz=>?_
   have z':a<=n*b:=by omega
   have h3:=MG z' z';have h4:n*n*(b*b)<d*(b*b):=Nat.mul_lt_mul_of_pos_right h1 (Nat.mul_pos hb hb);have e2:n*b*(n*b)=n*n*(b*b):=by grind
   omega
  have l2:a<(n+1)*b:=by
   refine Classical.byContradiction λz=>?_
   have z':(n+1)*b<=a:=by omega
   have h3:=MG z' z';have h4:d*(b*b)<(n+1)*(n+1)*(b*b):=Nat.mul_lt_mul_of_pos_right h2 (Nat.mul_pos hb hb);have e2:(n+1)*b*((n+1)*b)=(n+1)*(n+1)*(b*b):=by grind
   omega
  have e3:(n+1)*b=n*b+b:=by grind
  obtain⟨c,hc⟩:∃c,a=n*b+c:=⟨a-n*b,by omega⟩;have hc0:0<c:=by omega
  have hcb:c<b:=by omega
  have l3:n*a<=d*b:=by
   have h5:n*a*a<=d*b*a:=by
    have h6:n*(a*a)=n*(d*(b*b)):=by rw[e]
    have h7:n*b*(d*b)<=a*(d*b):=Lx _ (L0 l1);have e4:n*a*a=n*(a*a):=by grind
    have e5:n*(d*(b*b))=n*b*(d*b):=by grind
    have e6:d*b*a=a*(d*b):=by grind
    omega
   exact Nat.le_of_mul_le_mul_right h5 (by omega)
  obtain⟨f,hf⟩:∃f,d*b=n*a+f:=⟨d*b-n*a,by omega⟩;refine ih c hcb f hc0 ?_
  have e7:(f:Int)=(d:Int)*b-n*a:=by have:=congrArg (λz:Nat=>(z:Int)) hf;simp only[Int.natCast_add,LP]at this;omega
  have e8:(c:Int)=(a:Int)-n*b:=by have:=congrArg (λz:Nat=>(z:Int)) hc;simp only[Int.natCast_add,LP]at this;omega
  have e9:(a:Int)*a=d*(b*b):=by have:=congrArg (λz:Nat=>(z:Int)) e;simp only[LP]at this;exact this
  have e10:(f:Int)*f=d*(c*c):=by
   rw[e7,e8];have:((d:Int)*b-n*a)*(d*b-n*a)-d*((a-n*b)*(a-n*b))=(d*(b*b)-a*a)*(d-n*n):=by grind
   rw[e9,Int.sub_self,Lc]at this;omega
  have e11:((f*f:Nat):Int)=((d*(c*c):Nat):Int):=by simp only[LP];exact e10
  exact Int.ofNat.inj e11
theorem wK{n d:Nat}(h1:n*n<d)(h2:d<(n+1)*(n+1)):NSq d:=by
 refine⟨by omega,λa b hb e=>?_⟩;refine Eu n d h1 h2 b.natAbs a.natAbs (by omega) ?_;have e1:((a.natAbs*a.natAbs:Nat):Int)=a*a:=Int.natAbs_mul_self;have e2:((b.natAbs*b.natAbs:Nat):Int)=b*b:=Int.natAbs_mul_self
 have:((a.natAbs*a.natAbs:Nat):Int)=((d*(b.natAbs*b.natAbs):Nat):Int):=by rw[LP (d) _,e1,e2,e,KQ]
 exact Int.ofNat.inj this
theorem iS(u v d:Int):sgq u v d=1\/sgq u v d=0\/sgq u v d = -1:=by
 unfold sgq;split
 ·split
  ·exact .inl rfl
  ·exact .inr (.inl rfl)
 ·split
  ·exact .inr (.inr rfl)
  ·split<;>split<;>simp
theorem oI{u v d:Int}(hu:0<=u)(hv:0<=v)(h:0<u\/0<v):sgq u v d=1:=by unfold sgq;rw[if_pos ⟨hu,hv⟩,if_pos h]
theorem oJ{u v d:Int}(hu:u<=0)(hv:v<=0)(h:u<0\/v<0):sgq u v d = -1:=by unfold sgq;rw[if_neg (by omega),if_pos ⟨hu,hv⟩]
theorem AO{u v d:Int}(hu:0<u)(hv:v<0):sgq u v d=if u*u<d*v*v then -1 else 1:=by unfold sgq;rw[if_neg (by omega),if_neg (by omega),if_pos hu]
theorem AQ{u v d:Int}(hu:u<0)(hv:0<v):sgq u v d=if u*u>d*v*v then -1 else 1:=by unfold sgq;rw[if_neg (by omega),if_neg (by omega),if_neg (by omega)]
theorem oK(d:Int):sgq 0 0 d=0:=rfl
theorem nk{t n x y:Int}:∀(a b c:List Int),a.length=c.length->b.length=c.length->(∀k,cf c k=x*cf a k+y*cf b k)->hv t n c=x*hv t n a+y*hv t n b
 | [],[],[],_,_,_=>by simp[nj]
 |u::a,v::b,w::c,ha,hb,h=>by
  have h0:w=x*u+y*v:=h 0;have ih:=nk (t:=t) (n:=n) (x:=x) (y:=y) a b c (by simpa using ha) (by simpa using hb) (λk=>h (k+1));have la:a.length=c.length:=by simpa using ha
  have lb:b.length=c.length:=by simpa using hb
  rw[dU,dU,dU,ih,h0,la,lb];generalize n^(c.length+1)=p;grind
 | [],_::_,[],_,h,_=>by simp at h
 |_::_,_,[],h,_,_=>by simp at h
 | [],_,_::_,h,_,_=>by simp at h
 |_::_,[],_::_,_,h,_=>by simp at h
theorem xL(t n g:Int)(l:List Int):hv t n (scL g l)=g*hv t n l:=by have:=nk (t:=t) (n:=n) (x:=g) (y:=0) l l (scL g l) (by rw[cP]) (by rw[cP]) (λk=>by rw[bK];simp);rw[this];simp
theorem xH(t n:Int):∀(k:Nat) (l:List Int),hv t n (l++List.replicate k 0)=n^k*hv t n l
 |k,[]=>by
  rw[List.nil_append,nj,KO]
  induction k with
  |zero=>rfl
  |succ k ih=>rw[L4,dU,ih];simp
 |k,v::l=>by
  rw[List.cons_append,dU,xH t n k l,dU];have:(l++List.replicate k (0:Int)).length+1=l.length+1+k:=by simp;omega
  rw[this,Int.pow_add];generalize n^(l.length+1)=p;generalize n^k=q;grind
theorem G5(l:List Int)(k j:Nat):cf (l++List.replicate k 0) j=cf l j:=by
 by_cases h:j<l.length
 ·rw[yQ h]
 ·rw[lc (by omega),k8,bV (by omega)]
theorem rK(t n:Int){b:List Int}(hb:b≠[]):∀{a:List Int},a≠[]->n*hv t n (am a b)=hv t n a*hv t n b
 | [x],_=>by
  have e:am [x] b=scL x b:=by
   apply fu
   ·rw[cs (by simp) hb,cP];simp
   ·intro k _;rw[aW,ge,bK]
  rw[e,xL,xO];grind
 |x::y::a,_=>by
  have ih:=rK t n hb (a:=y::a) (by simp);have lm:(am (x::y::a) b).length=(y::a).length+b.length:=by rw[cs (by simp) hb,Lr];omega
  have lm2:(am (y::a) b).length+1=(y::a).length+b.length:=by rw[cs (by simp) hb];have:=KL.mpr hb;rw[Lr];omega
  have e:=nk (t:=t) (n:=n) (x:=x) (y:=1) (b++List.replicate (y::a).length 0) (0::am (y::a) b) (am (x::y::a) b) (by rw[lm,Lb,MN];omega) (by rw[lm,Lr,lm2])
   (λk=>by rw[aW,fi,G5,nN];rw[K4];congr 1;unfold up;split<;>first |rfl |rw[aW])
  rw[e,xH,dU (v:=0),dU (v:=x)];have:n*(x*(n^(y::a).length*hv t n b)+1*(0*n^((am (y::a) b).length+1)+t*hv t n (am (y::a) b)))=x*(n^(y::a).length*n)*hv t n b+t*(n*hv t n (am (y::a) b)):=by grind
  rw[this,ih,<- K5];grind
noncomputable def pr(t n:Int):List (List Int)->Int
 | []=>1
 |s::ss=>hv t n s*pr t n ss
noncomputable def sl:List (List Int)->Nat
 | []=>0
 |s::ss=>s.length+sl ss
theorem w8{a b:List Int}(ha:a≠[])(hb:b≠[]):am a b≠[]:=λz=>by have:=cs ha hb;rw[z]at this;have h1:=KL.mpr ha;have h2:=KL.mpr hb;rw[List.length_nil]at this;omega
noncomputable def cN(acc:List Int)(ss:List (List Int)):List Int:=ss.foldl am acc
theorem we:∀(ss:List (List Int)) (acc:List Int),acc≠[]->Tr acc->(∀s∈ss,s≠[]/\Tr s)->cN acc ss≠[]/\Tr (cN acc ss)/\(cN acc ss).length+ss.length=acc.length+sl ss
 | [],acc,h1,h2,_=>⟨h1,h2,by simp[cN,sl]⟩
 |s::ss,acc,h1,h2,h3=>by have hs:=h3 s (Ls ..);obtain⟨a,b,c⟩:=we ss (am acc s) (w8 h1 hs.1) (gU h2 hs.2) (λx hx=>h3 x (Ll _ hx));refine⟨a,b,?_⟩;have l:=cs h1 hs.1;have p1:=KL.mpr h1;have p2:=KL.mpr hs.1;show(cN (am acc s) ss).length+(ss.length+1)=acc.length+(s.length+sl ss);omega
theorem xN(t n:Int):∀(ss:List (List Int)) (acc:List Int),acc≠[]->(∀s∈ss,s≠[])->n^ss.length*hv t n (cN acc ss)=hv t n acc*pr t n ss
 | [],acc,_,_=>by show n^0*hv t n acc=hv t n acc*1;simp
 |s::ss,acc,h1,h3=>by have hs:=h3 s (Ls ..);have ih:=xN t n ss (am acc s) (w8 h1 hs) (λx hx=>h3 x (Ll _ hx));have e:=rK t n hs h1;show n^(ss.length+1)*hv t n (cN (am acc s) ss)=hv t n acc*(hv t n s*pr t n ss);rw[K5,K8 _ n,KQ,ih,<- KQ,e,KQ]
theorem iN{r:List Int}(h:Tr r):cu [] r=scL (-1) r:=by
 refine kY (fb _) (lI (by decide) h) λk=>?_
 unfold cu;rw[fM,k9,bK,cD];omega
theorem GR{a b:List Int}(hb:b≠[])(hbt:Tr b):0<b7 a b:=by
 have h:=rZ (a:=a) hb hbt
 have h2:0<=b7 a b:=by
  unfold b7;generalize bz a b=n
  induction n with
  |zero=>rw[LI];decide
  |succ n ih=>rw[K5];exact KN ih (Mw _)
 omega
theorem vJ{n:Nat}{one:List Int}(h:one≠[])(hn:0<n):bA n one []=[one]:=by obtain⟨m,rfl⟩:∃m,n=m+1:=⟨n-1,by omega⟩;show(if one=[]then[]else one::bA m [] (nxt one []))=_;rw[if_neg h,ic]
noncomputable def di:Nat->List Int->List Int->Prop
 |0,one,_=>one=[]
 |n+1,one,other=>one=[]\/di n other (nxt one other)
theorem io(a:List Int):am [] a=[]:=by unfold am;rw[if_pos (.inl rfl)]
theorem im(a:List Int):am a []=[]:=by unfold am;rw[if_pos (.inr rfl)]
theorem w9(a b:List Int):am a b=am b a:=by
 by_cases ha:a=[]
 ·rw[ha,io,im]
 by_cases hb:b=[]
 ·rw[hb,io,im]
 refine fu ?_ λk _=>?_
 ·rw[cs ha hb,cs hb ha];omega
 ·rw[aW,aW,kI]
theorem rA{a b:List Int}(ha:a≠[])(hb:b≠[]):am a b≠[]:=λz=>by have:=cs ha hb;rw[z,List.length_nil]at this;have:=KL.mpr ha;have:=KL.mpr hb;omega
theorem xb(a b c:List Int):am (am a b) c=am a (am b c):=by
 by_cases ha:a=[]
 ·rw[ha,io,io,io]
 by_cases hb:b=[]
 ·rw[hb,io,im,io]
 by_cases hc:c=[]
 ·rw[hc,im,im,im]
 have h1:=rA ha hb;have h2:=rA hb hc;refine fu ?_ λk _=>?_
 ·have:=KL.mpr hb;rw[cs h1 hc,cs ha h2,cs ha hb,cs hb hc];obtain⟨y,ey⟩:=Nat.exists_eq_succ_of_ne_zero (Nat.ne_of_gt this);rw[ey,Nat.succ_add,Nat.add_succ,Nat.succ_sub_one,Nat.succ_sub_one,Nat.add_assoc]
 ·rw[aW,aW,kJ]
instance:Std.Commutative am:=⟨w9⟩
instance:Std.Associative am:=⟨xb⟩
theorem EK(a:List Int):am [1] a=a:=by
 by_cases ha:a=[]
 ·rw[ha,im]
 refine fu ?_ λk _=>?_
 ·rw[cs (by simp) ha];simp
 ·rw[aW,ge];omega
theorem xf(a:List Int):am a [1]=a:=by rw[w9,EK]
theorem Ce:Pln [1]:=⟨tr_snoc (r:=[]).mpr (by decide),by simp,by decide,by decide⟩
def Sim(a b:List Int):Prop:=∃x y:Int,x≠0/\y≠0/\∀n,x*cf a n=y*cf b n
theorem Sim.refl(a:List Int):Sim a a:=⟨1,1,by decide,by decide,λ_=>rfl⟩
theorem Sim.dv{a b d:List Int}(h:Sim a b)(hd:Dv d b):Dv d a:=by obtain⟨x,y,hx,hy,e⟩:=h;exact Dv.prop_right hx e hd
theorem Sim.symm{a b:List Int}(h:Sim a b):Sim b a:=by obtain⟨x,y,hx,hy,e⟩:=h;exact⟨y,x,hy,hx,λn=>(e n).symm⟩
noncomputable def prd(ss:List (List Int)):List Int:=ss.foldr am [1]
theorem xY:∀(ss:List (List Int)) (acc:List Int),ss.foldl am acc=am acc (prd ss)
 | [],acc=>(xf acc).symm
 |s::ss,acc=>by show ss.foldl am (am acc s)=am acc (am s (prd ss));rw[xY ss,xb]
theorem qY:∀(ss:List (List Int)),(∀s∈ss,Pln s)->Pln (prd ss)
 | [],_=>Ce
 |s::ss,h=>(h s (Ls ..)).mul (qY ss λx hx=>h x (Ll _ hx))
structure Pri(s:List Int):Prop where
 pln:Pln s
 two:2<=s.length
 or:∀a b,Dv s (am a b)->Dv s a\/Dv s b
theorem sr(l:List Int)(n:Nat):cf (slopeL l) n=((n:Int)+1)*cf l (n+1):=by
 unfold slopeL;rw[nQ];by_cases h:n<l.length-1
 ·rw[if_pos h]
 ·rw[if_neg h,bV (l:=l) (by omega),KO]
theorem Aw(x:Int)(a:List Int)(n:Nat):cf (slopeL (x::a)) n=1*cf a n+1*cf (0::slopeL a) n:=by
 rw[sr,nM,nN];cases n with
 |zero=>show(((0:Nat):Int)+1)*cf a 0=1*cf a 0+1*0;omega
 |succ n =>
  show(((n+1:Nat):Int)+1)*cf a (n+1)=1*cf a (n+1)+1*cf (slopeL a) n;rw[sr];have:((n+1:Nat):Int)=(n:Int)+1:=by omega
  rw[this,Int.add_mul];omega
noncomputable def pw(s:List Int):Nat->List Int
 |0=>[1]
 |n+1=>am s (pw s n)
noncomputable def fP(g:Nat->Nat)(us:List (List Int×Nat)):List Int:=us.foldr (λp acc=>am (pw p.1 (g p.2)) acc) [1]
theorem kM(l:List Int):(slopeL l).length=l.length-1:=by unfold slopeL;simp
theorem og{l:List Int}(h:Tr l):Tr (slopeL l):=λn hn=>by rw[kM]at hn;rw[sr];exact KM (by omega) (h (n+1) (by omega))
theorem BM{s a b:List Int}(hs:s≠[])(h:Dv s (am a b)):Dv s (am (aQ a s) (aQ b s)):=by
 have e1:=λn=>jD (a:=a) hs n
 have e2:=λn=>jD (a:=b) hs n
 have d1:Dv s (am (aQ a s) b):=by
  refine Dv.down (f:=b7 a s) (q:=am (cC a s) b) (b:=s) (λn=>?_) h (Dv.refl _);rw[aW,aW];have l:=gH (a:=am (cC a s) s) (b:=aQ a s) (x:=1) (y:=1) (c:=scL (b7 a s) a) (q:=b) (n:=n) (λk=>by rw[bK,e1,aW];omega);have l2:=gH (a:=a) (b:=[]) (x:=b7 a s) (y:=0) (c:=scL (b7 a s) a) (q:=b) (n:=n) (λk=>by rw[bK];simp)
  have l3:aR (am (cC a s) s) b n=aR (am (cC a s) b) s n:=by
   rw[<- aW,<- aW]
   congr 1
   ac_rfl
  rw[l2,l3]at l;rw[eS]at l;omega
 refine Dv.down (f:=b7 b s) (q:=am (aQ a s) (cC b s)) (b:=s) (λn=>?_) d1 (Dv.refl _);rw[aW,aW];have l:=EH (a:=am (cC b s) s) (b:=aQ b s) (x:=1) (y:=1) (c:=scL (b7 b s) b) (q:=aQ a s) (n:=n) (λk=>by rw[bK,e2,aW];omega);have l2:=mU (a:=aQ a s) (b:=b) (b':=scL (b7 b s) b) (c:=b7 b s) (n:=n) (λk=>by rw[bK])
 have l3:aR (aQ a s) (am (cC b s) s) n=aR (am (aQ a s) (cC b s)) s n:=by
  rw[<- aW,<- aW]
  congr 1
  ac_rfl
 rw[l2,l3]at l;omega
theorem yo{s a:List Int}(hs:s≠[])(ht:Tr s)(h:aQ a s=[]):Dv s a :=
 ⟨b7 a s,cC a s,rZ hs ht,λn=>by rw[jD hs,h,cD];omega⟩
noncomputable def aI(u e b:Int):List Int:=if e=0 then[-u,b]else[u*u-e,-2*b*u,b*b]
theorem dJ{u e b:Int}(hb:1<=b):Tr (aI u e b)/\2<=(aI u e b).length:=by
 unfold aI;split
 ·exact⟨(tr_snoc (r:=[-u])).mpr (by omega),by show 2<=2;decide⟩
 ·exact⟨(tr_snoc (r:=[u*u-e,-2*b*u])).mpr (KM (by omega) (by omega)),by show 2<=3;decide⟩
theorem wL{n e:Int}(hn:0<=n)(h1:n*n<e)(h2:e<(n+1)*(n+1)):∀(k:Nat) (x y:Int),x.toNat<=k->0<x->0<=y->e*(x*x)=y*y->False
 |0,x,y,hk,hx,_,_=>by omega
 |k+1,x,y,hk,hx,hy,h=>by
  have hxx:0<x*x:=KG hx hx
  have a1:n*x<y:=by
   refine Ly.mp λz=>?_
   have:=L9 z z hy (Int.le_trans hy z);have:=Lo h1 hxx;have e1:n*x*(n*x)=n*n*(x*x):=by grind
   omega
  have a2:y<(n+1)*x:=by
   refine Ly.mp λz=>?_
   have z0:0<=(n+1)*x:=KN (by omega) (by omega);have:=L9 z z z0 hy;have:=Lo h2 hxx;have e1:(n+1)*x*((n+1)*x)=(n+1)*(n+1)*(x*x):=by grind
   omega
  have a3:(n+1)*x=n*x+x:=by rw[Int.add_mul];omega
  refine wL hn h1 h2 k (y-n*x) ((e*x-n*y).natAbs:Int) (by omega) (by omega) (by omega) ?_;rw[Int.natAbs_mul_self' (e*x-n*y)];grind
def NS(e:Int):Prop:=e<=0\/∃n:Int,0<=n/\n*n<e/\e<(n+1)*(n+1)
theorem NS.no{e x y:Int}(h:NS e)(he:e≠0)(hx:x≠0)(eq:x*x*e=y*y):False:=by
 rcases h with h |⟨n,hn,h1,h2⟩
 ·have hxx:0<x*x:=by
   rcases LC hx with z |z
   ·exact LR z z
   ·exact KG z z
  have:x*x*e<0:=Mx hxx (by omega)
  have:0<=y*y:=by
   rcases Int.le_total 0 y with z |z
   ·exact KN z z
   ·exact Ms z z
  omega
 ·refine wL hn h1 h2 _ (x.natAbs:Int) (y.natAbs:Int) (KH _) (by omega) (by omega) ?_;rw[Int.natAbs_mul_self' x,Int.natAbs_mul_self' y,<- eq,K8]
theorem BS{u e b:Int}(hb:1<=b)(he:NS e){p q:List Int}(h:Dv (aI u e b) (am p q)):Dv (aI u e b) p\/Dv (aI u e b) q:=by
 obtain⟨tr,l2⟩:=dJ (u:=u) (e:=e) hb;have hne:aI u e b≠[]:=λz=>by rw[z]at l2;simp at l2
 by_cases hp:aQ p (aI u e b)=[]
 ·exact .inl (yo hne tr hp)
 by_cases hq:aQ q (aI u e b)=[]
 ·exact .inr (yo hne tr hq)
 exfalso;have d:=BM hne h;have t1:=gr p (aI u e b);have t2:=gr q (aI u e b);have n1:=iy (a:=p) hne;have n2:=iy (a:=q) hne;generalize aQ p (aI u e b)=r1 at *
 generalize aQ q (aI u e b)=r2 at *
 have lm:=cs hp hq;have p1:=KL.mpr hp;have p2:=KL.mpr hq;by_cases hs:(am r1 r2).length<(aI u e b).length
 ·exact rA hp hq (Dv.short hne tr (gU t1 t2) hs d)
 by_cases h0:e=0
 ·have:(aI u e b).length=2:=by unfold aI;rw[if_pos h0];rfl
  omega
 have er:aI u e b=[u*u-e,-2*b*u,b*b]:=by unfold aI;rw[if_neg h0]
 rw[er]at hs n1 n2 d hne tr;simp only[Lr,List.length_nil]at hs n1 n2
 obtain⟨α,β,rfl⟩:∃α β,r1=[α,β]:=by
  match r1,(show r1.length=2 by omega)with
  | [α,β],_=>exact⟨α,β,rfl⟩
 obtain⟨γ,δ,rfl⟩:∃γ δ,r2=[γ,δ]:=by
  match r2,(show r2.length=2 by omega)with
  | [γ,δ],_=>exact⟨γ,δ,rfl⟩
 have hβ:β≠0:=(tr_snoc (r:=[α])).mp t1;have hδ:δ≠0:=(tr_snoc (r:=[γ])).mp t2
 have em:am [α,β] [γ,δ]=[α*γ,α*δ+β*γ,β*δ]:=by
  refine fu (by rw[lm];rfl) λk hk=>?_
  rw[lm]at hk;rw[aW];have hk':k<3:=hk;have:k=0\/k=1\/k=2:=by omega
  rcases this with rfl |rfl |rfl
  ·show(0+(α*γ))+0=α*γ;omega
  ·show(0+(α*δ))+(β*γ)=α*δ+β*γ;omega
  ·show(0+α*cf [γ,δ] 2)+(β*δ)=β*δ;have:cf [γ,δ] 2=0:=rfl;rw[this];simp
 rw[em]at d;have hr:=d.rest hne tr;have eqn:=λn=>jD (a:=[α*γ,α*δ+β*γ,β*δ]) hne n
 have hf:=rZ (a:=[α*γ,α*δ+β*γ,β*δ]) hne tr;have lq:=GQ (a:=[α*γ,α*δ+β*γ,β*δ]) hne;generalize b7 [α*γ,α*δ+β*γ,β*δ] [u*u-e,-2*b*u,b*b]=f at *
 generalize cC [α*γ,α*δ+β*γ,β*δ] [u*u-e,-2*b*u,b*b]=Q at *
 rw[hr]at eqn;have lq':Q.length=1:=lq;obtain⟨κ,rfl⟩:∃κ,Q=[κ]:=MR.mp lq';have g0:=eqn 0;have g1:=eqn 1;have g2:=eqn 2;rw[ge,cD]at g0 g1 g2
 replace g0:f*(α*γ)=κ*(u*u-e)+0:=g0
 replace g1:f*(α*δ+β*γ)=κ*(-2*b*u)+0:=g1
 replace g2:f*(β*δ)=κ*(b*b)+0:=g2
 have hκ:κ≠0:=λz=>by rw[z,Lc]at g2;exact KM hf (KM hβ hδ) (by omega)
 refine he.no h0 (x:=2*κ*b) (y:=f*(α*δ-β*γ)) (KM (KM (by decide) hκ) (by omega)) ?_;have k1:f*(α*δ-β*γ)*(f*(α*δ-β*γ))=f*(α*δ+β*γ)*(f*(α*δ+β*γ))-4*((f*(α*γ))*(f*(β*δ))):=by grind
 rw[k1,g0,g1,g2];grind
theorem BR{u e b:Int}(hb:1<=b)(he:NS e):Pri (aO (aI u e b)):=by
 obtain⟨tr,l2⟩:=dJ (u:=u) (e:=e) hb;have hne:aI u e b≠[]:=λz=>by rw[z]at l2;simp at l2
 obtain⟨g,hg,eg⟩:=gD tr;have to:∀p,Dv (aO (aI u e b)) p->Dv (aI u e b) p:=λp h=>Dv.prop_left (x:=1) (y:=g) (by decide) hg (λn=>by rw[eg];omega) h
 have fr:∀p,Dv (aI u e b) p->Dv (aO (aI u e b)) p:=λp h=>Dv.prop_left (x:=g) (y:=1) hg (by decide) (λn=>by rw[<- eg];omega) h
 refine⟨jl tr hne,by rw[plain_len];exact l2,λp q h=>?_⟩;exact(BS hb he (to _ h)).imp (fr _) (fr _)
noncomputable def eq1(k m:Nat):Nat:=if m=k then 1 else 0
noncomputable def CM(_:Nat):Nat:=1
noncomputable def flt(us:List (List Int×Nat)):List Int:=fP CM us
variable {us:List (List Int×Nat)}
noncomputable def aT(sq due:Int):Int:=if due<0\/due*due<sq then 1 else 0-(if sq<due*due then 1 else 0)
noncomputable def ao(l:List Int)(t n:Int):Int:=if 0<cf l 3 then aT (cf l 1*n*n) (cf l 2*t-cf l 0*n)else 0-aT (cf l 1*n*n) (0-(cf l 2*t-cf l 0*n))
theorem bC(sq d:Int):(aT sq d=1/\(d<0\/d*d<sq))\/(aT sq d=0/\0<=d/\d*d=sq)\/(aT sq d = -1/\0<=d/\sq<d*d):=by
 unfold aT;by_cases h:d<0\/d*d<sq
 ·rw[if_pos h];exact .inl ⟨rfl,h⟩
 ·rw[if_neg h];by_cases h2:sq<d*d
  ·rw[if_pos h2];exact .inr (.inr ⟨rfl,by omega,h2⟩)
  ·rw[if_neg h2];exact .inr (.inl ⟨rfl,by omega,by omega⟩)
structure Spt(l:List Int):Prop where
 is:∃u e b s:Int,l=[u,e,b,s]/\0<=e/\1<=b/\(s=1\/s = -1)
theorem iP{x y:Int}(hx:0<=x)(h:x<=y):x*x<=y*y:=L9 h h hx (by omega)
theorem gA{x y:Int}(hx:0<=x)(h:x<y):x*x<y*y:=by have h1:x*x<=x*y:=MS (KI h) hx;have h2:x*y<y*y:=Lo h (by omega);omega
theorem rE{x y:Int}(hy:0<=y)(h:x*x<y*y):x<y:=Ly.mp λz=>by have:=iP hy z;omega
theorem kO{x y:Int}(hy:0<=y)(h:x*x<=y*y):x<=y:=Li.mp λz=>by have:=gA hy z;omega
theorem gz{g sq d:Int}(hg:0<g):aT (sq*(g*g)) (g*d)=aT sq d:=by
 have hgg:0<g*g:=KG hg hg;have e1:g*d*(g*d)=d*d*(g*g):=by grind
 have e2:(g*d<0)↔d<0:=by
  constructor
  ·intro h;refine Ly.mp λz=>?_
   have:=KN (KI hg) z;omega
  ·intro h;exact Mx hg h
 have e3:∀x y:Int,(x*(g*g)<y*(g*g))↔x<y:=λx y=>⟨λh=>LS h (KI hgg),λh=>Lo h hgg⟩
 unfold aT;rw[e1];simp only[e2,e3]
theorem oE{g t n:Int}(l:List Int)(hg:0<g):ao l (g*t) (g*n)=ao l t n:=by
 have e1:cf l 1*(g*n)*(g*n)=cf l 1*n*n*(g*g):=by grind
 have e2:cf l 2*(g*t)-cf l 0*(g*n)=g*(cf l 2*t-cf l 0*n):=by grind
 have e3:0-g*(cf l 2*t-cf l 0*n)=g*(0-(cf l 2*t-cf l 0*n)):=by grind
 unfold ao;rw[e1,e2,e3,gz hg,gz hg]
theorem fU{t n t' n':Int}(l:List Int)(hn:0<n)(hn':0<n')(e:t*n'=t'*n):ao l t n=ao l t' n':=by
 rw[<- oE (g:=n') l hn',<- oE (g:=n) (t:=t') l hn];have e1:n'*t=n*t':=by rw[K8,e,K8]
 rw[e1,K8 n' n]
theorem cV(l:List Int)(t n:Int):ao l t n=1\/ao l t n=0\/ao l t n = -1:=by
 unfold ao;split
 ·rcases bC (cf l 1*n*n) (cf l 2*t-cf l 0*n)with h |h |h<;>omega
 ·rcases bC (cf l 1*n*n) (0-(cf l 2*t-cf l 0*n))with h |h |h<;>omega
theorem d8{l:List Int}(hl:Spt l){t n t' n':Int}(hn:0<n)(hn':0<n')(h:t*n'<t'*n)(hs:ao l t n<=0):ao l t' n' = -1:=by
 obtain⟨u,e,b,s,rfl,he,hb,hs1⟩:=hl
 have hlt:(b*t-u*n)*n'<(b*t'-u*n')*n:=by
  have h1:b*(t*n')<b*(t'*n):=MV h (by omega);have e1:(b*t-u*n)*n'=b*(t*n')-u*n*n':=by grind
  have e2:(b*t'-u*n')*n=b*(t'*n)-u*n*n':=by grind
  omega
 have hnn:0<n*n:=KG hn hn;have hnn':0<n'*n':=KG hn' hn';rcases hs1 with rfl |rfl
 ·have z0:(0:Int)<1:=by decide
  have hs:aT (e*n*n) (b*t-u*n)<=0:=hs;show aT (e*n'*n') (b*t'-u*n') = -1;generalize b*t-u*n=a at *
  generalize b*t'-u*n'=a' at *
  have k1:0<=a/\e*n*n<=a*a:=by rcases bC (e*n*n) a with h |h |h<;>omega
  have k2:0<=a*n':=KN k1.1 (KI hn');have k3:0<a':=LS (a:=n) (by omega) (KI hn);have k4:=gA k2 hlt;have k5:e*n*n*(n'*n')<=a*a*(n'*n'):=KT k1.2 (KI hnn')
  have k6:e*n'*n'*(n*n)<a'*a'*(n*n):=by
   have e1:e*n'*n'*(n*n)=e*n*n*(n'*n'):=by grind
   have e2:a'*a'*(n*n)=a'*n*(a'*n):=by grind
   have e3:a*a*(n'*n')=a*n'*(a*n'):=by grind
   omega
  have k7:=LS k6 (KI hnn);rcases bC (e*n'*n') a' with h |h |h<;>omega
 ·have hs:0-aT (e*n*n) (0-(b*t-u*n))<=0:=hs;show 0-aT (e*n'*n') (0-(b*t'-u*n')) = -1;generalize ha:0-(b*t-u*n)=a at *
  generalize ha':0-(b*t'-u*n')=a' at *
  have hlt':a'*n<a*n':=by
   have e1:a'*n = -((b*t'-u*n')*n):=by rw[<- ha'];grind
   have e2:a*n' = -((b*t-u*n)*n'):=by rw[<- ha];grind
   omega
  have k1:a<0\/a*a<=e*n*n:=by rcases bC (e*n*n) a with h |h |h<;>omega
  have k2:a'<0\/a'*a'<e*n'*n':=by
   by_cases z:a'<0
   ·exact .inl z
   right;have p1:0<=a'*n:=KN (by omega) (KI hn);have p2:0<a:=LS (a:=n') (by omega) (KI hn');have p3:=gA p1 hlt';have k5:a*a*(n'*n')<=e*n*n*(n'*n'):=KT (by omega) (KI hnn')
   have k6:a'*a'*(n*n)<e*n'*n'*(n*n):=by
    have e1:e*n'*n'*(n*n)=e*n*n*(n'*n'):=by grind
    have e2:a'*a'*(n*n)=a'*n*(a'*n):=by grind
    have e3:a*a*(n'*n')=a*n'*(a*n'):=by grind
    omega
   exact LS k6 (KI hnn)
  rcases bC (e*n'*n') a' with h |h |h<;>omega
noncomputable def spF(f:List Int):List (List Int):=(if 0<=cf f 1 then[[cf f 0,cf f 1,cf f 2,1]]else[])++(if 0<cf f 1 then[[cf f 0,cf f 1,cf f 2,-1]]else[])
noncomputable def bY(fs:List (List Int)):List (List Int):=fs.flatMap spF
noncomputable def spr(t n:Int):List (List Int)->Int
 | []=>1
 |l::ls => -ao l t n*spr t n ls
theorem lN(t n:Int):∀a b,spr t n (a++b)=spr t n a*spr t n b
 | [],b=>by show _=1*_;rw[K4];rfl
 |x::a,b=>by show _*spr t n (a++b)=_*_*_;rw[lN t n a b,KQ]
theorem oo{f l:List Int}{u e b:Int}(hf:f=[u,e,b])(hb:1<=b)(h:l∈spF f):Spt l/\∃s,l=[u,e,b,s]/\0<=e/\(s=1\/s = -1/\0<e):=by
 subst hf;have hd:spF [u,e,b]=(if 0<=e then[[u,e,b,1]]else[])++(if 0<e then[[u,e,b,-1]]else[]):=rfl;rw[hd]at h;rcases L1.mp h with h |h
 ·by_cases z:0<=e
  ·rw[if_pos z]at h;obtain rfl:=KP.mp h;exact⟨⟨u,e,b,1,rfl,z,hb,.inl rfl⟩,1,rfl,z,.inl rfl⟩
  ·rw[if_neg z]at h;cases h
 ·by_cases z:0<e
  ·rw[if_pos z]at h;obtain rfl:=KP.mp h;exact⟨⟨u,e,b,-1,rfl,by omega,hb,.inr rfl⟩,-1,rfl,by omega,.inr ⟨rfl,z⟩⟩
  ·rw[if_neg z]at h;cases h
theorem BQ{u e b t n:Int}(hn:0<n):sg (hv t n (aI u e b))=spr t n (spF [u,e,b]):=by
 have hd:spF [u,e,b]=(if 0<=e then[[u,e,b,1]]else[])++(if 0<e then[[u,e,b,-1]]else[]):=rfl;rw[hd];by_cases h0:e=0
 ·subst h0;have er:aI u 0 b=[-u,b]:=by unfold aI;rw[if_pos rfl]
  have ev:hv t n [-u,b]=n*(b*t-u*n):=by show -u*n^2+t*(b*n^1+t*0)=_;grind
  rw[er,ev,d9 hn,if_pos (K6 _),if_neg (by omega)];show _ = -aT (0*n*n) (b*t-u*n)*1;generalize b*t-u*n=a;rw[Lc,Lc];have:a<0\/a=0\/0<a:=by omega
  rcases this with h |h |h
  ·have h1:sg a = -1:=by unfold sg;rw[if_pos h]
   rcases bC 0 a with z |z |z<;>omega
  ·subst h;rfl
  ·have h1:sg a=1:=by unfold sg;rw[if_neg (by omega),if_pos h]
   have h2:=KG h h;rcases bC 0 a with z |z |z<;>omega
 ·have er:aI u e b=[u*u-e,-2*b*u,b*b]:=by unfold aI;rw[if_neg h0]
  have ev:hv t n [u*u-e,-2*b*u,b*b]=n*((b*t-u*n)*(b*t-u*n)-e*n*n):=by show(u*u-e)*n^3+t*((-2*b*u)*n^2+t*((b*b)*n^1+t*0))=_;grind
  rw[er,ev,d9 hn];by_cases hp:0<=e
  ·rw[if_pos hp,if_pos (by omega)];show _ = -aT (e*n*n) (b*t-u*n)*(-(0-aT (e*n*n) (0-(b*t-u*n)))*1);generalize b*t-u*n=a;have hE:0<e*n*n:=KG (KG (by omega) hn) hn;generalize e*n*n=E at *
   have e1:(0-a)*(0-a)=a*a:=by grind
   have h1:=bC E a;have h2:=bC E (0-a);rw[e1]at h2;have az:a=0->a*a=0:=λz=>by rw[z];rfl
   have s3:(a*a<E/\sg (a*a-E) = -1)\/(a*a=E/\sg (a*a-E)=0)\/(E<a*a/\sg (a*a-E)=1):=by unfold sg;split<;>(try split)<;>omega
   generalize a*a=q at *
   rcases h1 with⟨x1,x2⟩ |⟨x1,x2⟩ |⟨x1,x2⟩<;>rcases h2 with⟨y1,y2⟩ |⟨y1,y2⟩ |⟨y1,y2⟩<;>rw[x1,y1]<;>simp<;>omega
  ·rw[if_neg hp,if_neg (by omega)]
   have h1:0<=(b*t-u*n)*(b*t-u*n):=by
    rcases Int.le_total 0 (b*t-u*n)with z |z
    ·exact KN z z
    ·exact Ms z z
   have h2:e*n*n<0:=by rw[KQ];exact MQ (by omega) (KG hn hn)
   show sg _=1;unfold sg;rw[if_neg (by omega),if_pos (by omega)]
noncomputable def aJ(f:List Int):List Int:=aO (aI (cf f 0) (cf f 1) (cf f 2))
theorem kg(x y:Int):sg (x*y)=sg x*sg y:=by
 rcases Mz x 0 with hx |hx |hx
 ·have h1:sg x = -1:=by unfold sg;rw[if_pos hx]
  have e:x*y = -((-x)*y):=by grind
  rw[e,AS,d9 (by omega),h1];omega
 ·subst hx;rw[Lc];show(0:Int)=0*_;rw[Lc]
 ·have h1:sg x=1:=by unfold sg;rw[if_neg (by omega),if_pos hx]
  rw[d9 hx,h1,K4]
theorem Cg{l:List Int}(h:Tr l)(hne:l≠[])(hp:0<cb l):∃g:Int,0<g/\l=scL g (aO l):=by
 obtain⟨g,hg,e⟩:=gD h
 have e2:l=scL g (aO l):=by
  apply fu
  ·rw[cP,plain_len]
  ·intro k _;rw[bK,e k]
 have hP:=jl h hne;refine⟨g,?_,e2⟩;obtain⟨r,x,er⟩:=(dk l).resolve_left hne;have hx:cb l=cf l r.length:=by rw[er,fH,jI]
 obtain⟨r',x',er'⟩:=(dk (aO l)).resolve_left hP.ne;have hx':cb (aO l)=cf (aO l) r'.length:=by rw[er',fH,jI]
 have hl:r.length=r'.length:=by have:=plain_len l;have h1:=congrArg List.length er;have h2:=congrArg List.length er';simp at h1 h2;omega
 have h3:=e r.length;rw[<- hx,hl,<- hx']at h3;have h4:=hP.pos;rw[h3]at hp;rcases LC hg with z |z
 ·have:=MQ z h4;omega
 ·exact z
theorem AI{u e b t n:Int}(hb:1<=b)(hn:0<n):sg (hv t n (aJ [u,e,b]))=spr t n (spF [u,e,b]):=by
 obtain⟨tr,l2⟩:=dJ (u:=u) (e:=e) hb;have hne:aI u e b≠[]:=λz=>by rw[z]at l2;simp at l2
 have hlast:0<cb (aI u e b):=by
  unfold aI;split
  ·show 0<cb ([-u]++[b]);rw[fH];omega
  ·show 0<cb ([u*u-e,-2*b*u]++[b*b]);rw[fH];exact KG (by omega) (by omega)
 obtain⟨g,hg,eg⟩:=Cg tr hne hlast;rw[<- BQ hn];show sg (hv t n (aO (aI u e b)))=_
 have e3:hv t n (aI u e b)=g*hv t n (aO (aI u e b)):=by
  calc hv t n (aI u e b)=hv t n (scL g (aO (aI u e b))):=by rw[<- eg]
   _=_:=xL _ _ _ _
 rw[e3,d9 hg]
def iE(f:List Int):Prop:=∃u e b:Int,f=[u,e,b]/\1<=b
theorem wg{t n:Int}(hn:0<n):∀(fs:List (List Int)),(∀f∈fs,iE f)->sg (pr t n (fs.map aJ))=spr t n (bY fs)
 | [],_=>rfl
 |f::fs,h=>by
  obtain⟨u,e,b,rfl,hb⟩:=h f (Ls ..);have ih:=wg (t:=t) hn fs λx hx=>h x (Ll _ hx)
  have e1:bY ([u,e,b]::fs)=spF [u,e,b]++bY fs:=by unfold bY;rw[List.flatMap_cons]
  show sg (hv t n (aJ [u,e,b])*pr t n (fs.map aJ))=_;rw[kg,AI hb hn,ih,e1,lN]
theorem AK{f:List Int}(h:iE f):aJ f≠[]/\Tr (aJ f):=by obtain⟨u,e,b,rfl,hb⟩:=h;obtain⟨tr,l2⟩:=dJ (u:=u) (e:=e) hb;refine⟨λz=>?_,tj tr⟩;have:=plain_len (aI u e b);have z':aO (aI u e b)=[]:=z;rw[z']at this;simp at this;omega
theorem wc{t n c:Int}(hn:0<n){fs:List (List Int)}(h:∀f∈fs,iE f):sg (hv t n (am [c] (cN [1] (fs.map aJ))))=sg c*spr t n (bY fs):=by
 have hs:∀s∈fs.map aJ,s≠[]/\Tr s:=λs hs=>by obtain⟨x,hx,rfl⟩:=LO.mp hs;exact AK (h x hx)
 obtain⟨p1,p2,p3⟩:=we (fs.map aJ) [1] (by simp) ((tr_snoc (r:=[])).mpr (by decide)) hs;have e1:=rK t n (a:=[c]) (b:=cN [1] (fs.map aJ)) p1 (by simp);have e2:=xN t n (fs.map aJ) [1] (by simp) λs h=>(hs s h).1
 rw[xO]at e1 e2;rw[<- wg hn fs h]
 have e3:hv t n (am [c] (cN [1] (fs.map aJ)))=c*hv t n (cN [1] (fs.map aJ)):=by refine Int.eq_of_mul_eq_mul_left (Ln hn) ?_;rw[e1];grind
 rw[e3,kg];have e4:=congrArg sg e2;rw[d9 (Mj hn),K4,d9 hn]at e4;rw[e4]
def inS(l:List Int)(A B D:Int):Prop:=0<ao l A D/\ao l B D<=0
instance (l:List Int) (A B D:Int):Decidable (inS l A B D):=inferInstanceAs (Decidable (_/\_))
structure Fsm(u e b:Int):Prop where
 u1 : -1000000000<=u
 u2:u<=1000000000
 e0:0<=e
 e1:e<=10000000000000000
 b1:1<=b
 b2:b<=1000
theorem Fa{x:Int}{n:Nat}(h1 : -(n:Int)<=x)(h2:x<=n):x.natAbs<=n:=by omega
theorem nc{x D:Int}(hD:0<D)(h1 : -(30000000000000*D)<=x)(h2:x<=30000000000000*D):x.natAbs<=30000000000000*D.natAbs:=by
 have e:((30000000000000*D.natAbs:Nat):Int)=30000000000000*D:=by rw[LP,Int.natAbs_of_nonneg (KI hD)];rfl
 exact Fa (by rw[e];exact h1) (by rw[e];exact h2)
theorem wQ{u e b s A B D:Int}(h:Fsm u e b)(hs:s=1\/s = -1/\0<e)(hD:2^200<=D)(hw:B=A+128)(hi:inS [u,e,b,s] A B D):((b*A-u*D)*(b*A-u*D)-e*D*D).natAbs<=30000000000000*D.natAbs:=by
 obtain⟨u1,u2,e0,e1,b1,b2⟩:=h;have hDD:0<D:=by omega
 have eB:b*B-u*D=b*A-u*D+128*b:=by rw[hw];grind
 have h36:e*D*D<=100000000*D*(100000000*D):=by
  have h1:e*(D*D)<=10000000000000000*(D*D):=KT (by omega) (KI (KG hDD hDD));have e2:e*D*D=e*(D*D):=by grind
  have e3:100000000*D*(100000000*D)=10000000000000000*(D*D):=by grind
  omega
 have hE0:0<=e*D*D:=KN (KN e0 (by omega)) (by omega)
 have hbig:e=0\/16384000000<e*D*D:=by
  rcases LU 0 e with z |z
  ·right;have h1:1*(D*D)<=e*(D*D):=KT (by omega) (KI (KG hDD hDD));have e2:e*D*D=e*(D*D):=by grind
   have h2:1*D<=D*D:=KT (by omega) (by omega);omega
  ·left;omega
 rcases hs with rfl |⟨rfl,hp⟩
 ·have i1:0<aT (e*D*D) (b*A-u*D):=hi.1;have i2:aT (e*D*D) (b*B-u*D)<=0:=hi.2;rw[eB]at i2;generalize b*A-u*D=a at *
  have k1:a<0\/a*a<e*D*D:=by rcases bC (e*D*D) a with z |z |z<;>omega
  have k2:0<=a+128*b/\e*D*D<=(a+128*b)*(a+128*b):=by rcases bC (e*D*D) (a+128*b)with z |z |z<;>omega
  by_cases ha:a<0
  ·have q1:=iP k2.1 (show a+128*b<=128000 by omega);have z0:e=0:=by omega
   subst z0;have q2:(-a)*(-a)<=128000*128000:=iP (by omega) (by omega);have q3:(-a)*(-a)=a*a:=by grind
   have q4:0<=a*a:=by rw[<- q3];exact KN (by omega) (by omega)
   rw[Lc,Lc];exact nc hDD (by omega) (by omega)
  ·have k3:a*a<e*D*D:=by omega
   have k4:a<100000000*D:=rE (by omega) (by omega);have e3:(a+128*b)*(a+128*b)=a*a+256*(b*a)+16384*(b*b):=by grind
   have k5:b*a<=1000*a:=KT b2 (by omega);have k6:b*b<=1000000:=L9 b2 b2 (by omega) (by omega);exact nc hDD (by omega) (by omega)
 ·have i1:0<0-aT (e*D*D) (0-(b*A-u*D)):=hi.1;have i2:0-aT (e*D*D) (0-(b*B-u*D))<=0:=hi.2;rw[eB]at i2;have eq1:(b*A-u*D)*(b*A-u*D)=(0-(b*A-u*D))*(0-(b*A-u*D)):=by grind
  have eq2:0-(b*A-u*D+128*b)=0-(b*A-u*D)-128*b:=by omega
  rw[eq1];rw[eq2]at i2;generalize 0-(b*A-u*D)=c at *
  have k1:0<=c/\e*D*D<c*c:=by rcases bC (e*D*D) c with z |z |z<;>omega
  have k2:c-128*b<0\/(c-128*b)*(c-128*b)<=e*D*D:=by rcases bC (e*D*D) (c-128*b)with z |z |z<;>omega
  by_cases hc:c-128*b<0
  ·have q1:=iP k1.1 (show c<=128000 by omega);exact nc hDD (by omega) (by omega)
  ·have k3:(c-128*b)*(c-128*b)<=e*D*D:=by omega
   have k4:c-128*b<=100000000*D:=kO (by omega) (by omega);have e3:c*c=(c-128*b)*(c-128*b)+256*(b*c)-16384*(b*b):=by grind
   have k5:b*c<=1000*c:=KT b2 (by omega);have k6:0<=b*b:=KN (by omega) (by omega);exact nc hDD (by omega) (by omega)
theorem zG{u e b A B D:Int}(h:Fsm u e b)(he:0<e)(hD:2^200<=D)(hw:B=A+128)(h1:inS [u,e,b,1] A B D)(h2:inS [u,e,b,-1] A B D):False:=by
 obtain⟨u1,u2,e0,e1,b1,b2⟩:=h;have hDD:0<D:=by omega
 have eB:b*B-u*D=b*A-u*D+128*b:=by rw[hw];grind
 have i1:aT (e*D*D) (b*B-u*D)<=0:=h1.2;have i2:0<0-aT (e*D*D) (0-(b*A-u*D)):=h2.1;rw[eB]at i1;generalize b*A-u*D=a at *
 have k1:0<=a+128*b:=by rcases bC (e*D*D) (a+128*b)with z |z |z<;>omega
 have k2:0<=0-a/\e*D*D<(0-a)*(0-a):=by rcases bC (e*D*D) (0-a)with z |z |z<;>omega
 have k3:=iP k2.1 (show 0-a<=128000 by omega);have h3:1*(D*D)<=e*(D*D):=KT (by omega) (KI (KG hDD hDD));have e2:e*D*D=e*(D*D):=by grind
 have h4:1*D<=D*D:=KT (by omega) (by omega);omega
theorem cM{x y:Int}{a b:Nat}(hx:x.natAbs<=a)(hy:y.natAbs<=b):(x*y).natAbs<=a*b:=by rw[Lj];exact MG hx hy
theorem wR(N:Nat):1000*1000*(30000000000000*N)+1000*1000*(30000000000000*N)<=60000000000000000000*N/\1000*1000*(30000000000000*N)<=30000000000000000000*N:=by omega
theorem Ez{n2 n3 n4 x1 x2 x3:Nat}(h:n4<=x1+x2+x3)(t1:x1<=482400000000000000000000000000000000000000000*n3)(t2:x2<=3600000000000000000000000000000000000000*n2)(t3:x3<=480000000000000000000000000000000000000000000*n3)(m1:n2<=n3)(m2:1606938044258990275541962092341162602522202993782792835301376*n3<=n4)(m4:0<n3):False:=by omega
theorem EA{u e b u' e' b' A D:Int}(h:Fsm u e b)(h':Fsm u' e' b')(hD:2^200<=D)
 (n1:((b*A-u*D)*(b*A-u*D)-e*D*D).natAbs<=30000000000000*D.natAbs) (n2:((b'*A-u'*D)*(b'*A-u'*D)-e'*D*D).natAbs<=30000000000000*D.natAbs) :
 4*((b*u'-u*b')*(b*u'-u*b'))*(b*b*e')=(b'*b'*e-b*b*e'-(b*u'-u*b')*(b*u'-u*b'))*(b'*b'*e-b*b*e'-(b*u'-u*b')*(b*u'-u*b')):=by
 obtain⟨u1,u2,e0,e1,b1,b2⟩:=h;obtain⟨u1',u2',e0',e1',b1',b2'⟩:=h';obtain⟨N,rfl⟩:=Int.eq_ofNat_of_zero_le (show 0<=D by omega);rw[Lp]at n1 n2;have hN:1606938044258990275541962092341162602522202993782792835301376<=N:=by omega
 have q9:(b'*b').natAbs<=1000*1000:=cM (a:=1000) (b:=1000) (by omega) (by omega);have q9':(b*b).natAbs<=1000*1000:=cM (a:=1000) (b:=1000) (by omega) (by omega);have d1:=cM q9 n1;have d2:=cM q9' n2
 have hU:(b*u'-u*b').natAbs<=2000000000000:=by have a1:(b*u').natAbs<=1000*1000000000:=cM (by omega) (by omega);have a2:(u*b').natAbs<=1000000000*1000:=cM (by omega) (by omega);exact KZ (MH _ _) (MI a1 a2)
 have hE1:(b'*b'*e).natAbs<=1000*1000*10000000000000000:=cM q9 (by omega);have hE2:(b*b*e').natAbs<=1000*1000*10000000000000000:=cM q9' (by omega);have r1:(b'*(b*A-u*N))*(b'*(b*A-u*N))=b'*b'*e*(N*N)+b'*b'*((b*A-u*N)*(b*A-u*N)-e*N*N):=by grind
 have r2:(b*(b'*A-u'*N))*(b*(b'*A-u'*N))=b*b*e'*(N*N)+b*b*((b'*A-u'*N)*(b'*A-u'*N)-e'*N*N):=by grind
 have r3:b'*(b*A-u*N)=b*(b'*A-u'*N)+(b*u'-u*b')*N:=by grind
 generalize b'*b'*((b*A-u*N)*(b*A-u*N)-e*N*N)=δ1 at *
 generalize b*b*((b'*A-u'*N)*(b'*A-u'*N)-e'*N*N)=δ2 at *
 rw[r3]at r1;generalize b*(b'*A-u'*N)=Y at *
 generalize b*u'-u*b'=U at *
 generalize b'*b'*e=E1 at *
 generalize b*b*e'=E2 at *
 clear n1 n2 q9 q9' r3 u1 u2 e0 e1 b1 b2 u1' u2' e0' e1' b1' b2' hD;have hUU:(U*U).natAbs<=2000000000000*2000000000000:=cM hU hU;have hW:(E1-E2-U*U).natAbs<=4020000000000000000000000:=KZ (MH _ _) (KZ (MI (KZ (MH _ _) (MI hE1 hE2)) hUU) (by decide));generalize hWd:E1-E2-U*U=W at *
 have r4:2*U*N*Y=W*(N*N)+(δ1-δ2):=by rw[<- hWd];grind
 have r5:(2*U*N*Y)*(2*U*N*Y)=4*(U*U)*(N*N)*(Y*Y):=by grind
 rw[r4,r2]at r5;have hM:(δ1-δ2).natAbs<=60000000000000000000*N:=KZ (MH _ _) (KZ (MI d1 d2) (wR N).1);have hδ2:δ2.natAbs<=30000000000000000000*N:=KZ d2 (wR N).2;generalize δ1-δ2=δ at *
 have hNN:(0:Int)<(N:Int)*N:=KG (by omega) (by omega);have r6:(4*(U*U)*E2-W*W)*(N*N)*(N*N)=2*W*δ*(N*N)+δ*δ-4*(U*U)*δ2*(N*N):=by grind
 refine Int.sub_eq_zero.mp (Classical.byContradiction λhne=>?_);generalize hZ:4*(U*U)*E2-W*W=Z at *
 have hZ1:1<=Z.natAbs:=by omega
 have b1:(Z*(N*N)*(N*N)).natAbs=Z.natAbs*(N*N)*(N*N):=by rw[Lj,Lj,Lj,Lp]
 have t1:(2*W*δ*(N*N)).natAbs<=2*4020000000000000000000000*(60000000000000000000*N)*(N*N):=by refine cM (cM (cM (by decide) hW) hM) ?_;rw[Lj,Lp];exact KH _
 have t2:(δ*δ).natAbs<=60000000000000000000*N*(60000000000000000000*N):=cM hM hM
 have t3:(4*(U*U)*δ2*(N*N)).natAbs<=4*(2000000000000*2000000000000)*(30000000000000000000*N)*(N*N):=by refine cM (cM (cM (by decide) hUU) hδ2) ?_;rw[Lj,Lp];exact KH _
 have t4:1*(N*N)*(N*N)<=Z.natAbs*(N*N)*(N*N):=Lx _ (Lx _ hZ1);rw[<- b1,r6]at t4;have e1:2*4020000000000000000000000*(60000000000000000000*N)*(N*N)=482400000000000000000000000000000000000000000*(N*N*N):=by grind
 have e2:60000000000000000000*N*(60000000000000000000*N)=3600000000000000000000000000000000000000*(N*N):=by grind
 have e3:4*(2000000000000*2000000000000)*(30000000000000000000*N)*(N*N)=480000000000000000000000000000000000000000000*(N*N*N):=by grind
 have e4:1*(N*N)*(N*N)=N*(N*N*N):=by grind
 have m1:1*(N*N)<=N*(N*N):=Lx _ (by omega);have m2:1606938044258990275541962092341162602522202993782792835301376*(N*N*N)<=N*(N*N*N):=Lx _ hN;have m3:N*(N*N)=N*N*N:=by grind
 have m4:0<N*N*N:=Nat.mul_pos (Nat.mul_pos (by omega) (by omega)) (by omega);rw[e4]at t4;rw[e1]at t1;rw[e2]at t2;rw[e3]at t3;rw[Nat.one_mul,m3]at m1;exact Ez (KZ t4 (KZ (MH _ _) (Nat.add_le_add_right (Int.natAbs_add_le _ _) _))) t1 t2 t3 m1 m2 m4
theorem AL{u e b u' e' b':Int}(h:Fsm u e b)(h':Fsm u' e' b')(hs:NS e)(hs':NS e')
 (eq:4*((b*u'-u*b')*(b*u'-u*b'))*(b*b*e')=(b'*b'*e-b*b*e'-(b*u'-u*b')*(b*u'-u*b'))*(b'*b'*e-b*b*e'-(b*u'-u*b')*(b*u'-u*b'))):aJ [u,e,b]=aJ [u',e',b']:=by
 obtain⟨u1,u2,e0,e1,b1,b2⟩:=h;obtain⟨u1',u2',e0',e1',b1',b2'⟩:=h'
 have key:b*u'-u*b'=0/\b'*b'*e=b*b*e':=by
  by_cases hz:e'=0
  ·subst hz
   have e3:(b'*b'*e-(b*u'-u*b')*(b*u'-u*b'))*(b'*b'*e-(b*u'-u*b')*(b*u'-u*b'))=0:=by
    have:b*b*(0:Int)=0:=KO _;rw[this]at eq;rw[KO]at eq;have h9:b'*b'*e-0-(b*u'-u*b')*(b*u'-u*b')=b'*b'*e-(b*u'-u*b')*(b*u'-u*b'):=by omega
    rw[h9]at eq;exact eq.symm
   have e4:b'*b'*e=(b*u'-u*b')*(b*u'-u*b'):=by rcases K9.mp e3 with z |z<;>omega
   by_cases hz2:e=0
   ·subst hz2;rw[KO]at e4;refine⟨?_,by rw[KO,KO]⟩;rcases K9.mp e4.symm with z |z<;>exact z
   ·exact(hs.no hz2 (by omega) e4).elim
  ·by_cases hU:b*u'-u*b'=0
   ·rw[hU]at eq
    have e3:(b'*b'*e-b*b*e')*(b'*b'*e-b*b*e')=0:=by
     have h8:4*((0:Int)*0)*(b*b*e')=0:=by rw[KO,KO,Lc]
     rw[h8]at eq;have h9:b'*b'*e-b*b*e'-0*0=b'*b'*e-b*b*e':=by omega
     rw[h9]at eq;exact eq.symm
    refine⟨hU,?_⟩;rcases K9.mp e3 with z |z<;>omega
   ·refine(hs'.no hz (x:=2*(b*u'-u*b')*b) (KM (KM (by decide) hU) (by omega)) (Eq.trans ?_ eq)).elim;grind
 obtain⟨k1,k2⟩:=key;show aO (aI u e b)=aO (aI u' e' b');obtain⟨tr,l2⟩:=dJ (u:=u) (e:=e) b1;obtain⟨tr',l2'⟩:=dJ (u:=u') (e:=e') b1';have hne:aI u e b≠[]:=λz=>by rw[z]at l2;simp at l2
 have hne':aI u' e' b'≠[]:=λz=>by rw[z]at l2';simp at l2'
 have hz:e=0↔e'=0:=by
  constructor
  ·intro z;rw[z,KO]at k2;rcases K9.mp k2.symm with y |y
   ·rcases K9.mp y with y |y<;>omega
   ·exact y
  ·intro z;rw[z,KO]at k2;rcases K9.mp k2 with y |y
   ·rcases K9.mp y with y |y<;>omega
   ·exact y
 have prop:∃x y:Int,x≠0/\y≠0/\∀n,x*cf (aI u' e' b') n=y*cf (aI u e b) n:=by
  by_cases h0:e=0
  ·have h0':=hz.mp h0;refine⟨b,b',by omega,by omega,λn=>?_⟩;unfold aI;rw[if_pos h0,if_pos h0',si,si];split
   ·have:b*u'=u*b':=by omega
    grind
   ·split
    ·grind
    ·omega
  ·have h0':¬e'=0:=λz=>h0 (hz.mpr z)
   refine⟨b*b,b'*b',KM (by omega) (by omega),KM (by omega) (by omega),λn=>?_⟩;have k3:b*u'=u*b':=by omega
   unfold aI;rw[if_neg h0,if_neg h0']
   match n with
   |0 =>
    show b*b*(u'*u'-e')=b'*b'*(u*u-e);have:(b*u')*(b*u')=(u*b')*(u*b'):=by rw[k3]
    grind
   |1 =>
    show b*b*(-2*b'*u')=b'*b'*(-2*b*u);have:b*b'*(b*u')=b*b'*(u*b'):=by rw[k3]
    grind
   |2 =>show b*b*(b'*b')=b'*b'*(b*b);grind
   |n+3 =>show b*b*0=b'*b'*0;omega
 obtain⟨x,y,hx,hy,hp⟩:=prop;refine Cd (jl tr hne) (jl tr' hne') ?_ ?_
 ·rw[Dv.plain tr'];refine Dv.prop_right hx hp ?_;obtain⟨g,hg,eg⟩:=gD tr;exact⟨1,[g],by decide,λn=>by rw[ge,<- eg];omega⟩
 ·rw[Dv.plain tr];refine Dv.prop_right (x:=y) (y:=x) hy (λn=>(hp n).symm) ?_;obtain⟨g,hg,eg⟩:=gD tr';exact⟨1,[g],by decide,λn=>by rw[ge,<- eg];omega⟩
def FacG(f:List Int):Prop:=∃u e b:Int,f=[u,e,b] /\ -1000000000<=u/\u<=1000000000 /\ -10000000000000000<=e/\e<=10000000000000000/\1<=b/\b<=1000/\NS e
theorem FacG.q{f:List Int}(h:FacG f):iE f:=by obtain⟨u,e,b,rfl,_,_,_,_,h5,_⟩:=h;exact⟨u,e,b,rfl,h5⟩
def zB(l l':List Int):Prop:=∀A B D:Int,2^200<=D->B=A+128->inS l A B D->inS l' A B D->False
theorem tX{fs:List (List Int)}(hF:∀f∈fs,FacG f)(hn:(fs.map aJ).Nodup):(bY fs).Pairwise zB:=by
 unfold bY;rw[List.pairwise_flatMap];constructor
 ·intro f hf;obtain⟨u,e,b,rfl,h1,h2,h3,h4,h5,h6,h7⟩:=hF f hf;have hd:spF [u,e,b]=(if 0<=e then[[u,e,b,1]]else[])++(if 0<e then[[u,e,b,-1]]else[]):=rfl;rw[hd];by_cases z:0<e
  ·rw[if_pos (by omega),if_pos z];show List.Pairwise _ [[u,e,b,1],[u,e,b,-1]];refine List.pairwise_pair.mpr λA B D hD hw a1 a2=>?_
   exact zG ⟨h1,h2,by omega,h4,h5,h6⟩ z hD hw a1 a2
  ·rw[if_neg z];split
   ·exact List.pairwise_singleton _ _
   ·exact List.Pairwise.nil
 ·rw[List.nodup_iff_pairwise_ne,List.pairwise_map]at hn;refine hn.imp_of_mem λ{f g} hf hg hne x hx y hy A B D hD hw a1 a2=>hne ?_
  obtain⟨u,e,b,rfl,h1,h2,h3,h4,h5,h6,h7⟩:=hF f hf;obtain⟨u',e',b',rfl,h1',h2',h3',h4',h5',h6',h7'⟩:=hF g hg;obtain⟨_,s,rfl,he,hs⟩:=oo rfl h5 hx;obtain⟨_,s',rfl,he',hs'⟩:=oo rfl h5' hy;have F1:Fsm u e b:=⟨h1,h2,he,h4,h5,h6⟩;have F2:Fsm u' e' b':=⟨h1',h2',he',h4',h5',h6'⟩;exact AL F1 F2 h7 h7' (EA F1 F2 hD (wQ F1 hs hD hw a1) (wQ F2 hs' hD hw a2))
theorem fT{fs:List (List Int)}(hF:∀f∈fs,iE f){l:List Int}(hl:l∈bY fs):Spt l:=by obtain⟨f,hf,hm⟩:=List.mem_flatMap.mp hl;obtain⟨u,e,b,rfl,hb⟩:=hF f hf;exact(oo rfl hb hm).1
noncomputable def pv:List Int->Rat->Rat
 | [],_=>0
 |c::l,x=>(c:Rat)+x*pv l x
theorem v9:∀(N:Nat) (a b c:List Int) (u v:Int) (x:Rat),a.length<=N->b.length<=N->c.length<=N->(∀n,cf c n=u*cf a n+v*cf b n)->pv c x=(u:Rat)*pv a x+(v:Rat)*pv b x
 |0,a,b,c,u,v,x,ha,hb,hc,_=>by rw[L8 (Nat.le_zero.mp ha),L8 (Nat.le_zero.mp hb),L8 (Nat.le_zero.mp hc)];show(0:Rat)=u*0+v*0;grind
 |N+1,a,b,c,u,v,x,ha,hb,hc,h=>by
  have key:∀l:List Int,l.length<=N+1->pv l x=(cf l 0:Rat)+x*pv l.tail x/\l.tail.length<=N/\∀n,cf l.tail n=cf l (n+1):=λl hl=>by
   cases l with
   |nil=>exact⟨by show(0:Rat)=((0:Int):Rat)+x*0;grind,KJ _,λn=>by rw[cD];rfl⟩
   |cons y l=>exact⟨rfl,by simpa using hl,λn=>rfl⟩
  obtain⟨a1,a2,a3⟩:=key a ha;obtain⟨b1,b2,b3⟩:=key b hb;obtain⟨c1,c2,c3⟩:=key c hc;have ih:=v9 N a.tail b.tail c.tail u v x a2 b2 c2 λn=>by rw[a3,b3,c3,h]
  have h0:(cf c 0:Rat)=(u:Rat)*(cf a 0:Rat)+(v:Rat)*(cf b 0:Rat):=by rw[h 0,Ml,K3,K3]
  rw[a1,b1,c1,ih,h0];grind
theorem mP{a b c:List Int}{u v:Int}(x:Rat)(h:∀n,cf c n=u*cf a n+v*cf b n):pv c x=(u:Rat)*pv a x+(v:Rat)*pv b x :=
 v9 (a.length+b.length+c.length) a b c u v x (by omega) (by omega) (by omega) h
theorem fZ{a c:List Int}{u:Int}(x:Rat)(h:∀n,cf c n=u*cf a n):pv c x=(u:Rat)*pv a x:=by
 have:=mP (a:=a) (b:=[]) (c:=c) (u:=u) (v:=0) x λn=>by rw[h n,Lc,LH]
 rw[this];show _+((0:Int):Rat)*0=_;grind
theorem mO(x:Rat):∀(a b c:List Int),(∀n,cf c n=aR a b n)->pv c x=pv a x*pv b x
 | [],b,c,h=>by
  have:=fZ (a:=[]) (c:=c) (u:=0) x λn=>by rw[h n,eS];simp
  rw[this];show _=(0:Rat)*_;show((0:Int):Rat)*0=0*_;grind
 |y::a,b,c,h=>by
  have ih:=mO x a b (am a b) (aW a b)
  have:=mP (a:=b) (b:=0::am a b) (c:=c) (u:=y) (v:=1) x λn=>by
   rw[h n,fi,nN,K4]
   congr 1
   unfold up;split
   ·rfl
   ·rw[aW]
  rw[this];show(y:Rat)*pv b x+((1:Int):Rat)*(((0:Int):Rat)+x*pv (am a b) x)=((y:Rat)+x*pv a x)*pv b x;rw[ih];grind
theorem eG{a b:Rat}(ha:0<a)(hb:0<b):0<a/b:=by rw[Rat.div_def];exact K7 ha (Rat.inv_pos.mpr hb)
noncomputable def Bd(M v:Rat):Prop := -M<=v/\v<=M
theorem Bd.mul{M N u v:Rat}(h1:Bd M u)(h2:Bd N v):Bd (M*N) (u*v):=by obtain⟨a,b⟩:=h1;obtain⟨c,d⟩:=h2;have p1:0<=(M-u)*(N-v):=KU (by grind) (by grind);have p2:0<=(M+u)*(N+v):=KU (by grind) (by grind);have p3:0<=(M-u)*(N+v):=KU (by grind) (by grind);have p4:0<=(M+u)*(N-v):=KU (by grind) (by grind);constructor<;>grind
theorem Bd.add{M N u v:Rat}(h1:Bd M u)(h2:Bd N v):Bd (M+N) (u+v):=by obtain⟨a,b⟩:=h1;obtain⟨c,d⟩:=h2;constructor<;>grind
theorem Bd.mono{M N u:Rat}(h1:Bd M u)(h:M<=N):Bd N u:=by obtain⟨a,b⟩:=h1;constructor<;>grind
def Nice(f:Rat->Rat):Prop:=∀R:Rat,0<=R->∃M:Rat,0<=M/\(∀x,Bd R x->Bd M (f x))/\∀x y,Bd R x->Bd R y->x<=y->Bd (M*(y-x)) (f y-f x)
theorem eR(c:Rat):Nice λ_=>c:=λR _=>by
 rcases Lk (a:=0) (b:=c)with h |h
 ·exact⟨c,h,λx _=>⟨by grind,by grind⟩,λx y _ _ hxy=>by
   have:=KU h (show 0<=y-x by grind)
   exact⟨by grind,by grind⟩⟩
 ·exact⟨-c,by grind,λx _=>⟨by grind,by grind⟩,λx y _ _ hxy=>by
   have:=KU (show 0 <= -c by grind) (show 0<=y-x by grind)
   exact⟨by grind,by grind⟩⟩
theorem nice_id:Nice λx=>x:=λR hR=>by refine⟨R+1,by grind,λx h=>h.mono (by grind),λx y _ _ hxy=>?_⟩;have:=KU hR (show 0<=y-x by grind);exact⟨by grind,by grind⟩
theorem Nice.add{f g:Rat->Rat}(hf:Nice f)(hg:Nice g):Nice λx=>f x+g x:=λR hR=>by
 obtain⟨M,m0,m1,m2⟩:=hf R hR;obtain⟨N,n0,n1,n2⟩:=hg R hR;refine⟨M+N,by grind,λx h=>(m1 x h).add (n1 x h),λx y hx hy hxy=>?_⟩;have:=(m2 x y hx hy hxy).add (n2 x y hx hy hxy);have e1:M*(y-x)+N*(y-x)=(M+N)*(y-x):=by grind
 have e2:f y-f x+(g y-g x)=f y+g y-(f x+g x):=by grind
 rwa [e1,e2]at this
theorem Nice.mul{f g:Rat->Rat}(hf:Nice f)(hg:Nice g):Nice λx=>f x*g x:=λR hR=>by
 obtain⟨M,m0,m1,m2⟩:=hf R hR;obtain⟨N,n0,n1,n2⟩:=hg R hR;have p:=KU m0 n0;refine⟨2*(M*N),by grind,λx h=>((m1 x h).mul (n1 x h)).mono (by grind),λx y hx hy hxy=>?_⟩;have:=((m2 x y hx hy hxy).mul (n1 y hy)).add ((m1 x hx).mul (n2 x y hx hy hxy));have e1:M*(y-x)*N+M*(N*(y-x))=2*(M*N)*(y-x):=by grind
 have e2:(f y-f x)*g y+f x*(g y-g x)=f y*g y-f x*g x:=by grind
 rwa [e1,e2]at this
theorem cS:∀l:List Int,Nice (pv l)
 | []=>eR 0
 |c::l=>(eR (c:Rat)).add (nice_id.mul (cS l))
theorem v8:∀(l:List Int) (R:Rat),0<=R->∃M:Rat,0<=M/\∀x y,Bd R x->Bd R y->x<=y->Bd (M*((y-x)*(y-x))) (pv l y-pv l x-(y-x)*pv (slopeL l) x)
 | [],R,_=>⟨0,by grind,λx y _ _ _=>by
  have e:pv [] y-pv [] x-(y-x)*pv (slopeL []) x=0:=by show(0:Rat)-0-(y-x)*0=0;grind
  rw[e];constructor<;>grind⟩
 |c::l,R,hR=>by
  obtain⟨M,m0,m1⟩:=v8 l R hR;obtain⟨N,n0,n1,n2⟩:=cS l R hR;have p:=KU hR m0;refine⟨N+R*M,by grind,λx y hx hy hxy=>?_⟩
  have hd:pv (slopeL (c::l)) x=pv l x+x*pv (slopeL l) x:=by
   have:=mP (a:=l) (b:=0::slopeL l) (c:=slopeL (c::l)) (u:=1) (v:=1) x λn=>Aw c l n
   rw[this];show((1:Int):Rat)*pv l x+((1:Int):Rat)*(((0:Int):Rat)+x*pv (slopeL l) x)=_;grind
  have hz:Bd (y-x) (y-x):=⟨by grind,by grind⟩;have:=(hz.mul (n2 x y hx hy hxy)).add (hx.mul (m1 x y hx hy hxy));have e1:(y-x)*(N*(y-x))+R*(M*((y-x)*(y-x)))=(N+R*M)*((y-x)*(y-x)):=by grind
  have e2:(y-x)*(pv l y-pv l x)+x*(pv l y-pv l x-(y-x)*pv (slopeL l) x)=pv (c::l) y-pv (c::l) x-(y-x)*pv (slopeL (c::l)) x:=by rw[hd];show _=((c:Rat)+y*pv l y)-((c:Rat)+x*pv l x)-_;grind
  rwa [e1,e2]at this
noncomputable def sgR(v:Rat):Int:=if v<0 then -1 else if 0<v then 1 else 0
theorem bD(v:Rat):(v<0/\sgR v = -1)\/(v=0/\sgR v=0)\/(0<v/\sgR v=1):=by
 unfold sgR;by_cases h:v<0
 ·exact .inl ⟨h,by rw[if_pos h]⟩
 ·by_cases h2:0<v
  ·exact .inr (.inr ⟨h2,by rw[if_neg h,if_pos h2]⟩)
  ·exact .inr (.inl ⟨by grind,by rw[if_neg h,if_neg h2]⟩)
def Sta(f:Rat->Rat)(x y:Rat):Prop:=sgR (f x)=sgR (f y)/\sgR (f x)≠0
theorem rj{f:Rat->Rat}{x y D:Rat}(h:¬Sta f x y)(hd:Bd D (f y-f x)):Bd D (f x)/\Bd D (f y):=by
 obtain⟨d1,d2⟩:=hd
 have key:(f x<=0/\0<=f y)\/(0<=f x/\f y<=0):=by
  rcases bD (f x)with⟨a,b⟩ |⟨a,b⟩ |⟨a,b⟩<;>rcases bD (f y)with⟨c,d⟩ |⟨c,d⟩ |⟨c,d⟩
  ·exact absurd ⟨by rw[b,d],by rw[b];decide⟩ h
  ·exact .inl ⟨by grind,by grind⟩
  ·exact .inl ⟨by grind,by grind⟩
  ·exact .inr ⟨by grind,by grind⟩
  ·exact .inl ⟨by grind,by grind⟩
  ·exact .inl ⟨by grind,by grind⟩
  ·exact .inr ⟨by grind,by grind⟩
  ·exact .inr ⟨by grind,by grind⟩
  ·exact absurd ⟨by rw[b,d],by rw[b];decide⟩ h
 rcases key with⟨a,b⟩ |⟨a,b⟩
 ·exact⟨⟨by grind,by grind⟩,⟨by grind,by grind⟩⟩
 ·exact⟨⟨by grind,by grind⟩,⟨by grind,by grind⟩⟩
inductive SRow:List (List Int)->Prop
 |last {c:Int} (h:c≠0):SRow [[c]]
 |two {a:List Int} {c:Int} (h:c≠0):SRow [a,[c]]
 |cons {a b c:List Int} {r:List (List Int)} {q:List Int} {α β:Rat} (hα:0<α) (hβ:0<β) (e:∀x,α*pv a x=pv q x*pv b x-β*pv c x) (h:SRow (b::c::r)):SRow (a::b::c::r)
theorem qX(c:Int)(x:Rat):pv [c] x=(c:Rat):=by show(c:Rat)+x*0=c;grind
theorem bez:∀{row:List (List Int)},SRow row->∀a b r,row=a::b::r->∃(A B:Rat->Rat) (k:Rat),Nice A/\Nice B/\k≠0/\∀x,A x*pv a x+B x*pv b x=k
 |_,.last h,a,b,r,e=>by cases e
 |_,.two (c:=c) h,a,b,r,e=>by cases e;refine⟨λ_=>0,λ_=>1,(c:Rat),eR 0,eR 1,λz=>h (MJ.mp (by rw[z];rfl)),λx=>?_⟩;rw[qX];grind
 |_,.cons (a:=a0) (b:=b0) (c:=c) (q:=q) (α:=α) (β:=β) hα hβ eq h,a,b,r,e=>by
  cases e;obtain⟨A,B,k,nA,nB,hk,hAB⟩:=bez h _ _ _ rfl;refine⟨λx=>(-α)*B x,λx=>β*A x+B x*pv q x,β*k,(eR (-α)).mul nB,((eR β).mul nA).add (nB.mul (cS q)),λz=>?_,λx=>?_⟩
  ·rcases Rat.mul_eq_zero.mp z with y |y
   ·grind
   ·exact hk y
  ·have h1:=hAB x;have h2:=eq x;have:(-α)*B x*pv a0 x+(β*A x+B x*pv q x)*pv b0 x=B x*(pv q x*pv b0 x-α*pv a0 x)+β*A x*pv b0 x:=by grind
   rw[this,h2];have:B x*(pv q x*pv b0 x-(pv q x*pv b0 x-β*pv c x))+β*A x*pv b0 x=β*(A x*pv b0 x+B x*pv c x):=by grind
   rw[this,h1]
theorem wq{a b:Rat->Rat}(na:Nice a)(nb:Nice b){A B:Rat->Rat}{k:Rat}(nA:Nice A)(nB:Nice B)(hk:0<k)(hAB:∀x,A x*a x+B x*b x=k\/A x*a x+B x*b x = -k){R:Rat}(hR:0<=R) :
 ∃(δ κ:Rat),0<δ/\0<κ/\∀x y,Bd R x->Bd R y->x<y->y-x<=δ->¬Sta a x y->Sta b x y/\(κ<=b x\/b x <= -κ)/\(κ<=b y\/b y <= -κ):=by
 obtain⟨M1,p1,q1,r1⟩:=na R hR;obtain⟨M2,p2,q2,r2⟩:=nb R hR;obtain⟨M3,p3,q3,_⟩:=nA R hR;obtain⟨M4,p4,q4,_⟩:=nB R hR;have h31:=KU p3 p1;have h42:=KU p4 p2;have hT:0<2*(M3*M1+M4*M2+1):=by grind
 have hT4:0<2*(M4+1):=by grind
 refine⟨k/(2*(M3*M1+M4*M2+1)),k/(2*(M4+1)),eG hk hT,eG hk hT4,λx y hx hy hxy hd hs=>?_⟩
 have hd':(y-x)*(2*(M3*M1+M4*M2+1))<=k:=by
  have:=KR hd (KK hT)
  rwa [La (by grind)]at this
 have hyx:0<y-x:=by grind
 obtain⟨a1,a2⟩:=rj hs (r1 x y hx hy (by grind));have hM1:0<=M1*(y-x):=KU p1 (KK hyx)
 have far:∀z,Bd R z->Bd (M1*(y-x)) (a z)->k/(2*(M4+1))<=b z\/b z <= -(k/(2*(M4+1))):=λz hz ha=>by
  have e1:=(q3 z hz).mul ha
  have e2:2*(M3*(M1*(y-x)))<=k:=by have h1:=KU h42 (KK hyx);grind
  have hB:(k<=2*(B z*b z))\/(2*(B z*b z) <= -k):=by
   obtain⟨f1,f2⟩:=e1;rcases hAB z with g |g
   ·left;grind
   ·right;grind
  rcases Lk (a:=k/(2*(M4+1))) (b:=b z)with g |g
  ·exact .inl g
  ·rcases Lk (a:=b z) (b := -(k/(2*(M4+1))))with g2 |g2
   ·exact .inr g2
   ·exfalso;have hb:Bd (k/(2*(M4+1))) (b z):=⟨g2,g⟩;obtain⟨f1,f2⟩:=(q4 z hz).mul hb
    have e3:2*(M4*(k/(2*(M4+1))))<k:=by
     have e4:k/(2*(M4+1))*(2*(M4+1))=k:=La (by grind);have e5:=eG hk hT4;generalize k/(2*(M4+1))=w at *
     grind
    rcases hB with g3 |g3<;>grind
 refine⟨Classical.byContradiction λhs2=>?_,far x hx a1,far y hy a2⟩;obtain⟨b1,b2⟩:=rj hs2 (r2 x y hx hy (by grind));obtain⟨e1,e2⟩:=(q3 x hx).mul a1;obtain⟨e3,e4⟩:=(q4 x hx).mul b1;have hM:0<=(M3*M1+M4*M2)*(y-x):=KU (by grind) (KK hyx);have e5:M3*(M1*(y-x))+M4*(M2*(y-x))=(M3*M1+M4*M2)*(y-x):=by grind
 have e6:(y-x)*(2*(M3*M1+M4*M2+1))=2*((M3*M1+M4*M2)*(y-x))+2*(y-x):=by grind
 rcases hAB x with g |g<;>grind
theorem sB{row:List (List Int)}(h:SRow row){a b:List Int}{r:List (List Int)}(e:row=a::b::r):∃(A B:Rat->Rat) (k:Rat),Nice A/\Nice B/\0<k/\∀x,A x*pv a x+B x*pv b x=k\/A x*pv a x+B x*pv b x = -k:=by
 obtain⟨A,B,k,nA,nB,hk,hAB⟩:=bez h a b r e;rcases Lk (a:=0) (b:=k)with g |g
 ·exact⟨A,B,k,nA,nB,by grind,λx=>.inl (hAB x)⟩
 ·exact⟨A,B,-k,nA,nB,by grind,λx=>.inr (by rw[hAB x];grind)⟩
noncomputable def vr:Int->List Int->Int
 |_,[]=>0
 |b,s::r=>(if s*b<0 then 1 else 0)+vr (if s=0 then b else s) r
theorem yL:∀(l:List Int) (n b:Int),l.foldl chF (n,b)=(n+vr b l,(l.foldl chF (n,b)).2)
 | [],n,b=>by show(n,b)=(n+0,b);rw[LH]
 |s::r,n,b=>by
  show r.foldl chF (chF (n,b) s)=(n+((if s*b<0 then 1 else 0)+vr (if s=0 then b else s) r),(r.foldl chF (chF (n,b) s)).2)
  have e:chF (n,b) s=(n+(if s*b<0 then 1 else 0),if s=0 then b else s):=by
   unfold chF;by_cases h:s*b<0
   ·rw[if_pos h,if_pos h]
   ·rw[if_neg h,if_neg h,LH]
  rw[e];have:=yL r (n+(if s*b<0 then 1 else 0)) (if s=0 then b else s);rw[Int.add_assoc]at this;exact this
theorem yO(l:List Int):(chS l).1=vr 0 l:=by unfold chS;rw[yL l 0 0];show 0+vr 0 l=_;omega
def gQ(s:Int):Prop:=s=1\/s=0\/s = -1
inductive Al:Int->List Int->List Int->Prop
 |nil {b:Int}:Al b [] []
 |stab {b s:Int} {r r':List Int} (h:s≠0) (t:Al s r r'):Al b (s::r) (s::r')
 |unst {b s s':Int} {r r':List Int} (h1:gQ s) (h2:gQ s') (t:Al (-b) r r'):Al b (s :: -b::r) (s' :: -b::r')
theorem oa{b s:Int}(hb:b=1\/b = -1)(hs:gQ s)(r:List Int):vr b (s :: -b::r)=1+vr (-b) r:=by
 have hb0:¬(-b=0):=by omega
 rcases hs with rfl |rfl |rfl
 ·rcases hb with rfl |rfl<;>simp[vr]
 ·rcases hb with rfl |rfl<;>simp[vr]
 ·rcases hb with rfl |rfl<;>simp[vr]
theorem Al.vr:∀{b:Int} {r r':List Int},Al b r r'->(b=1\/b = -1)->(∀s∈r,gQ s)->RM.vr b r=RM.vr b r'
 |_,_,_,.nil,_,_=>rfl
 |b,_,_,.stab (s:=s) (r:=r) (r':=r') h t,hb,hu=>by
  have hs:gQ s:=hu s (Ls ..);have hs':s=1\/s = -1:=by rcases hs with z |z |z;exact .inl z;exact absurd z h;exact .inr z
  have ih:=Al.vr t hs' λx hx=>hu x (Ll _ hx)
  show _+RM.vr (if s=0 then b else s) r=_+RM.vr (if s=0 then b else s) r';rw[if_neg h,ih]
 |b,_,_,.unst h1 h2 t,hb,hu=>by
  have ih:=Al.vr t (by omega) λx hx=>hu x (Ll _ (Ll _ hx))
  rw[oa hb h1,oa hb h2,ih]
noncomputable def sgX(row:List (List Int))(x:Rat):List Int:=row.map λf=>sgR (pv f x)
theorem iT(v:Rat):gQ (sgR v):=by
 rcases bD v with⟨_,h⟩ |⟨_,h⟩ |⟨_,h⟩<;>rw[h]
 ·exact .inr (.inr rfl)
 ·exact .inr (.inl rfl)
 ·exact .inl rfl
theorem vm(row:List (List Int))(x:Rat):∀s∈sgX row x,gQ s:=λs hs=>by obtain⟨f,_,rfl⟩:=LO.mp hs;exact iT _
def zd(row:List (List Int))(R:Rat):Prop:=∃δ:Rat,0<δ/\∀x y,Bd R x->Bd R y->x<y->y-x<=δ->∀a r,row=a::r->Sta (pv a) x y->Al (sgR (pv a x)) (sgX r x) (sgX r y)
theorem AV{c:Int}(h:c≠0):sgR (c:Rat)≠0:=by
 rcases bD (c:Rat)with⟨_,e⟩ |⟨z,_⟩ |⟨_,e⟩
 ·rw[e];decide
 ·exact absurd (MJ.mp (by rw[z];rfl)) h
 ·rw[e];decide
theorem xq:∀{row:List (List Int)},SRow row->∀R:Rat,0<=R->zd row R/\zd row.tail R
 |_,.last h,R,_=>⟨⟨1,by grind,λx y _ _ _ _ a r e _=>by cases e;exact .nil⟩,⟨1,by grind,λx y _ _ _ _ a r e _=>by cases e⟩⟩
 |_,.two (c:=c) h,R,_=>by refine⟨⟨1,by grind,λx y _ _ _ _ a r e _=>?_⟩,⟨1,by grind,λx y _ _ _ _ a r e _=>by cases e;exact .nil⟩⟩;cases e;show Al _ [sgR (pv [c] x)] [sgR (pv [c] y)];rw[qX,qX];exact .stab (AV h) .nil
 |_,.cons (a:=a) (b:=b) (c:=c) (r:=r) (q:=q) (α:=α) (β:=β) hα hβ eq h,R,hR=>by
  obtain⟨⟨δ1,d1,l1⟩,⟨δ2,d2,l2⟩⟩:=xq h R hR;refine⟨?_,⟨δ1,d1,l1⟩⟩;obtain⟨A,B,k,nA,nB,hk,hAB⟩:=sB h rfl;obtain⟨δ3,κ,d3,hκ,l3⟩:=wq (cS b) (cS c) nA nB hk hAB hR;obtain⟨M,m0,m1,m2⟩:=cS b R hR;obtain⟨N,n0,n1,_⟩:=cS q R hR;have hMN:=KU n0 m0;have hT:0<N*M+1:=by grind
  have hβκ:=K7 hβ hκ
  obtain⟨δ,hδ,g1,g2,g3,g4⟩:∃δ:Rat,0<δ/\δ<=δ1/\δ<=δ2/\δ<=δ3/\δ*(N*M+1)<=β*κ:=by
   have hw:=eG hβκ hT;have hw2:β*κ/(N*M+1)*(N*M+1)=β*κ:=La (by grind)
   have two:∀u v:Rat,0<u->0<v->∃w:Rat,0<w/\w<=u/\w<=v:=λu v hu hv=>by
    rcases Lk (a:=u) (b:=v)with z |z
    ·exact⟨u,hu,KW,z⟩
    ·exact⟨v,hv,z,KW⟩
   obtain⟨u,hu,u1,u2⟩:=two δ1 δ2 d1 d2;obtain⟨v,hv,v1,v2⟩:=two u δ3 hu d3;obtain⟨w,hw',w1,w2⟩:=two v _ hv hw;refine⟨w,hw',by grind,by grind,by grind,?_⟩;have:=KR w2 (KK hT)
   rwa [hw2]at this
  refine⟨δ,hδ,λx y hx hy hxy hd a' r' e sa=>?_⟩;cases e;show Al (sgR (pv a x)) (sgR (pv b x)::sgX (c::r) x) (sgR (pv b y)::sgX (c::r) y);by_cases sb:Sta (pv b) x y
  ·have t:=l1 x y hx hy hxy (by grind) b (c::r) rfl sb;rw[<- sb.1];exact .stab sb.2 t
  ·obtain⟨sc,c1,c2⟩:=l3 x y hx hy hxy (by grind) sb;obtain⟨b1,_⟩:=rj sb (m2 x y hx hy (by grind));have hyx:0<y-x:=by grind
   have hop:sgR (pv c x) = -sgR (pv a x):=by
    obtain⟨f1,f2⟩:=(n1 x hx).mul b1;have e1:=eq x
    have e2:N*(M*(y-x))<β*κ:=by have h1:(y-x)*(N*M+1)<=δ*(N*M+1):=KR hd (KK hT);grind
    rcases c1 with z |z
    ·have h2:β*κ<=β*pv c x:=KY z (KK hβ);have h3:α*pv a x<0:=by grind
     have h4:pv a x<0:=by
      rcases Lk (a:=0) (b:=pv a x)with w |w
      ·have:=KU (KK hα) w;grind
      ·rcases bD (pv a x)with⟨w2,_⟩ |⟨w2,_⟩ |⟨w2,_⟩
       ·exact w2
       ·rw[w2]at h3;grind
       ·grind
     rcases bD (pv c x)with⟨w,_⟩ |⟨w,_⟩ |⟨_,w⟩
     ·grind
     ·grind
     ·rcases bD (pv a x)with⟨_,v⟩ |⟨v,_⟩ |⟨v,_⟩
      ·rw[w,v];decide
      ·grind
      ·grind
    ·have h2:β*pv c x<=β*(-κ):=KY z (KK hβ);have h3:0<α*pv a x:=by grind
     have h4:0<pv a x:=by
      rcases bD (pv a x)with⟨w2,_⟩ |⟨w2,_⟩ |⟨w2,_⟩
      ·have:=KU (KK hα) (show 0 <= -pv a x by grind);grind
      ·rw[w2]at h3;grind
      ·exact w2
     rcases bD (pv c x)with⟨_,w⟩ |⟨w,_⟩ |⟨w,_⟩
     ·rcases bD (pv a x)with⟨v,_⟩ |⟨v,_⟩ |⟨_,v⟩
      ·grind
      ·grind
      ·rw[w,v]
     ·grind
     ·grind
   have hop':sgR (pv c y) = -sgR (pv a x):=by rw[<- sc.1];exact hop
   have t:Al (sgR (pv c x)) (sgX r x) (sgX r y):=l2 x y hx hy hxy (by grind) c r rfl sc;rw[hop]at t;show Al _ (_::sgR (pv c x)::sgX r x) (_::sgR (pv c y)::sgX r y);rw[hop,hop'];exact .unst (iT _) (iT _) t
noncomputable def chg(f:Rat->Rat)(x y:Rat):Int:=if sgR (f x)≠0/\sgR (f y)≠sgR (f x)then 1 else 0
noncomputable def vrs(row:List (List Int))(x:Rat):Int:=vr 0 (sgX row x)
theorem jU{s:Int}(r:List Int):vr 0 (s::r)=vr s r:=by
 show(if s*0<0 then 1 else 0)+vr (if s=0 then 0 else s) r=_;rw[KO,if_neg (by decide),Lw];split
 ·rename_i h;rw[h]
 ·rfl
structure Cut(s:Rat->Int):Prop where
 u:∀x,gQ (s x)
 m:∀x y,x<y->s x<=0->s y = -1
noncomputable def cnt(S:List (Rat->Int))(x y:Rat):Int:=(S.map λs=>if 0<s x/\s y<=0 then(1:Int)else 0).sum
def inC(s:Rat->Int)(x y:Rat):Prop:=0<=s x/\s y<=0
theorem Hn(q:Rat):∃n:Nat,q<=(n:Rat):=by refine⟨q.ceil.toNat,Rat.le_trans (Rat.le_ceil (x:=q)) ?_⟩;have h:q.ceil<=(q.ceil.toNat:Int):=Int.self_le_toNat _;have h2:=Rat.intCast_le_intCast.mpr h;exact h2
theorem EB(n:Nat):(n:Rat)<=2^n:=by
 induction n with
 |zero=>decide
 |succ n ih =>
  have h1:((1:Nat):Rat)<=2^n:=by
   have:(1:Nat)<=2^n:=Nat.pow_pos (by decide);have h2:((1:Nat):Rat)<=((2^n:Nat):Rat):=Rat.natCast_le_natCast.mpr this
   rwa [Rat.natCast_pow]at h2
  rw[Rat.pow_succ,Rat.natCast_add];grind
theorem iu{n:Int}(hn:n≠0):(n:Rat)≠0:=λz=>hn (MJ.mp (show((n:Int):Rat)=((0:Int):Rat) by rw[z];rfl))
theorem wJ(q:Rat):(q.num:Rat)=q*((q.den:Int):Rat):=by
 have hd:((q.den:Int):Rat)≠0:=iu (by have:=q.den_pos;omega)
 have hx:(q.num:Rat)/((q.den:Int):Rat)=q:=by have:=Rat.mkRat_self q;rw[Rat.mkRat_eq_div]at this;exact this
 have:=La (a:=(q.num:Rat)) hd;rw[hx]at this;exact this.symm
theorem BU{t n:Int}(hn:0<n):((t:Rat)/(n:Rat)).num*n=t*(((t:Rat)/(n:Rat)).den:Int):=by
 have hn':(n:Rat)≠0:=iu (by omega);have hq:(t:Rat)/(n:Rat)*(n:Rat)=(t:Rat):=La hn';generalize (t:Rat)/(n:Rat)=q at hq ⊢
 apply MJ.mp;rw[K3,K3,wJ q,<- hq];grind
theorem cY{t n t' n':Int}(hn:0<n)(hn':0<n'):(t:Rat)/(n:Rat)<(t':Rat)/(n':Rat)↔t*n'<t'*n:=by
 have p1:(0:Rat)<(n:Rat):=Ld.mpr hn;have p2:(0:Rat)<(n':Rat):=Ld.mpr hn';have e1:(t:Rat)/(n:Rat)*(n:Rat)=(t:Rat):=La (by grind);have e2:(t':Rat)/(n':Rat)*(n':Rat)=(t':Rat):=La (by grind);generalize (t:Rat)/(n:Rat)=q at e1 ⊢
 generalize (t':Rat)/(n':Rat)=q' at e2 ⊢
 rw[<- Ld,K3,K3,<- e1,<- e2];have p3:=K7 p1 p2;have e3:q*(n:Rat)*(n':Rat)=q*((n:Rat)*(n':Rat)):=by grind
 have e4:q'*(n':Rat)*(n:Rat)=q'*((n:Rat)*(n':Rat)):=by grind
 rw[e3,e4];constructor
 ·intro h;exact LD h p3
 ·intro h;refine LF.mp λz=>?_
  have:=KR z (KK p3);grind
theorem mv{p v:Rat}(hp:0<p):sgR (p*v)=sgR v:=by
 rcases bD v with⟨a,b⟩ |⟨a,b⟩ |⟨a,b⟩
 ·have:p*v<0:=by have:=K7 hp (show 0 < -v by grind);grind
  rcases bD (p*v)with⟨_,d⟩ |⟨c,d⟩ |⟨c,d⟩
  ·rw[b,d]
  ·grind
  ·grind
 ·rw[a];have:p*0=0:=by grind
  rw[this]
 ·have:=K7 hp a;rcases bD (p*v)with⟨c,d⟩ |⟨c,d⟩ |⟨_,d⟩
  ·grind
  ·grind
  ·rw[b,d]
theorem vn(z:Int):sgR (z:Rat)=sg z:=by
 rcases bD (z:Rat)with⟨a,b⟩ |⟨a,b⟩ |⟨a,b⟩
 ·have:z<0:=Ld.mp a;rw[b];unfold sg;rw[if_pos this]
 ·have:z=0:=MJ.mp a;rw[this];rfl
 ·have:0<z:=Ld.mp a;rw[b];unfold sg;rw[if_neg (by omega),if_pos this]
theorem xM{t n:Int}(hn:0<n):∀l:List Int,(hv t n l:Rat)=(n:Rat)^l.length*pv l ((t:Rat)/(n:Rat))
 | []=>by show((0:Int):Rat)=_*0;grind
 |c::l=>by
  have hn':(n:Rat)≠0:=iu (by omega);have hq:(t:Rat)/(n:Rat)*(n:Rat)=(t:Rat):=La hn';rw[dU,Ml,K3,K3,xM hn l,Rat.intCast_pow];show _=(n:Rat)^(l.length+1)*((c:Rat)+(t:Rat)/(n:Rat)*pv l ((t:Rat)/(n:Rat)));rw[Rat.pow_succ];generalize hqq:(t:Rat)/(n:Rat)=q at *
  rw[<- hq];grind
theorem gB{t n:Int}(hn:0<n)(l:List Int):sg (hv t n l)=sgR (pv l ((t:Rat)/(n:Rat))):=by rw[<- vn,xM hn];exact mv (Rat.pow_pos (Ld.mpr hn))
def Cop2(a b:List Int):Prop:=∀d,d≠[]->Tr d->Dv d a->Dv d b->d.length<=1
theorem Es{one other:List Int}(ho:other≠[]):∀n,b7 one other*cf one n=aR (cC one other) other n-(aK (cu [] (aQ one other)):Int)*cf (nxt one other) n:=λn=>by
 have h1:=jD (a:=one) ho n;have e:nxt one other=aB (cu [] (aQ one other)):=by unfold nxt rst;rw[if_neg ho]
 have h2:=congrArg (λl=>cf l n) (shr_scale (l:=cu [] (aQ one other)));simp only[bK]at h2
 have h3:cf (cu [] (aQ one other)) n = -cf (aQ one other) n:=by rw[iN (gr _ _),bK];omega
 rw[e,h2,h3,h1];omega
theorem zQ(one other:List Int):Tr (nxt one other):=by unfold nxt;exact gT (by unfold cu;exact fb _)
theorem Et{one other:List Int}(ho:other≠[]):(nxt one other).length<other.length:=by
 have h1:=iy (a:=one) ho;unfold nxt rst;rw[if_neg ho,iN (gr _ _)]
 have h2:(aB (scL (-1) (aQ one other))).length<=(scL (-1) (aQ one other)).length:=by unfold aB;rw[KF];exact KH _
 rw[cP]at h2;omega
theorem rG{l:List Int}(h:l.length<=1)(hne:l≠[]):∃c,l=[c]:=MR.mp (by have:=KL.mpr hne;omega)
theorem vI:∀(n:Nat) (one other:List Int),other.length<=n->Tr one->one≠[]->Tr other->Cop2 one other->SRow (bA (n+1) one other)
 |0,one,other,hl,to,no,tt,hc=>by have e0:other=[]:=L8 (Nat.le_zero.mp hl);subst e0;have h1:=hc one no to (Dv.refl _) (Dv.nil _);obtain⟨c,rfl⟩:=rG h1 no;show SRow (if([c]:List Int)=[]then _ else[c]::bA 0 [] (nxt [c] []));rw[if_neg no];exact .last (tr_snoc (r:=[]) |>.mp to)
 |n+1,one,other,hl,to,no,tt,hc=>by
  have e:bA (n+1+1) one other=one::bA (n+1) other (nxt one other):=by show(if one=[]then _ else _)=_;rw[if_neg no]
  rw[e];by_cases ho:other=[]
  ·subst ho;have h1:=hc one no to (Dv.refl _) (Dv.nil _);obtain⟨c,rfl⟩:=rG h1 no;rw[ic];exact .last (tr_snoc (r:=[]) |>.mp to)
  have hs:=Es (one:=one) ho;have hlen:=Et (one:=one) ho;have tn:=zQ one other;have fp:0<b7 one other:=GR ho tt;by_cases hn:nxt one other=[]
  ·
   have hdv:Dv other one:=⟨b7 one other,cC one other,by omega,λk=>by rw[hs k,hn,cD];omega⟩;have h1:=hc other ho tt hdv (Dv.refl _);obtain⟨c,rfl⟩:=rG h1 ho;rw[hn,vJ ho (by omega)];exact .two (tr_snoc (r:=[]) |>.mp tt)
  ·have hc2:Cop2 other (nxt one other):=λd dn dt h1 h2=>by
    refine hc d dn dt ?_ h1;refine Dv.up (f:=b7 one other) (q:=cC one other) (r:=scL (-(aK (cu [] (aQ one other)):Int)) (nxt one other)) (by omega) (λk=>?_) h1 ?_
    ·rw[hs k,bK,Int.neg_mul];omega
    ·exact Dv.prop_right (x:=1) (y := -(aK (cu [] (aQ one other)):Int)) (by decide) (λk=>by rw[bK];omega) h2
   have ih:=vI n other (nxt one other) (by omega) tt ho tn hc2;have e2:bA (n+1) other (nxt one other)=other::bA n (nxt one other) (nxt other (nxt one other)):=by show(if other=[]then _ else _)=_;rw[if_neg ho]
   have n1:0<n:=by have:=KL.mpr hn;omega
   obtain⟨m,rfl⟩:∃m,n=m+1:=⟨n-1,by omega⟩;have e3:bA (m+1) (nxt one other) (nxt other (nxt one other))=nxt one other::bA m (nxt other (nxt one other)) (nxt (nxt one other) (nxt other (nxt one other))):=by show(if nxt one other=[]then _ else _)=_;rw[if_neg hn]
   rw[e2,e3]at ih ⊢
   have gp:0<(aK (cu [] (aQ one other)):Int):=by
    rcases Nat.eq_zero_or_pos (aK (cu [] (aQ one other)))with z |z
    ·exfalso;apply hn;refine rk tn λk=>?_
     have e:nxt one other=aB (cu [] (aQ one other)):=by unfold nxt rst;rw[if_neg ho]
     rw[e];unfold aB;rw[z];unfold cf;simp[List.getD];cases(cu [] (aQ one other))[k]? with
     |none=>rfl
     |some v=>simp
    ·omega
   refine .cons (q:=cC one other) (α:=(b7 one other:Rat)) (β:=((aK (cu [] (aQ one other)):Int):Rat)) (Ld.mpr fp) (Ld.mpr gp) (λx=>?_) ih;have h1:=fZ (a:=one) (c:=scL (b7 one other) one) (u:=b7 one other) x λk=>bK _ _ _
   have h2:=mO x (cC one other) other (am (cC one other) other) (aW _ _);have h3:=mP (a:=am (cC one other) other) (b:=nxt one other) (c:=scL (b7 one other) one) (u:=1) (v := -(aK (cu [] (aQ one other)):Int)) x λk=>by rw[bK,hs k,aW,Int.neg_mul];omega
   rw[<- h1,h3,h2,Rat.intCast_neg];show((1:Int):Rat)*_+_=_;grind
theorem B7{ss:List (List Int)}(h:∀s∈ss,Pri s):cN [1] ss=prd ss:=by unfold cN;rw[xY,one_mul _ (qY ss λs hs=>(h s hs).pln).tr]
theorem rT{f:List Int}(h:FacG f):Pri (aJ f):=by obtain⟨u,e,b,rfl,_,_,_,_,h5,_,h7⟩:=h;exact BR h5 h7
theorem mn{l:List Int}(h:Tr l)(hne:l≠[]):0<(aK l:Int)/\Tr (aB l)/\aB l≠[]/\∀n,cf l n=(aK l:Int)*cf (aB l) n:=by
 have e:=shr_scale (l:=l)
 have ec:∀n,cf l n=(aK l:Int)*cf (aB l) n:=λn=>by have:=congrArg (λz=>cf z n) e;simp only[bK]at this;exact this.symm
 have hl:(aB l).length=l.length:=by unfold aB;rw[KF]
 refine⟨?_,gT h,λz=>by rw[z]at hl;exact hne (L8 hl.symm),ec⟩;rcases Nat.eq_zero_or_pos (aK l)with z |z
 ·exfalso;refine hne (rk h λk=>?_);rw[ec k,z];simp
 ·omega
theorem Cop2.shr{a b:List Int}(h:Cop2 a b)(ha:Tr a)(hna:a≠[])(hb:Tr b):Cop2 (aB a) (aB b):=λd dn dt h1 h2=>by
 obtain⟨_,_,_,ea⟩:=mn ha hna;refine h d dn dt (Dv.prop_right (x:=1) (y:=(aK a:Int)) (by decide) (λn=>by rw[ea n];omega) h1) ?_;by_cases hnb:b=[]
 ·rw[hnb];exact Dv.nil _
 ·obtain⟨_,_,_,eb⟩:=mn hb hnb;exact Dv.prop_right (x:=1) (y:=(aK b:Int)) (by decide) (λn=>by rw[eb n];omega) h2
noncomputable def sdR(l:List Int)(x:Rat):Int:=ao l x.num x.den
theorem fv(x:Rat):0<(x.den:Int):=by have:=x.den_pos;omega
theorem cn(l:List Int){t n:Int}(hn:0<n):sdR l ((t:Rat)/(n:Rat))=ao l t n:=by unfold sdR;exact fU l (fv _) hn (BU hn)
theorem kh{l:List Int}(h:Spt l):Cut (sdR l):=by
 refine⟨λx=>?_,λx y hxy hs=>?_⟩
 ·rcases cV l x.num x.den with z |z |z
  ·exact .inl z
  ·exact .inr (.inl z)
  ·exact .inr (.inr z)
 ·exact d8 h (fv x) (fv y) ((Rat.lt_iff x y).mp hxy) hs
theorem rY(x:Rat):(x.num:Rat)/((x.den:Int):Rat)=x:=by have:=Rat.mkRat_self x;rw[Rat.mkRat_eq_div]at this;exact this
theorem y7{l l':List Int}(hl:Spt l)(hl':Spt l')(h:zB l l'){x y:Rat}(hxy:x<y)(hd:y-x<=1/2^200):¬(inC (sdR l) x y/\inC (sdR l') x y):=by
 rintro⟨h1,h2⟩;have hD:(0:Rat)<2^200:=Rat.pow_pos (by decide);have hDi:((2^200:Int):Rat)=2^200:=Rat.intCast_pow 2 200;have f1:=Rat.floor_le (x*2^200);have f2:=Rat.lt_floor_add_one (x*2^200);rw[Ml]at f2
 have hd2:(y-x)*2^200<=1:=by
  have:=KR hd (KK hD)
  rwa [La (by grind)]at this
 have key:∀k:List Int,Spt k->inC (sdR k) x y->inS k ((x*2^200).floor-1) ((x*2^200).floor-1+128) (2^200):=λk hk hi=>by
  have hc:=kh hk
  have eA:((((x*2^200).floor-1:Int)):Rat)/((2^200:Int):Rat)*2^200=((x*2^200).floor:Rat)-1:=by rw[hDi,La (by grind),MK];rfl
  have eB:((((x*2^200).floor-1+128:Int)):Rat)/((2^200:Int):Rat)*2^200=((x*2^200).floor:Rat)-1+128:=by rw[hDi,La (by grind),Ml,MK];rfl
  constructor
  ·rw[<- cn k (by decide)];generalize ((((x*2^200).floor-1:Int)):Rat)/((2^200:Int):Rat)=a at *
   have hax:a<x:=by
    refine LF.mp λz=>?_
    have:=KR z (KK hD);grind
   rcases LU 0 (sdR k a)with w |w
   ·exact w
   ·have h3:=hc.m a x hax w;have h4:=hi.1;omega
  ·rw[<- cn k (by decide)];generalize ((((x*2^200).floor-1+128:Int)):Rat)/((2^200:Int):Rat)=b at *
   have hby:y<b:=by
    refine LF.mp λz=>?_
    have:=KR z (KK hD);have e1:((1:Int):Rat)=1:=rfl;grind
   have h3:=hc.m y b hby hi.2;omega
 exact h _ _ _ (K6 _) rfl (key l hl h1) (key l' hl' h2)
noncomputable def gu(ls:List (List Int))(t n t' n':Int):Int:=(ls.map λl=>if 0<ao l t n/\ao l t' n'<=0 then(1:Int)else 0).sum
noncomputable def sgv(row:List (List Int))(t n:Int):List Int:=row.map λf=>sg (hv t n f)
theorem vh{t n:Int}(hn:0<n)(row:List (List Int)):sgv row t n=sgX row ((t:Rat)/(n:Rat)):=by unfold sgv sgX;exact Mu λf _=>gB hn f
theorem mf{δ:Rat}(hδ:0<δ)(w:Rat):∃n:Nat,w<=2^n*δ:=by
 obtain⟨n,hn⟩:=Hn (w/δ);refine⟨n,?_⟩;have h1:w/δ<=2^n:=Rat.le_trans hn (EB n);have h2:=KR h1 (KK hδ)
 rwa [La (by grind)]at h2
theorem fN(v:Rat):∃w:Rat,0<=w/\Bd w v:=by
 rcases Lk (a:=0) (b:=v)with z |z
 ·exact⟨v,z,by grind,by grind⟩
 ·exact⟨-v,by grind,by grind,by grind⟩
theorem kG{s:Rat->Int}{ε:Rat}(hε:0<ε):∀(n:Nat) (x y:Rat),x<y->0<s x->s y<=0->y-x<=2^n*ε->∃x' y',x<=x'/\x'<y'/\y'<=y/\y'-x'<=ε/\0<s x'/\s y'<=0
 |0,x,y,hxy,hx,hy,hd=>⟨x,y,KW,hxy,KW,by rw[Rat.pow_zero]at hd;grind,hx,hy⟩
 |n+1,x,y,hxy,hx,hy,hd=>by
  have m1:x<(x+y)/2:=by grind
  have m2:(x+y)/2<y:=by grind
  rw[Rat.pow_succ]at hd;by_cases h:s ((x+y)/2)<=0
  ·obtain⟨x',y',h1,h2,h3,h4⟩:=kG hε n x _ m1 hx h (by grind);exact⟨x',y',h1,h2,by grind,h4⟩
  ·obtain⟨x',y',h1,h2,h3,h4⟩:=kG hε n _ y m2 (by omega) hy (by grind);exact⟨x',y',by grind,h2,h3,h4⟩
theorem rX(u b:Int)(x:Rat):((b*x.num-u*(x.den:Int):Int):Rat)=((b:Rat)*x-(u:Rat))*((x.den:Int):Rat):=by rw[MK,K3,K3,wJ x];grind
theorem Ew(u b:Int)(x:Rat):b*x.num-u*(x.den:Int)<0↔(b:Rat)*x-(u:Rat)<0:=by
 have hd:(0:Rat)<((x.den:Int):Rat):=Ld.mpr (fv x);rw[<- Ld,rX];constructor
 ·intro h;refine LF.mp λz=>?_
  have:=KU z (KK hd);have e:((0:Int):Rat)=0:=rfl;grind
 ·intro h;have:=K7 (show 0 < -((b:Rat)*x-(u:Rat)) by grind) hd;have e:((0:Int):Rat)=0:=rfl;grind
theorem tS(u e b:Int)(x:Rat):((b*x.num-u*(x.den:Int))*(b*x.num-u*(x.den:Int))<e*(x.den:Int)*(x.den:Int)↔((b:Rat)*x-(u:Rat))*((b:Rat)*x-(u:Rat))<(e:Rat))/\(e*(x.den:Int)*(x.den:Int)<(b*x.num-u*(x.den:Int))*(b*x.num-u*(x.den:Int))↔(e:Rat)<((b:Rat)*x-(u:Rat))*((b:Rat)*x-(u:Rat))):=by
 have hd:(0:Rat)<((x.den:Int):Rat):=Ld.mpr (fv x);have hdd:=K7 hd hd;have e1:(((b*x.num-u*(x.den:Int))*(b*x.num-u*(x.den:Int)):Int):Rat)=((b:Rat)*x-(u:Rat))*((b:Rat)*x-(u:Rat))*(((x.den:Int):Rat)*((x.den:Int):Rat)):=by rw[K3,rX];grind
 have e2:((e*(x.den:Int)*(x.den:Int):Int):Rat)=(e:Rat)*(((x.den:Int):Rat)*((x.den:Int):Rat)):=by rw[K3,K3];grind
 have key:∀p q:Rat,(p*(((x.den:Int):Rat)*((x.den:Int):Rat))<q*(((x.den:Int):Rat)*((x.den:Int):Rat)))↔p<q:=λp q=>⟨λh=>LF.mp λz=>by
  have:=KR z (KK hdd)
  grind,λh=>LD h hdd⟩
 constructor
 ·rw[<- Ld,e1,e2,key]
 ·rw[<- Ld,e1,e2,key]
theorem sU{u e b:Int}(x:Rat):(0<sdR [u,e,b,1] x↔(b:Rat)*x-(u:Rat)<0\/((b:Rat)*x-(u:Rat))*((b:Rat)*x-(u:Rat))<(e:Rat)):=by have h:sdR [u,e,b,1] x=aT (e*(x.den:Int)*(x.den:Int)) (b*x.num-u*(x.den:Int)):=rfl;rw[h,<- Ew,<- (tS u e b x).1];rcases bC (e*(x.den:Int)*(x.den:Int)) (b*x.num-u*(x.den:Int))with⟨z,w⟩ |⟨z,w⟩ |⟨z,w⟩<;>rw[z]<;>omega
theorem sV{u e b:Int}(x:Rat):(0<sdR [u,e,b,-1] x↔(b:Rat)*x-(u:Rat)<=0/\(e:Rat)<((b:Rat)*x-(u:Rat))*((b:Rat)*x-(u:Rat))):=by
 have h:sdR [u,e,b,-1] x=0-aT (e*(x.den:Int)*(x.den:Int)) (0-(b*x.num-u*(x.den:Int))):=rfl;have e1:(0-(b*x.num-u*(x.den:Int)))*(0-(b*x.num-u*(x.den:Int)))=(b*x.num-u*(x.den:Int))*(b*x.num-u*(x.den:Int)):=by grind
 have hle:(b:Rat)*x-(u:Rat)<=0↔0<=0-(b*x.num-u*(x.den:Int)):=by
  have hd:(0:Rat)<((x.den:Int):Rat):=Ld.mpr (fv x);have e3:=rX u b x;constructor
  ·intro h
   have:¬(0<b*x.num-u*(x.den:Int)):=λz=>by have z':=Ld.mpr z;rw[e3]at z';have:=KU (show 0 <= -((b:Rat)*x-(u:Rat)) by grind) (KK hd);have e:((0:Int):Rat)=0:=rfl;grind
   omega
  ·intro h;refine Lf.mp λz=>?_
   have:=K7 z hd;rw[<- e3]at this;have:=Ld.mp (show((0:Int):Rat)<_ from this);omega
 rw[h,hle,<- (tS u e b x).2];rcases bC (e*(x.den:Int)*(x.den:Int)) (0-(b*x.num-u*(x.den:Int)))with⟨z,w⟩ |⟨z,w⟩ |⟨z,w⟩<;>rw[z]<;>rw[e1]at w<;>omega
theorem G0(ls:List (List Int))(t n t' n':Int):0<=gu ls t n t' n':=by
 induction ls with
 |nil=>exact K6 _
 |cons l ls ih =>
  unfold gu at ih ⊢
  rw[Me,List.sum_cons];split<;>omega
theorem iB(l:List Int)(ls:List (List Int))(t n t' n':Int):gu (l::ls) t n t' n'=(if 0<ao l t n/\ao l t' n'<=0 then 1 else 0)+gu ls t n t' n':=by unfold gu;rw[Me,List.sum_cons]
theorem yH{l1 l2 h1 h2:Int}:∀{ls:List (List Int)},gu ls l1 l2 h1 h2=0->∀x∈ls,¬(0<ao x l1 l2/\ao x h1 h2<=0)
 | [],_,x,hx=>nomatch hx
 |l::ls,h,x,hx=>by
  rw[iB]at h;have nn:=G0 ls l1 l2 h1 h2;by_cases hl:0<ao l l1 l2/\ao l h1 h2<=0
  ·rw[if_pos hl]at h;omega
  ·rw[if_neg hl]at h;rcases KS.mp hx with rfl |z
   ·exact hl
   ·exact yH (by omega) x z
theorem yI{l1 l2 h1 h2:Int}:∀{ls:List (List Int)},gu ls l1 l2 h1 h2=1->∃pre s post,ls=pre++s::post/\(0<ao s l1 l2/\ao s h1 h2<=0)/\∀x∈pre++post,¬(0<ao x l1 l2/\ao x h1 h2<=0)
 | [],h=>by cases h
 |l::ls,h=>by
  rw[iB]at h;by_cases hl:0<ao l l1 l2/\ao l h1 h2<=0
  ·rw[if_pos hl]at h;exact⟨[],l,ls,rfl,hl,yH (ls:=ls) (by omega)⟩
  ·rw[if_neg hl]at h;obtain⟨pre,s,post,rfl,e2,e3⟩:=yI (l1:=l1) (l2:=l2) (h1:=h1) (h2:=h2) (ls:=ls) (by omega);refine⟨l::pre,s,post,rfl,e2,λx hx=>?_⟩;rcases KS.mp hx with rfl |z
   ·exact hl
   ·exact e3 x z
structure Dya(B:Int)(d:Nat)(l1 l2 h1 h2:Int):Prop where
 l2p:0<l2
 h2p:0<h2
 gl:Nat.gcd l1.natAbs l2.natAbs=1
 gh:Nat.gcd h1.natAbs h2.natAbs=1
 at':∃m:Int,0<=m/\m+1<=2^d/\l1*2^d=(2*m*B-B*2^d)*l2/\h1*2^d=(2*(m+1)*B-B*2^d)*h2
theorem Dya.start{B:Int}:Dya B 0 (-B) 1 B 1:=⟨by decide,by decide,Nat.gcd_one_right _,Nat.gcd_one_right _,0,by decide,by decide,by grind,by grind⟩
noncomputable def prQ(fs:List (List Int)):List Int:=cN [1] (fs.map aJ)
structure Fam(fs:List (List Int)):Prop where
 fac:∀f∈fs,FacG f
 nd:(fs.map aJ).Nodup
variable {fs:List (List Int)}
theorem Fam.q(h:Fam fs):∀f∈fs,iE f:=λf hf=>(h.fac f hf).q
theorem Fam.pri(h:Fam fs):∀s∈fs.map aJ,Pri s:=λs hs=>by obtain⟨f,hf,rfl⟩:=LO.mp hs;exact rT (h.fac f hf)
theorem Fam.prd(h:Fam fs):prQ fs=prd (fs.map aJ):=B7 h.pri
theorem Fam.pln(h:Fam fs):Pln (prQ fs):=by rw[h.prd];exact qY _ λs hs=>(h.pri s hs).pln
theorem Fam.one(h:Fam fs):am [1] (prQ fs)=prQ fs:=one_mul _ h.pln.tr
theorem Fam.sign(h:Fam fs){t n:Int}(hn:0<n):sg (hv t n (prQ fs))=spr t n (bY fs):=by have:=wc (t:=t) (n:=n) (c:=1) hn h.q;rw[show am [1] (cN [1] (fs.map aJ))=cN [1] (fs.map aJ)from h.one]at this;rw[show sg 1=1 from rfl,K4]at this;exact this
theorem Fam.sub{fs gs:List (List Int)}(h:Fam fs)(s:gs.Sublist fs):Fam gs:=⟨λf hf=>h.fac f (s.subset hf),h.nd.sublist (s.map _)⟩
theorem wj{f:List Int}(h:Fam [f]):prQ [f]=aJ f:=by rw[h.prd];show am (aJ f) [1]=_;exact xf _
structure OneS(fs:List (List Int))(f0 s0:List Int)(l1 l2 h1 h2:Int):Prop where
 fam:Fam fs
 mem:f0∈fs
 sp:s0∈spF f0
 l2p:0<l2
 h2p:0<h2
 lt:l1*h2<h1*l2
 inn:0<ao s0 l1 l2/\ao s0 h1 h2<=0
 only:∀s∈bY fs,0<ao s l1 l2->ao s h1 h2<=0->s=s0
variable {f0 s0:List Int}{l1 l2 h1 h2:Int}
theorem oG{s:List Int}(hs:Spt s){t n t' n':Int}(hn:0<n)(hn':0<n')(h:t*n'<=t'*n)(hz:ao s t n<=0):ao s t' n'<=0:=by
 rcases MA h with w |w
 ·have:=d8 hs hn hn' w hz;omega
 ·rw[<- fU s hn hn' w];exact hz
theorem Aq{u e b:Int}{s:List Int}(h:s∈spF [u,e,b]):∃σ:Int,s=[u,e,b,σ]/\(σ=1/\0<=e\/σ = -1/\0<e):=by
 unfold spF at h
 rcases L1.mp h with w |w
 ·split at w
  ·rename_i he
   exact⟨1,KP.mp w,.inl ⟨rfl,he⟩⟩
  ·cases w
 ·split at w
  ·rename_i he
   exact⟨-1,KP.mp w,.inr ⟨rfl,he⟩⟩
  ·cases w
theorem oF{u e b σ t n:Int}(hNS:NS e)(he:0<e)(hn:0<n):ao [u,e,b,σ] t n≠0:=λz=>by
 unfold ao at z
 have key:∀d:Int,aT (e*n*n) d=0->False:=λd hd=>by
  rcases bC (e*n*n) d with⟨c,_⟩ |⟨_,_,c⟩ |⟨c,_⟩
  ·omega
  ·exact hNS.no (x:=n) (y:=d) (by omega) (by omega) (by rw[c];grind)
  ·omega
 split at z
 ·exact key _ z
 ·exact key _ (by have:0-aT (e*n*n) (0-(b*t-u*n))=0:=z;show aT (e*n*n) (0-(b*t-u*n))=0;omega)
theorem Gp{u e b:Int}(h:FacG [u,e,b]):1<=b/\NS e:=by obtain⟨u',e',b',he,_,_,_,_,h5,_,h7⟩:=h;cases he;exact⟨h5,h7⟩
theorem OneS.cases(h:OneS fs f0 s0 l1 l2 h1 h2):∃u e b σ:Int,f0=[u,e,b]/\s0=[u,e,b,σ]/\1<=b/\NS e/\(σ=1/\e=0\/(σ=1\/σ = -1)/\0<e):=by
 obtain⟨u,e,b,rfl,_⟩:=h.fam.fac f0 h.mem;obtain⟨hb,hn⟩:=Gp (h.fam.fac _ h.mem);obtain⟨σ,rfl,hσ⟩:=Aq h.sp;refine⟨u,e,b,σ,rfl,rfl,hb,hn,?_⟩;rcases hσ with⟨a,c⟩ |⟨a,c⟩
 ·rcases MA c with w |w
  ·exact .inr ⟨.inl a,w⟩
  ·exact .inl ⟨a,w.symm⟩
 ·exact .inr ⟨.inr a,c⟩
variable {fs:List (List Int)}{f0 s0:List Int}{l1 l2 h1 h2:Int}
theorem ua{u e b:Int}(he:0<e):spF [u,e,b]=[[u,e,b,1],[u,e,b,-1]]:=by show(if 0<=e then[[u,e,b,1]]else[])++(if 0<e then[[u,e,b,-1]]else[])=_;rw[if_pos (by omega),if_pos he];rfl
theorem tZ{u b:Int}:spF [u,0,b]=[[u,0,b,1]]:=by show(if(0:Int)<=0 then[[u,0,b,1]]else[])++(if(0:Int)<0 then[[u,0,b,-1]]else[])=_;rw[if_pos (by decide),if_neg (by decide)];rfl
theorem dj(f:List Int):bY [f]=spF f:=by show spF f++[]=_;rw[Mn]
theorem OneS.cnt(h:OneS fs f0 s0 l1 l2 h1 h2):gu (bY [f0]) l1 l2 h1 h2=1:=by
 obtain⟨u,e,b,σ,rfl,rfl,hb,hN,hc⟩:=h.cases;rw[dj];have hin:=h.inn
 have other:∀τ:Int,[u,e,b,τ]∈spF [u,e,b]->τ≠σ->¬(0<ao [u,e,b,τ] l1 l2/\ao [u,e,b,τ] h1 h2<=0):=λτ hτ hne z=>by
  have:=h.only _ (List.mem_flatMap.mpr ⟨_,h.mem,hτ⟩) z.1 z.2;simp at this
  exact hne this
 have c0:gu [] l1 l2 h1 h2=0:=rfl;rcases hc with⟨rfl,rfl⟩ |⟨hσ,he⟩
 ·rw[tZ,iB,if_pos hin,c0];rfl
 ·rw[ua he]at other ⊢;rcases hσ with rfl |rfl
  ·rw[iB,iB,if_pos hin,if_neg (other (-1) (by simp) (by decide)),c0];rfl
  ·rw[iB,iB,if_neg (other 1 (by simp) (by decide)),if_pos hin,c0];rfl
theorem tR:∀e:Nat,∃n:Nat,n*n<=e/\e<(n+1)*(n+1)
 |0=>⟨0,by decide,by decide⟩
 |e+1=>by
  obtain⟨n,h1,h2⟩:=tR e;by_cases h:e+1<(n+1)*(n+1)
  ·exact⟨n,by omega,h⟩
  ·refine⟨n+1,by omega,?_⟩;have e1:(n+1+1)*(n+1+1)=(n+1)*(n+1)+2*(n+1)+1:=by grind
   omega
theorem rg{d:Int}(h:NSq d)(v:Int):NS (d*v*v):=by
 by_cases hv:v=0
 ·left;rw[hv];omega
 ·right
  have hp:0<d*v*v:=by
   rw[KQ];refine KG h.1 ?_;rcases LC hv with z |z
   ·exact LR z z
   ·exact KG z z
  obtain⟨n,h1,h2⟩:=tR (d*v*v).toNat;have h3:((n*n:Nat):Int)=(n:Int)*(n:Int):=LP _ _;have h4:(((n+1)*(n+1):Nat):Int)=((n:Int)+1)*((n:Int)+1):=by rw[LP];rfl
  have ne:=h.2 (n:Int) v hv;refine⟨n,by omega,?_,?_⟩
  ·omega
  ·omega
noncomputable def ar(v:Int):Int:=if v<0 then -1 else 1
theorem Av{S q Q g:Rat}(hQ:0<Q)(hq:q<=Q)(h:g<=S*q)(hg:0<g)(hq0:0<q):g<=S*Q:=by
 have hS:0<S:=LF.mp λz=>by have:=KR z (KK hq0);grind
 have:=KY hq (KK hS);grind
theorem jJ{a b c:Rat}(hc:0<c)(h:a*c<=b*c):a<=b:=Lf.mp λz=>by have:=LD z hc;grind
theorem zW{F0 F1 q:List Int}{r:List (List Int)}(h:SRow (F0::F1::r)){γ:Rat}(hγ:0<γ)(hd:∀x,pv (slopeL F0) x*pv q x=γ*pv F1 x){R:Rat}(hR:0<=R) :
 ∃δ:Rat,0<δ/\∀x y,Bd R x->Bd R y->x<y->y-x<=δ->sgR (pv F0 x)≠0->sgR (pv F0 y)≠0->vrs (F0::F1::r) x-vrs (F0::F1::r) y=sgR (pv q x)*chg (pv F0) x y:=by
 obtain⟨⟨δ1,d1,l1⟩,⟨δ2,d2,l2⟩⟩:=xq h R hR;obtain⟨A,B,k,nA,nB,hk,hAB⟩:=sB h rfl;obtain⟨δ3,κ,d3,hκ,l3⟩:=wq (cS F0) (cS F1) nA nB hk hAB hR;obtain⟨M,m0,m1⟩:=v8 F0 R hR;obtain⟨Mq,q0,q1,_⟩:=cS q R hR;have hγκ:=K7 hγ hκ;have hQ:0<Mq+1:=by grind
 have hM:0<M+1:=by grind
 have hT:=K7 hM hQ
 obtain⟨δ,hδ,g1,g2,g3,g4⟩:∃δ:Rat,0<δ/\δ<=δ1/\δ<=δ2/\δ<=δ3/\δ*((M+1)*(Mq+1))<=γ*κ:=by
  have hw:=eG hγκ hT;have hw2:γ*κ/((M+1)*(Mq+1))*((M+1)*(Mq+1))=γ*κ:=La (by grind)
  have two:∀u v:Rat,0<u->0<v->∃w:Rat,0<w/\w<=u/\w<=v:=λu v hu hv=>by
   rcases Lk (a:=u) (b:=v)with z |z
   ·exact⟨u,hu,KW,z⟩
   ·exact⟨v,hv,z,KW⟩
  obtain⟨u,hu,u1,u2⟩:=two δ1 δ2 d1 d2;obtain⟨v,hv,v1,v2⟩:=two u δ3 hu d3;obtain⟨w,hw',w1,w2⟩:=two v _ hv hw;refine⟨w,hw',by grind,by grind,by grind,?_⟩;have:=KR w2 (KK hT)
  rwa [hw2]at this
 refine⟨δ,hδ,λx y hx hy hxy hyd nx ny=>?_⟩;have e0:∀z,vrs (F0::F1::r) z=vr (sgR (pv F0 z)) (sgX (F1::r) z):=λz=>jU _
 have nz:∀{v:Rat},sgR v≠0->sgR v=1\/sgR v = -1:=λ{v} hv=>by rcases iT v with z |z |z;exact .inl z;exact absurd z hv;exact .inr z
 rw[e0,e0];by_cases s0:Sta (pv F0) x y
 ·have t:=(l1 x y hx hy hxy (by grind) F0 (F1::r) rfl s0).vr (nz s0.2) (vm _ _);rw[<- s0.1,t];unfold chg;rw[if_neg (λz=>z.2 s0.1.symm)];omega
 ·obtain⟨s1,c1,c2⟩:=l3 x y hx hy hxy (by grind) s0;have t:=(l2 x y hx hy hxy (by grind) F1 r rfl s1).vr (nz s1.2) (vm _ _);have hyx:0<y-x:=by grind
  obtain⟨f1,f2⟩:=m1 x y hx hy (by grind);obtain⟨b1,b2⟩:=q1 x hx;have hdx:=hd x
  have ht2:(y-x)*(M+1)*(Mq+1)<=γ*κ:=by have:=KR hyd (KK hT);grind
  have hyy:0<(y-x)*(y-x):=K7 hyx hyx;show vr (sgR (pv F0 x)) (sgR (pv F1 x)::sgX r x)-vr (sgR (pv F0 y)) (sgR (pv F1 y)::sgX r y)=_
  have hu:∀(b s:Int) (l:List Int),s≠0->vr b (s::l)=(if s*b<0 then 1 else 0)+vr s l:=λb s l hs=>by show _+vr (if s=0 then b else s) l=_;rw[if_neg hs]
  have s1':sgR (pv F1 y)=sgR (pv F1 x):=s1.1.symm;rw[s1',hu _ _ _ s1.2,hu _ _ _ s1.2,t];unfold chg;generalize pv (slopeL F0) x=S at f1 f2 hdx
  have up:(y-x)*(M+1)<=S->pv F0 x<pv F0 y:=λz=>by have:=KY z (KK hyx);grind
  have down:(y-x)*(M+1) <= -S->pv F0 y<pv F0 x:=λz=>by have:=KY z (KK hyx);grind
  have key:∀T qq:Rat,γ*κ<=T*qq->0<qq->qq<=Mq+1->(y-x)*(M+1)<=T:=λT qq z1 z2 z3=>jJ hQ (Rat.le_trans ht2 (Av hQ z3 z1 hγκ z2))
  have fin:∀(D s:Int),sgR (pv F1 x)=D->(D=1\/D = -1)->sgR (pv q x)=s->(s=1\/s = -1)->(s*D=1->pv F0 x<pv F0 y)->(s*D = -1->pv F0 y<pv F0 x)->((if sgR (pv F1 x)*sgR (pv F0 x)<0 then 1 else 0)+vr (sgR (pv F1 x)) (sgX r y)-((if sgR (pv F1 x)*sgR (pv F0 y)<0 then 1 else 0)+vr (sgR (pv F1 x)) (sgX r y)):Int)=sgR (pv q x)*(if sgR (pv F0 x)≠0/\sgR (pv F0 y)≠sgR (pv F0 x)then 1 else 0):=λD s eD hD es hs hup hdn=>by
   rw[eD,es];rcases bD (pv F0 x)with⟨a1,a2⟩ |⟨a1,a2⟩ |⟨a1,a2⟩
   ·rcases bD (pv F0 y)with⟨b1,b2⟩ |⟨b1,b2⟩ |⟨b1,b2⟩
    ·exact absurd ⟨by rw[a2,b2],by rw[a2];decide⟩ s0
    ·exact absurd b2 ny
    ·rw[a2,b2];rcases hD with rfl |rfl<;>rcases hs with rfl |rfl
     ·simp<;>omega
     ·have:=hdn (by decide);grind
     ·have:=hdn (by decide);grind
     ·simp<;>omega
   ·exact absurd a2 nx
   ·rcases bD (pv F0 y)with⟨b1,b2⟩ |⟨b1,b2⟩ |⟨b1,b2⟩
    ·rw[a2,b2];rcases hD with rfl |rfl<;>rcases hs with rfl |rfl
     ·have:=hup (by decide);grind
     ·simp<;>omega
     ·simp<;>omega
     ·have:=hup (by decide);grind
    ·exact absurd b2 ny
    ·exact absurd ⟨by rw[a2,b2],by rw[a2];decide⟩ s0
  rcases c1 with z |z
  ·have h1:γ*κ<=γ*pv F1 x:=KY z (KK hγ);have eD:sgR (pv F1 x)=1:=by rcases bD (pv F1 x)with⟨w,_⟩ |⟨w,_⟩ |⟨_,w⟩<;>grind
   rcases bD (pv q x)with⟨w1,w2⟩ |⟨w1,w2⟩ |⟨w1,w2⟩
   ·refine fin 1 (-1) eD (.inl rfl) w2 (.inr rfl) (λz=>by simp at z) (λ_=>down (key (-S) (-pv q x) ?_ (by grind) (by grind)));grind
   ·rw[w1]at hdx;grind
   ·refine fin 1 1 eD (.inl rfl) w2 (.inl rfl) (λ_=>up (key S (pv q x) ?_ w1 (by grind))) (λz=>by simp at z);grind
  ·have h1:γ*κ<=γ*(-pv F1 x):=KY (by grind) (KK hγ);have eD:sgR (pv F1 x) = -1:=by rcases bD (pv F1 x)with⟨_,w⟩ |⟨w,_⟩ |⟨w,_⟩<;>grind
   rcases bD (pv q x)with⟨w1,w2⟩ |⟨w1,w2⟩ |⟨w1,w2⟩
   ·refine fin (-1) (-1) eD (.inr rfl) w2 (.inr rfl) (λ_=>up (key S (-pv q x) ?_ (by grind) (by grind))) (λz=>by simp at z);grind
   ·rw[w1]at hdx;grind
   ·refine fin (-1) 1 eD (.inr rfl) w2 (.inl rfl) (λz=>by simp at z) (λ_=>down (key (-S) (pv q x) ?_ w1 (by grind)));grind
theorem jM{C:Rat->Rat->Prop}{N:Rat->Prop}(hN:∀a b,a<b->N a\/N b)(hadd:∀x y z,x<y->y<z->N y->C x y->C y z->C x z){δ a b:Rat}(h:∀x y,a<=x->y<=b->x<y->y-x<=δ->N x->N y->C x y):∀(n:Nat) (x y:Rat),a<=x->y<=b->x<y->N x->N y->y-x<=2^n*δ->C x y
 |0,x,y,hx,hy,hxy,nx,ny,hd=>h x y hx hy hxy (by rw[Rat.pow_zero]at hd;grind) nx ny
 |n+1,x,y,hx,hy,hxy,nx,ny,hd=>by
  rw[Rat.pow_succ]at hd;by_cases hm:N ((x+y)/2)
  ·have i1:=jM hN hadd h n x ((x+y)/2) hx (by grind) (by grind) nx hm (by grind);have i2:=jM hN hadd h n ((x+y)/2) y (by grind) hy (by grind) hm ny (by grind);exact hadd x _ y (by grind) (by grind) hm i1 i2
  ·have n1:N ((2*x+y)/3):=(hN ((2*x+y)/3) ((x+y)/2) (by grind)).resolve_right hm;have n2:N ((x+2*y)/3):=(hN ((x+y)/2) ((x+2*y)/3) (by grind)).resolve_left hm;have i1:=jM hN hadd h n x ((2*x+y)/3) hx (by grind) (by grind) nx n1 (by grind);have i2:=jM hN hadd h n ((2*x+y)/3) ((x+2*y)/3) (by grind) (by grind) (by grind) n1 n2 (by grind);have i3:=jM hN hadd h n ((x+2*y)/3) y (by grind) hy (by grind) n2 ny (by grind);exact hadd x _ y (by grind) (by grind) n1 i1 (hadd _ _ y (by grind) (by grind) n2 i2 i3)
theorem zX{F0 F1 q:List Int}{r:List (List Int)}(h:SRow (F0::F1::r)){γ:Rat}(hγ:0<γ)(hd:∀x,pv (slopeL F0) x*pv q x=γ*pv F1 x){s:Rat->Int}(hs:Cut s){ε:Int}(hε:ε=1\/ε = -1){l k:Rat}(hlk:l<k)(hf:∀x,l<=x->x<=k->sgR (pv F0 x)=ε*s x)(hl:s l=1)(hk:s k = -1)
 {τ:Int} {δ0:Rat} (hδ0:0<δ0) (hτ:∀x y,l<=x->y<=k->x<y->y-x<=δ0->s x=1->s y = -1->sgR (pv q x)=τ):vrs (F0::F1::r) l-vrs (F0::F1::r) k=τ:=by
 obtain⟨u,u0,u1⟩:=fN l;obtain⟨v,v0,v1⟩:=fN k
 have hbd:∀x,l<=x->x<=k->Bd (u+v) x:=λx a b=>by obtain⟨c1,c2⟩:=u1;obtain⟨c3,c4⟩:=v1;constructor<;>grind
 obtain⟨δ1,d1,l1⟩:=zW h hγ hd (R:=u+v) (by grind)
 obtain⟨δ,hδ,g1,g2⟩:∃δ:Rat,0<δ/\δ<=δ0/\δ<=δ1:=by
  rcases Lk (a:=δ0) (b:=δ1)with z |z
  ·exact⟨δ0,hδ0,KW,z⟩
  ·exact⟨δ1,d1,z,KW⟩
 obtain⟨n,hn⟩:=mf hδ (k-l)
 have res:=jM (C:=λx y=>vrs (F0::F1::r) x-vrs (F0::F1::r) y=if s x=1/\s y = -1 then τ else 0) (N:=λx=>s x≠0) (a:=l) (b:=k) (δ:=δ)
  (λa b hab=>by
    by_cases z:s a=0
    ·right;rw[hs.m a b hab (by omega)];decide
    ·exact .inl z)
  (λx y z hxy hyz hy c1 c2=>by
    rcases hs.u y with e |e |e
    ·have hx:s x=1:=by
      rcases hs.u x with a |a |a
      ·exact a
      ·have:=hs.m x y hxy (by omega);omega
      ·have:=hs.m x y hxy (by omega);omega
     rw[e]at c1 c2;rw[hx]at c1 ⊢;simp at c1 c2 ⊢
     omega
    ·exact absurd e hy
    ·have hz:=hs.m y z hyz (by omega);rw[e]at c1 c2;rw[hz]at c2 ⊢;simp at c1 c2 ⊢
     omega)
  (λx y hx hy hxy hyd nx ny=>by
    have bx:=hbd x hx (by grind);have b_y:=hbd y (by grind) hy;have fx:=hf x hx (by grind);have fy:=hf y (by grind) hy;have ex0:sgR (pv F0 x)≠0:=by rw[fx];exact KM (by omega) nx
    have ey0:sgR (pv F0 y)≠0:=by rw[fy];exact KM (by omega) ny
    rw[l1 x y bx b_y hxy (by grind) ex0 ey0];unfold chg;rcases hs.u x with a |a |a
    ·rcases hs.u y with b |b |b
     ·rw[if_neg (show ¬(sgR (pv F0 x)≠0/\sgR (pv F0 y)≠sgR (pv F0 x))fromλz=>z.2 (by rw[fx,fy,a,b])),if_neg (show ¬(s x=1/\s y = -1)fromλz=>by omega)];omega
     ·exact absurd b ny
     ·rw[if_pos (show sgR (pv F0 x)≠0/\sgR (pv F0 y)≠sgR (pv F0 x)from⟨ex0,by rw[fx,fy,a,b];rcases hε with rfl |rfl<;>decide⟩),if_pos ⟨a,b⟩,hτ x y hx hy hxy (by grind) a b];omega
    ·exact absurd a nx
    ·have b:=hs.m x y hxy (by omega)
     rw[if_neg (show ¬(sgR (pv F0 x)≠0/\sgR (pv F0 y)≠sgR (pv F0 x))fromλz=>z.2 (by rw[fx,fy,a,b])),if_neg (show ¬(s x=1/\s y = -1)fromλz=>by omega)];omega)
  n l k KW KW hlk (by rw[hl];decide) (by rw[hk];decide) hn
 rw[res,if_pos ⟨hl,hk⟩]
noncomputable def hpA(u v w d:Int):List Int->Int×Int×Int
 | []=>(0,0,1)
 |c::l=>((hpA u v w d l).1*u+(hpA u v w d l).2.1*v*d+c*(hpA u v w d l).2.2,(hpA u v w d l).1*v+(hpA u v w d l).2.1*u,(hpA u v w d l).2.2*w)
theorem nr{u v w d:Int}(hw:0<w):∀l,0<(hpA u v w d l).2.2
 | []=>by show(0:Int)<1;decide
 |c::l=>KG (nr hw l) hw
theorem nq{u v w d:Int}:∀l:List Int,∃(b':Int) (F:Rat->Rat),Nice F/\(hpA u v w d l).2.1=b'*v/\∀x:Rat,((hpA u v w d l).2.2:Rat)*pv l x=(w:Rat)*((((w:Rat)*x-u)*((w:Rat)*x-u)-(d:Rat)*v*v)*F x+((hpA u v w d l).1:Rat)+(b':Rat)*((w:Rat)*x-u))
 | []=>⟨0,λ_=>0,eR 0,by show(0:Int)=0*v;omega,λx=>by
  show((1:Int):Rat)*0=(w:Rat)*(_*0+((0:Int):Rat)+((0:Int):Rat)*_)
  grind⟩
 |c::l=>by
  obtain⟨b',F,nF,hb,hv⟩:=nq (u:=u) (v:=v) (w:=w) (d:=d) l;refine⟨(hpA u v w d l).1+b'*u,λx=>F x*((w:Rat)*x)+(b':Rat),(nF.mul ((eR (w:Rat)).mul nice_id)).add (eR _),?_,λx=>?_⟩
  ·show(hpA u v w d l).1*v+(hpA u v w d l).2.1*u=_;rw[hb];grind
  ·have h:=hv x;show(((hpA u v w d l).2.2*w:Int):Rat)*((c:Rat)+x*pv l x)=(w:Rat)*(_*(F x*((w:Rat)*x)+(b':Rat))+(((hpA u v w d l).1*u+(hpA u v w d l).2.1*v*d+c*(hpA u v w d l).2.2:Int):Rat)+(((hpA u v w d l).1+b'*u:Int):Rat)*_);rw[hb];simp only[Ml,K3];grind
theorem BG{z B:Rat}(hB:1<=B)(h:z*z<=B):Bd B z:=by
 constructor
 ·refine Lf.mp λy=>?_
  have:=LD (show B < -z by grind) (show 0 < -z by grind);have:=KR hB (show 0 <= -z by grind);grind
 ·refine Lf.mp λy=>?_
  have:=LD y (show 0<z by grind);have:=KR hB (show 0<=z by grind);grind
theorem xQ{z:Rat}(hz:0<z)(h:1/4<=z*z):1/2<=z:=Lf.mp λy=>by have:=LD y hz;grind
theorem xR{z:Rat}(h:z*z<=1/4):Bd (1/2) z:=by
 constructor
 ·refine Lf.mp λy=>?_
  have:=LD (show 1/2 < -z by grind) (show 0 < -z by grind);grind
 ·refine Lf.mp λy=>?_
  have:=LD y (show 0<z by grind);grind
theorem c8{a b:Int}(h:a<=b):(a:Rat)<=(b:Rat):=Rat.intCast_le_intCast.mpr h
theorem xi{a b d:Int}(ha:0<a)(hd:0<=d)(hN:a*a≠d*b*b):∃η:Rat,0<η/\∀Z:Rat,Z<=0->Bd (1/4) (Z*Z-(d:Rat)*b*b)->(d*b*b<a*a->η<=a+Z)/\(a*a<d*b*b->η <= -(a+Z)):=by
 have hbb:0<=d*b*b:=by
  rw[KQ];refine KN hd ?_;rcases Int.le_total 0 b with z |z
  ·exact KN z z
  ·exact Ms z z
 have hB:(0:Rat)<=((d*b*b:Int):Rat):=c8 (a:=0) hbb;have ha':(1:Rat)<=(a:Rat):=c8 (a:=1) (by omega);have eB:((d*b*b:Int):Rat)=(d:Rat)*b*b:=by simp only[K3]
 have eA:((a*a:Int):Rat)=(a:Rat)*a:=by simp only[K3]
 obtain⟨G,hG⟩:∃G:Rat,G=(a:Rat)+((d*b*b:Int):Rat)+1:=⟨_,rfl⟩;have hGp:0<G:=by grind
 refine⟨1/2/G,eG (by grind) hGp,λZ hZ hbd=>?_⟩;have eη:1/2/G*G=1/2:=La (by grind);have hη:=eG (a:=1/2) (by grind) hGp;generalize 1/2/G=η at eη hη
 obtain⟨h1,h2⟩:=hbd;obtain⟨z1,z2⟩:=BG (z:=Z) (B:=((d*b*b:Int):Rat)+1) (by grind) (by rw[eB];grind);have aZ:0<(a:Rat)-Z:=by grind
 have aZ2:(a:Rat)-Z<=G:=by grind
 have prod:((a:Rat)+Z)*((a:Rat)-Z)=(a:Rat)*a-Z*Z:=by grind
 constructor
 ·intro hlt
  have h3:((d*b*b:Int):Rat)+1<=((a*a:Int):Rat):=by
   have:=c8 (a:=d*b*b+1) (b:=a*a) (by omega)
   rwa [Ml]at this
  rw[eA,eB]at h3;refine Lf.mp λy=>?_
  have q1:=LD y aZ;have q2:=KY aZ2 (KK hη);rw[prod]at q1;rw[eη]at q2;generalize (a:Rat)*a=A2 at *
  generalize (d:Rat)*b*b=D2 at *
  generalize Z*Z=Z2 at *
  generalize η*(a-Z)=E at *
  clear prod eη eA eB hB hG;grind
 ·intro hlt
  have h3:((a*a:Int):Rat)+1<=((d*b*b:Int):Rat):=by
   have:=c8 (a:=a*a+1) (b:=d*b*b) (by omega)
   rwa [Ml]at this
  rw[eA,eB]at h3;refine Lf.mp λy=>?_
  have q1:=LD y aZ;have q2:=KY aZ2 (KK hη);have q3 : -((a:Rat)+Z)*(a-Z)=Z*Z-a*a:=by grind
  rw[q3]at q1;rw[eη]at q2;generalize (a:Rat)*a=A2 at *
  generalize (d:Rat)*b*b=D2 at *
  generalize Z*Z=Z2 at *
  generalize η*(a-Z)=E at *
  clear prod eη eA eB hB hG q3;grind
theorem Ey{a b d:Int}(hd:NSq d)(h0:sgq a b d≠0):∃η:Rat,0<η/\∀Z:Rat,(b=0\/0<(b:Rat)*Z)->Bd (1/4) (Z*Z-(d:Rat)*b*b)->η<=(sgq a b d:Rat)*((a:Rat)+Z):=by
 have hd1:=hd.1;by_cases hb:b=0
 ·subst hb;refine⟨1/2,by grind,λZ _ hbd=>?_⟩;obtain⟨h1,h2⟩:=hbd
  obtain⟨z1,z2⟩:=xR (z:=Z) (by
   have:((0:Int):Rat)=0:=rfl
   rw[this]at h2;grind)
  rcases Mz a 0 with z |z |z
  ·rw[oJ (by omega) (K6 _) (.inl z)];have:=c8 (a:=a) (b := -1) (by omega);have e:((-1:Int):Rat) = -1:=rfl;rw[e]at this ⊢;grind
  ·subst z;exact absurd (oK d) h0
  ·rw[oI (by omega) (K6 _) (.inl z)];have:=c8 (a:=1) (b:=a) (by omega);have e:((1:Int):Rat)=1:=rfl;rw[e]at this ⊢;grind
 ·have bb:1<=b*b:=by
   rcases LC hb with z |z
   ·have:=LR z z;omega
   ·have:=KG z z;omega
  have dbb:1<=d*b*b:=by rw[KQ];have:=KG hd1 (show 0<b*b by omega);omega
  have eB:((d*b*b:Int):Rat)=(d:Rat)*b*b:=by simp only[K3]
  have dB:=c8 dbb;rw[eB]at dB;have e1:((1:Int):Rat)=1:=rfl;have e2:((-1:Int):Rat) = -1:=rfl;rw[e1]at dB;rcases LC hb with z |z
  ·have zr:(b:Rat)<0:=Ld.mpr z
   have sgnZ:∀Z:Rat,(b=0\/0<(b:Rat)*Z)->Z<0:=λZ h=>by
    rcases h with y |y
    ·exact absurd y hb
    ·refine LF.mp λx=>?_
     have:=KR (KK zr) x;grind
   rcases LU 0 a with y |y
   ·have hne:=hd.2 a b hb;obtain⟨η,hη,hh⟩:=xi y (KI hd1) hne;refine⟨η,hη,λZ hZ hbd=>?_⟩;obtain⟨k1,k2⟩:=hh Z (KK (sgnZ Z hZ)) hbd;rw[AO y z];by_cases x:a*a<d*b*b
    ·rw[if_pos x,e2];have:=k2 x;grind
    ·rw[if_neg x,e1];have:=k1 (by omega);grind
   ·refine⟨1/2,by grind,λZ hZ hbd=>?_⟩;have hz:=sgnZ Z hZ;have:=xQ (z := -Z) (by grind) (by obtain⟨h1,h2⟩:=hbd;grind);rw[oJ y (by omega) (.inr z),e2];have ya:=c8 y;have e0:((0:Int):Rat)=0:=rfl;rw[e0]at ya;grind
  ·have zr:(0:Rat)<(b:Rat):=Ld.mpr z
   have sgnZ:∀Z:Rat,(b=0\/0<(b:Rat)*Z)->0<Z:=λZ h=>by
    rcases h with y |y
    ·exact absurd y hb
    ·refine LF.mp λx=>?_
     have:=KY x (KK zr);grind
   rcases LU a 0 with y |y
   ·have hne:=hd.2 a b hb;obtain⟨η,hη,hh⟩:=xi (a := -a) (b:=b) (d:=d) (by omega) (KI hd1) (by rw[Int.neg_mul_neg];exact hne);refine⟨η,hη,λZ hZ hbd=>?_⟩;have hz:=sgnZ Z hZ
    obtain⟨k1,k2⟩:=hh (-Z) (by grind) (by have : -Z * -Z=Z*Z:=by grind
                                          rw[this];exact hbd)
    rw[Int.neg_mul_neg]at k1 k2;have en:((-a:Int):Rat) = -(a:Rat):=Rat.intCast_neg _;rw[en]at k1 k2;rw[AQ y z];by_cases x:a*a>d*b*b
    ·rw[if_pos x,e2];have:=k1 x;grind
    ·rw[if_neg x,e1];have:=k2 (by omega);grind
   ·refine⟨1/2,by grind,λZ hZ hbd=>?_⟩;have hz:=sgnZ Z hZ;have:=xQ hz (by obtain⟨h1,h2⟩:=hbd;grind);rw[oI y (by omega) (.inr z),e1];have ya:=c8 y;have e0:((0:Int):Rat)=0:=rfl;rw[e0]at ya;grind
theorem ir{v:Int}(h:0<v):(0:Rat)<(v:Rat):=Ld.mpr h
theorem jV{p q s t:Rat}(hp:0<=p)(hq:0<=q)(hs:0<s)(ht:0<t):∃ε:Rat,0<ε/\ε*p<=s/\ε*q<=t:=by
 have k1:=eG hs (show 0<p+1 by grind);have k2:=eG ht (show 0<q+1 by grind);have f1:s/(p+1)*(p+1)=s:=La (by grind);have f2:t/(q+1)*(q+1)=t:=La (by grind);generalize s/(p+1)=A at *
 generalize t/(q+1)=C at *
 rcases Lk (a:=A) (b:=C)with z |z
 ·have:=KR z hq;exact⟨A,k1,by grind,by grind⟩
 ·have:=KR z hp;exact⟨C,k2,by grind,by grind⟩
theorem mT{u v w d:Int}(hw:0<w)(hd:NSq d){R ε:Rat}(hR:0<=R)(hε:0<ε):∃δ:Rat,0<δ/\∀x y:Rat,Bd R x->Bd R y->x<y->y-x<=δ->0<sdR [u,d*v*v,w,ar v] x->¬0<sdR [u,d*v*v,w,ar v] y->(v=0\/0<(v:Rat)*((w:Rat)*x-u))/\Bd ε (((w:Rat)*x-u)*((w:Rat)*x-u)-(d:Rat)*v*v):=by
 have hW:(1:Rat)<=(w:Rat):=c8 (a:=1) (by omega);obtain⟨U,U0,U1⟩:=fN (u:Rat);have hWR:=KU (show(0:Rat)<=w by grind) hR;obtain⟨B,hB⟩:∃B:Rat,B=(w:Rat)*R+U+1:=⟨_,rfl⟩;have hB1:1<=B:=by grind
 obtain⟨m,m0,m1,m2⟩:∃m:Rat,0<m/\m<=1/2/\m*(2*B)<=ε:=by
  have h2:0<2*B:=by grind
  have hw:=eG hε h2;have hw2:ε/(2*B)*(2*B)=ε:=La (by grind);rcases Lk (a:=ε/(2*B)) (b:=1/2)with z |z
  ·exact⟨_,hw,z,by rw[hw2];exact KW⟩
  ·refine⟨1/2,by grind,KW,?_⟩;have:=KR z (KK h2);rw[hw2]at this;grind
 have eδ:m/(w:Rat)*(w:Rat)=m:=La (by grind);refine⟨m/(w:Rat),eG m0 (by grind),λx y hx hy hxy hyd sx sy=>?_⟩
 have bdX:∀z:Rat,Bd R z->Bd B ((w:Rat)*z-u):=λz hz=>by obtain⟨a1,a2⟩:=hz;obtain⟨b1,b2⟩:=U1;have c1:=KY a1 (show(0:Rat)<=w by grind);have c2:=KY a2 (show(0:Rat)<=w by grind);constructor<;>grind
 obtain⟨X1,X2⟩:=bdX x hx;obtain⟨Y1,Y2⟩:=bdX y hy
 have hXY:(w:Rat)*x-u<(w:Rat)*y-u:=by have:=MW hxy (show(0:Rat)<w by grind);grind
 have hYm:(w:Rat)*y-u<=(w:Rat)*x-u+m:=by have:=KR hyd (show(0:Rat)<=w by grind);rw[eδ]at this;grind
 have eE:((d*v*v:Int):Rat)=(d:Rat)*v*v:=by simp only[K3]
 have e1:v≠0->(1:Rat)<=(d:Rat)*v*v:=λhv=>by
  rw[<- eE];refine c8 (a:=1) ?_
  have:0<d*v*v:=by
   rw[KQ];refine KG hd.1 ?_;rcases LC hv with z |z
   ·exact LR z z
   ·exact KG z z
  omega
 by_cases hv:v<0
 ·have es:ar v = -1:=by unfold ar;rw[if_pos hv]
  rw[es]at sx sy;rw[sV,eE]at sx;rw[sV,eE]at sy;have e1:=e1 (by omega);generalize (w:Rat)*x-u=X at *
  generalize (w:Rat)*y-u=Y at *
  generalize (d:Rat)*v*v=E at *
  obtain⟨sx1,sx2⟩:=sx;have vr:(v:Rat)<0:=Ld.mpr hv
  have hX0:X<0:=LF.mp λz=>by
   have:X=0:=by grind
   subst this;grind
  have hY0:Y<=0:=Lf.mp λz=>by
   have q1 : -(1/2)<=X:=by grind
   have:=xR (z:=X);have:=KY (show -X<=1/2 by grind) (show(0:Rat) <= -X by grind);grind
  have hYE:Y*Y<=E:=Lf.mp λz=>sy ⟨hY0,z⟩
  have q:=KY (show -X-Y<=2*B by grind) (show(0:Rat)<=Y-X by grind);have q2:=KR (show Y-X<=m by grind) (show(0:Rat)<=2*B by grind);have q3:(Y-X)*(-X-Y)=X*X-Y*Y:=by grind
  refine⟨.inr ?_,?_,?_⟩
  ·have:=K7 (show 0 < -(v:Rat) by grind) (show 0 < -X by grind);grind
  ·grind
  ·grind
 ·have es:ar v=1:=by unfold ar;rw[if_neg hv]
  rw[es]at sx sy;rw[sU,eE]at sx;rw[sU,eE]at sy;generalize (w:Rat)*x-u=X at *
  generalize (w:Rat)*y-u=Y at *
  have hY0:0<=Y:=Lf.mp λz=>sy (.inl z)
  have hYE:(d:Rat)*v*v<=Y*Y:=Lf.mp λz=>sy (.inr z)
  by_cases hv0:v=0
  ·have eV:(v:Rat)=0:=by rw[hv0];rfl
   rw[eV]at sx hYE ⊢
   have hX0:X<0:=by
    rcases sx with z |z
    ·exact z
    ·have:0<=X*X:=by
      rcases Lk (a:=0) (b:=X)with y |y
      ·exact KU y y
      ·have:=KU (show 0 <= -X by grind) (show 0 <= -X by grind);grind
     grind
   have q:=KY (show -X<=m by grind) (show(0:Rat) <= -X by grind);have q1:=KR (show -X<=m by grind) (KK m0);have q2:=KY (show m<=2*B by grind) (KK m0);have q4:=KU (show 0 <= -X by grind) (show 0 <= -X by grind);refine⟨.inl hv0,?_,?_⟩<;>grind
  ·have e1:=e1 hv0;have vr:(0:Rat)<(v:Rat):=ir (by omega);generalize (d:Rat)*v*v=E at *
   have hX0:0<X:=LF.mp λz=>by have:=KY (show Y<=1/2 by grind) hY0;grind
   have hXE:X*X<E:=by
    rcases sx with z |z
    ·grind
    ·exact z
   have q:=KY (show X+Y<=2*B by grind) (show(0:Rat)<=Y-X by grind);have q2:=KR (show Y-X<=m by grind) (show(0:Rat)<=2*B by grind);have q3:(Y-X)*(X+Y)=Y*Y-X*X:=by grind
   refine⟨.inr (K7 vr hX0),?_,?_⟩<;>grind
theorem rm{u v w d:Int}(hw:0<w)(hd:NSq d){q:List Int}(h0:sgq (hpA u v w d q).1 (hpA u v w d q).2.1 d≠0){R:Rat}(hR:0<=R):∃δ κ:Rat,0<δ/\0<κ/\∀x y:Rat,Bd R x->Bd R y->x<y->y-x<=δ->0<sdR [u,d*v*v,w,ar v] x->¬0<sdR [u,d*v*v,w,ar v] y->κ<=(sgq (hpA u v w d q).1 (hpA u v w d q).2.1 d:Rat)*pv q x:=by
 obtain⟨b',F,nF,hb,hv⟩:=nq (u:=u) (v:=v) (w:=w) (d:=d) q;obtain⟨η,hη,hn⟩:=Ey hd h0;have mp:(0:Rat)<((hpA u v w d q).2.2:Rat):=Ld.mpr (nr hw q)
 have hτ:sgq (hpA u v w d q).1 (hpA u v w d q).2.1 d=1\/sgq (hpA u v w d q).1 (hpA u v w d q).2.1 d = -1:=by rcases iS (hpA u v w d q).1 (hpA u v w d q).2.1 d with z |z |z<;>omega
 generalize sgq (hpA u v w d q).1 (hpA u v w d q).2.1 d=τ at *
 generalize (hpA u v w d q).1=a at *
 generalize (hpA u v w d q).2.1=b at *
 generalize ((hpA u v w d q).2.2:Rat)=m at *
 have hW:(1:Rat)<=(w:Rat):=c8 (a:=1) (by omega);obtain⟨M,M0,hM,_⟩:=nF R hR
 have bb0:(0:Rat)<=(b':Rat)*b':=by
  rcases Lk (a:=0) (b:=(b':Rat))with y |y
  ·exact KU y y
  ·have:=KU (show 0 <= -(b':Rat) by grind) (show 0 <= -(b':Rat) by grind);grind
 obtain⟨ε,ε0,ε1,ε2⟩:=jV bb0 M0 (show(0:Rat)<1/4 by grind) (show 0<η/2 by grind);obtain⟨δ,δ0,hδ⟩:=mT (u:=u) (v:=v) hw hd hR ε0;have hκ:=eG (K7 (show(0:Rat)<w by grind) (show 0<η/2 by grind)) mp;have eκ:(w:Rat)*(η/2)/m*m=(w:Rat)*(η/2):=La (by grind);refine⟨δ,(w:Rat)*(η/2)/m,δ0,hκ,λx y hx hy hxy hyd sx sy=>?_⟩;generalize (w:Rat)*(η/2)/m=κ at *
 obtain⟨p1,p2,p3⟩:=hδ x y hx hy hxy hyd sx sy;have hvx:=hv x;obtain⟨F1,F2⟩:=hM x hx;generalize (w:Rat)*x-u=X at *
 have nz:=hn ((b':Rat)*X) (by
  by_cases hb0:b=0
  ·exact .inl hb0
  ·right;rcases p1 with z |z
   ·rw[z,KO]at hb;exact absurd hb hb0
   ·have:b'≠0:=λy=>hb0 (by rw[hb,y,Lc])
    have bb:(1:Rat)<=(b':Rat)*b':=by
     have:1<=b'*b':=by
      rcases LC this with y |y
      ·have:=LR y y;omega
      ·have:=KG y y;omega
     have:=c8 this
     rwa [K3]at this
    have:=K7 (show(0:Rat)<(b':Rat)*b' by grind) z;rw[hb,K3];grind) (by
  rw[hb,K3];have q1:=KR p2 bb0;have q2:=KR p3 bb0
  constructor<;>grind)
 have small : -(η/2)<=(τ:Rat)*((X*X-(d:Rat)*v*v)*F x):=by
  obtain⟨t1,t2⟩:=Bd.mul ⟨p2,p3⟩ ⟨F1,F2⟩;rcases hτ with z |z
  ·have:(τ:Rat)=1:=by rw[z];rfl
   rw[this];grind
  ·have:(τ:Rat) = -1:=by rw[z];rfl
   rw[this];grind
 have tot:η/2<=(τ:Rat)*((X*X-(d:Rat)*v*v)*F x+a+b'*X):=by
  generalize (X*X-(d:Rat)*v*v)*F x=G at *
  grind
 have:=KY tot (show(0:Rat)<=w by grind)
 have e2:(w:Rat)*((τ:Rat)*((X*X-(d:Rat)*v*v)*F x+a+b'*X))=(τ:Rat)*pv q x*m:=by
  have:(τ:Rat)*pv q x*m=(τ:Rat)*(m*pv q x):=by grind
  rw[this,hvx];grind
 rw[e2,<- eκ]at this;exact jJ mp this
theorem Aa{p q:List Int}(hp:Pri p)(h:¬Dv p q):Cop2 p (am (slopeL p) q):=λd dn dt h1 h2=>by
 refine Classical.byContradiction λhl=>?_
 have p2:=hp.two;obtain⟨c,g,hc,gt,hg⟩:=h1.trim
 have gne:g≠[]:=λz=>by
  subst z
  have:∀n,cf p n=0:=λn=>by have:=hg n;rw[eS]at this;exact(K9.mp this).resolve_left hc
  exact gJ hp.pln.tr hp.pln.ne (this _)
 have gl:=KL.mpr gne;have dl:=KL.mpr dn
 have glt:g.length<p.length:=by
  have ht:=kH (a:=g) (b:=d) (la:=g.length-1) (lb:=d.length-1) (by omega) (by omega);have nz:cf g (g.length-1)*cf d (d.length-1)≠0:=KM (gJ gt gne) (gJ dt dn);rw[<- ht,<- hg]at nz;have:g.length-1+(d.length-1)<p.length:=Classical.byContradiction λz=>nz (by rw[bV (by omega),KO])
  omega
 have hm:Dv p (am g d):=Dv.prop_right (x:=1) (y:=c) (by decide) (λn=>by rw[aW,<- hg];omega) (Dv.refl p);rcases hp.or g d hm with z |z
 ·exact gne (Dv.short hp.pln.ne hp.pln.tr gt glt z)
 ·rcases hp.or _ _ (z.trans h2)with y |y
  ·have:=Dv.short hp.pln.ne hp.pln.tr (og hp.pln.tr) (by rw[kM];omega) y;have:=congrArg List.length this;rw[kM]at this;simp at this;omega
  ·exact h y
theorem mN(u e w:Int)(x:Rat):pv (aI u e w) x=if e=0 then(w:Rat)*x-u else((w:Rat)*x-u)*((w:Rat)*x-u)-(e:Rat):=by
 unfold aI;split
 ·show((-u:Int):Rat)+x*((w:Rat)+x*0)=_;rw[Rat.intCast_neg];grind
 ·show((u*u-e:Int):Rat)+x*(((-2*w*u:Int):Rat)+x*(((w*w:Int):Rat)+x*0))=_;have e2:((-2:Int):Rat) = -2:=rfl;simp only[MK,K3,e2];grind
theorem GL{u v w d:Int}(hw:0<w)(hd:NSq d){q:List Int}(h:Dv (aJ [u,d*v*v,w]) q){l k:Rat}(hlk:l<k)(hl:0<sdR [u,d*v*v,w,ar v] l)(hk:¬0<sdR [u,d*v*v,w,ar v] k):sgq (hpA u v w d q).1 (hpA u v w d q).2.1 d=0:=by
 refine Classical.byContradiction λh0=>?_
 obtain⟨U,u0,u1⟩:=fN l;obtain⟨V,v0,v1⟩:=fN k;have hR:0<=U+V:=by grind
 have hbd:∀x,l<=x->x<=k->Bd (U+V) x:=λx a b=>by obtain⟨c1,c2⟩:=u1;obtain⟨c3,c4⟩:=v1;constructor<;>grind
 obtain⟨δ1,κ,d1,hκ,l1⟩:=rm hw hd h0 hR;have eE:((d*v*v:Int):Rat)=(d:Rat)*v*v:=by simp only[K3]
 obtain⟨Γ,F,hΓ,nF,hq⟩:∃(Γ:Rat) (F:Rat->Rat),Γ≠0/\Nice F/\∀x,Γ*pv q x*(Γ*pv q x)=F x*(((w:Rat)*x-u)*((w:Rat)*x-u)-(d:Rat)*v*v):=by
  obtain⟨c,g,hc,hg⟩:=h;obtain⟨m,hm,em⟩:=gD (dJ (u:=u) (e:=d*v*v) (show 1<=w by omega)).1
  have ep:∀x,(m:Rat)*c*pv q x=pv g x*pv (aI u (d*v*v) w) x:=λx=>by
   have h1:=mO x g (aJ [u,d*v*v,w]) (am g (aJ [u,d*v*v,w])) (aW _ _);have h2:=fZ (a:=q) (c:=am g (aJ [u,d*v*v,w])) (u:=c) x (λn=>by rw[aW];exact(hg n).symm);have h3:=fZ (a:=aJ [u,d*v*v,w]) (c:=aI u (d*v*v) w) (u:=m) x em;rw[h3];have:(m:Rat)*c*pv q x=(m:Rat)*((c:Rat)*pv q x):=by grind
   rw[this,<- h2,h1];grind
  have hne:(m:Rat)*c≠0:=λz=>by
   rcases Rat.mul_eq_zero.mp z with y |y
   ·exact iu hm y
   ·exact iu hc y
  have nX:Nice λx:Rat=>(w:Rat)*x-u:=by
   have:=((eR (w:Rat)).mul nice_id).add (eR (-(u:Rat)));have e:(λx:Rat=>(w:Rat)*x + -(u:Rat))=λx:Rat=>(w:Rat)*x-u:=by funext x;grind
   rwa [e]at this
  by_cases he:d*v*v=0
  ·refine⟨_,λx=>pv g x*pv g x,hne,(cS g).mul (cS g),λx=>?_⟩;have hx:=ep x;rw[mN,if_pos he]at hx;rw[hx,<- eE,he];have:((0:Int):Rat)=0:=rfl;rw[this];grind
  ·refine⟨_,λx=>pv g x*pv g x*(((w:Rat)*x-u)*((w:Rat)*x-u) + -((d*v*v:Int):Rat)),hne,((cS g).mul (cS g)).mul ((nX.mul nX).add (eR _)),λx=>?_⟩;have hx:=ep x;rw[mN,if_neg he]at hx;rw[hx,eE];grind
 obtain⟨M,M0,hM,_⟩:=nF (U+V) hR
 have gg:0<Γ*κ*(Γ*κ):=by
  have hne:Γ*κ≠0:=λz=>by rcases Rat.mul_eq_zero.mp z with y |y;exact hΓ y;grind
  generalize Γ*κ=t at *
  rcases Lk (a:=0) (b:=t)with y |y
  ·exact K7 (by grind) (by grind)
  ·have:=K7 (show 0 < -t by grind) (show 0 < -t by grind);grind
 obtain⟨ε,ε0,ε1,_⟩:=jV M0 (KW (a:=0)) (show 0<Γ*κ*(Γ*κ)/2 by grind) (show(0:Rat)<1 by grind);obtain⟨δ2,d2,l2⟩:=mT (u:=u) (v:=v) hw hd hR ε0
 obtain⟨δ,hδ,g1,g2⟩:∃δ:Rat,0<δ/\δ<=δ1/\δ<=δ2:=by
  rcases Lk (a:=δ1) (b:=δ2)with z |z
  ·exact⟨δ1,d1,KW,z⟩
  ·exact⟨δ2,d2,z,KW⟩
 obtain⟨n,hn⟩:=mf hδ (k-l);obtain⟨x,y,a1,a2,a3,a4,a5,a6⟩:=kG (s:=sdR [u,d*v*v,w,ar v]) hδ n l k hlk hl (by omega) hn;have bx:=hbd x a1 (by grind);have b_y:=hbd y (by grind) a3;have k1:=l1 x y bx b_y a2 (by grind) a5 (by omega);obtain⟨_,k2,k3⟩:=l2 x y bx b_y a2 (by grind) a5 (by omega);obtain⟨f1,f2⟩:=Bd.mul (hM x bx) ⟨k2,k3⟩;have hqx:=hq x
 have hτ:sgq (hpA u v w d q).1 (hpA u v w d q).2.1 d=1\/sgq (hpA u v w d q).1 (hpA u v w d q).2.1 d = -1:=by rcases iS (hpA u v w d q).1 (hpA u v w d q).2.1 d with z |z |z<;>omega
 have sq:κ*κ<=pv q x*pv q x:=by
  generalize pv q x=t at *
  generalize sgq (hpA u v w d q).1 (hpA u v w d q).2.1 d=τ at *
  have e1:((1:Int):Rat)=1:=rfl;have e2:((-1:Int):Rat) = -1:=rfl;rcases hτ with rfl |rfl
  ·rw[e1]at k1;have:=KY k1 (KK hκ);have:=KR k1 (show(0:Rat)<=t by grind);grind
  ·rw[e2]at k1;have:=KY k1 (KK hκ);have:=KR k1 (show(0:Rat) <= -t by grind);grind
 have gg2:0<Γ*Γ:=by
  rcases Lk (a:=0) (b:=Γ)with y |y
  ·exact K7 (by grind) (by grind)
  ·have:=K7 (show 0 < -Γ by grind) (show 0 < -Γ by grind);grind
 have s3:=KY sq (KK gg2);have s4:Γ*Γ*(pv q x*pv q x)=Γ*pv q x*(Γ*pv q x):=by grind
 have s5:Γ*Γ*(κ*κ)=Γ*κ*(Γ*κ):=by grind
 rw[s4,s5,hqx]at s3;generalize F x*(((w:Rat)*x-u)*((w:Rat)*x-u)-(d:Rat)*v*v)=G at *
 generalize Γ*κ*(Γ*κ)=T at *
 have:M*ε=ε*M:=by grind
 rw[this]at f2;grind
theorem B1{u v w d:Int}(hw:0<w)(hd:NSq d){q:List Int}(ha:(hpA u v w d q).1=0)(hb0:(hpA u v w d q).2.1=0){R ε:Rat}(hR:0<=R)(hε:0<ε):∃δ:Rat,0<δ/\∀x y:Rat,Bd R x->Bd R y->x<y->y-x<=δ->0<sdR [u,d*v*v,w,ar v] x->¬0<sdR [u,d*v*v,w,ar v] y->Bd ε (pv q x)/\Bd ε (pv (aI u (d*v*v) w) x):=by
 obtain⟨b',F,nF,hb,hv⟩:=nq (u:=u) (v:=v) (w:=w) (d:=d) q;have mp:(0:Rat)<((hpA u v w d q).2.2:Rat):=ir (nr hw q);rw[ha]at hv;rw[hb0]at hb;generalize ((hpA u v w d q).2.2:Rat)=m at *
 have W0:(0:Rat)<w:=ir hw;have eE:((d*v*v:Int):Rat)=(d:Rat)*v*v:=by simp only[K3]
 have z0:((0:Int):Rat)=0:=rfl;obtain⟨M,M0,hM,_⟩:=nF R hR;obtain⟨β,β0,hβ⟩:=fN (b':Rat);obtain⟨C,hC⟩:∃C:Rat,C=(w:Rat)*(M+β)/m:=⟨_,rfl⟩;have eC:C*m=(w:Rat)*(M+β):=by rw[hC];exact La (by grind)
 have C0:0<=C:=Lf.mp λz=>by have q1:=LD z mp;have q2:=KU (KK W0) (show 0<=M+β by grind);grind
 obtain⟨e1,he1,he2,he3⟩:∃e1:Rat,0<e1/\e1<=ε/\e1<=1:=by
  rcases Lk (a:=ε) (b:=1)with z |z
  ·exact⟨ε,hε,KW,z⟩
  ·exact⟨1,by grind,z,KW⟩
 obtain⟨t,t0,t1,t2⟩:=jV C0 (show(0:Rat)<=1 by grind) hε he1
 have bdm:∀v:Rat,Bd (t*C*m) (m*v)->Bd ε v:=λv h=>by
  obtain⟨h1,h2⟩:=h;have k1:=KR t1 (KK mp);constructor
  ·refine jJ mp ?_;grind
  ·refine jJ mp ?_;grind
 have eT:t*C*m=(w:Rat)*(t*M+t*β):=by
  have:t*C*m=t*(C*m):=by grind
  rw[this,eC];grind
 by_cases hv0:v=0
 ·obtain⟨δ,δ0,hδ⟩:=mT (u:=u) (v:=v) hw hd hR (K7 t0 t0);refine⟨δ,δ0,λx y hx hy hxy hyd sx sy=>?_⟩;obtain⟨_,p2,p3⟩:=hδ x y hx hy hxy hyd sx sy;have hvx:=hv x;have hF:=hM x hx;rw[mN,if_pos (by rw[hv0];omega)];have eV:(v:Rat)=0:=by rw[hv0];rfl
  rw[eV]at p2 p3 hvx;generalize (w:Rat)*x-u=X at *
  have bX:Bd t X:=by
   constructor
   ·refine Lf.mp λz=>?_
    have:=LD (show t < -X by grind) (show 0 < -X by grind);have:=MW (show t < -X by grind) t0;grind
   ·refine Lf.mp λz=>?_
    have:=LD z (show 0<X by grind);have:=MW z t0;grind
  refine⟨bdm _ ?_,bX.mono (by grind)⟩;rw[hvx,z0,eT];have k1:=(bX.mul bX).mul hF;have k2:=hβ.mul bX
  have k3:Bd (t*M+t*β) ((X*X-(d:Rat)*0*0)*F x+0+b'*X):=by obtain⟨a1,a2⟩:=k1;obtain⟨c1,c2⟩:=k2;have q1:=KR (show t*t<=t by have:=KY (show t<=1 by grind) (KK t0);grind) M0;constructor<;>grind
  obtain⟨a1,a2⟩:=k3;have c1:=KY a1 (KK W0);have c2:=KY a2 (KK W0);constructor<;>grind
 ·have hb':b'=0:=(K9.mp hb.symm).resolve_right hv0;obtain⟨δ,δ0,hδ⟩:=mT (u:=u) (v:=v) hw hd hR t0;refine⟨δ,δ0,λx y hx hy hxy hyd sx sy=>?_⟩;obtain⟨_,p2,p3⟩:=hδ x y hx hy hxy hyd sx sy;have hvx:=hv x;have hF:=hM x hx
  have he:¬d*v*v=0:=λz=>by
   rcases K9.mp z with y |y
   ·rcases K9.mp y with y |y
    ·have:=hd.1;omega
    ·exact hv0 y
   ·exact hv0 y
  rw[mN,if_neg he,eE];rw[hb',z0]at hvx;generalize (w:Rat)*x-u=X at *
  generalize X*X-(d:Rat)*v*v=P at *
  refine⟨bdm _ ?_,Bd.mono ⟨p2,p3⟩ (by grind)⟩;rw[hvx,eT];obtain⟨a1,a2⟩:=Bd.mul ⟨p2,p3⟩ hF;have c1:=KY a1 (KK W0);have c2:=KY a2 (KK W0);have c3:=KU (KK W0) (KU (KK t0) β0);generalize P*F x=G at *
  constructor<;>grind
theorem vi{a b d:Int}(h:sgq a b d=0):a=0/\b=0:=by
 unfold sgq at h
 split at h
 ·split at h
  ·cases h
  ·omega
 ·split at h
  ·cases h
  ·split at h
   ·split at h<;>cases h
   ·split at h<;>cases h
theorem wI{one other:List Int}(ho:other≠[])(h:Dv other one)(ht:Tr other):nxt one other=[]:=by unfold nxt rst;rw[if_neg ho,h.rest ho ht];rfl
theorem BJ{p G:List Int}(hp:Pln p)(tG:Tr G)(nG:G≠[])(h:Dv p G)(N:Nat) :
 (bA (N+3) p G=[p,G]/\∃c k:Int,c≠0/\k≠0/\∀n,c*cf G n=k*cf p n)\/bA (N+3) p G=[p,G,scL (-1) p]:=by
 have hl:p.length<=G.length:=Nat.not_lt.mp λz=>nG (Dv.short hp.ne hp.tr tG z h)
 have pl:=KL.mpr hp.ne
 have r0:∀(n:Nat) (a b:List Int),a≠[]->bA (n+1) a b=a::bA n b (nxt a b):=λn a b ha=>by show(if a=[]then[]else a::bA n b (nxt a b))=_;rw[if_neg ha]
 rcases Nat.lt_or_eq_of_le hl with z |z
 ·right
  have e1:aQ p G=p:=by
   unfold aQ;have:bz p G=0:=by unfold bz;omega
   rw[this];exact lH hp.tr
  have e2:nxt p G=scL (-1) p:=by unfold nxt rst;rw[if_neg nG,e1,iN hp.tr];refine mr (.inr ?_);rw[nt,hp.prim];rfl
  have n2:scL (-1) p≠[]:=λy=>hp.ne (List.map_eq_nil_iff.mp y)
  have e3:nxt G (scL (-1) p)=[]:=wI n2 (Dv.prop_left (x:=1) (y := -1) (by decide) (by decide) (λn=>by rw[bK];omega) h) (lI (by decide) hp.tr);rw[r0 _ _ _ hp.ne,r0 _ _ _ nG,e2,r0 _ _ _ n2,e3,ic]
 ·left;obtain⟨c,g,hc,gt,hg⟩:=h.trim
  have gne:g≠[]:=λy=>by subst y;have:=hg (G.length-1);rw[eS]at this;exact gJ tG nG ((K9.mp this).resolve_left hc)
  have gl:=KL.mpr gne
  have g1:g.length=1:=by
   have ht:=kH (a:=g) (b:=p) (la:=g.length-1) (lb:=p.length-1) (by omega) (by omega);have nz:cf g (g.length-1)*cf p (p.length-1)≠0:=KM (gJ gt gne) (gJ hp.tr hp.ne);rw[<- ht,<- hg]at nz;have:g.length-1+(p.length-1)<G.length:=Classical.byContradiction λy=>nz (by rw[bV (by omega),KO])
   omega
  obtain⟨k,rfl⟩:=MR.mp g1;have hk:k≠0:=gJ gt gne;have eq:∀n,c*cf G n=k*cf p n:=λn=>by rw[hg,ge]
  have e2:nxt p G=[]:=wI nG ⟨k,[c],hk,λn=>by rw[ge,eq]⟩ tG;refine⟨?_,c,k,hc,hk,eq⟩;rw[r0 _ _ _ hp.ne,r0 _ _ _ nG,e2,ic]
theorem zD{p G:List Int}(hp:Pln p)(tG:Tr G)(nG:G≠[])(h:Dv p G)(N:Nat){x y:Rat}(hx:sgR (pv p x)≠0)(hy:sgR (pv p y)≠0):vrs (bA (N+3) p G) x=vrs (bA (N+3) p G) y:=by
 have nz:∀{v:Rat},sgR v≠0->sgR v=1\/sgR v = -1:=λ{v} hv=>by rcases iT v with z |z |z;exact .inl z;exact absurd z hv;exact .inr z
 rcases BJ hp tG nG h N with⟨e,c,k,hc,hk,eq⟩ |e
 ·rw[e]
  have hG:∀z,(c:Rat)*pv G z=(k:Rat)*pv p z:=λz=>by have h1:=fZ (a:=G) (c:=scL c G) (u:=c) z (λn=>bK c G n);have h2:=fZ (a:=p) (c:=scL c G) (u:=k) z (λn=>by rw[bK];exact eq n);rw[<- h1,h2]
  obtain⟨σ,hσ⟩:∃σ:Int,∀z,sgR (pv G z)=σ*sgR (pv p z):=by
   have key:∀t:Rat,t≠0->∀v:Rat,sgR (t*v)=sgR t*sgR v:=λt ht v=>by
    rcases bD t with⟨a,b⟩ |⟨a,b⟩ |⟨a,b⟩
    ·rcases bD v with⟨a',b'⟩ |⟨a',b'⟩ |⟨a',b'⟩
     ·rw[b,b'];have:=K7 (show 0 < -t by grind) (show 0 < -v by grind);rcases bD (t*v)with⟨q,_⟩ |⟨q,_⟩ |⟨_,q⟩
      ·grind
      ·grind
      ·rw[q];rfl
     ·rw[a',Rat.mul_zero];have:sgR 0=0:=by decide
      rw[this];omega
     ·rw[b,b'];have:=K7 (show 0 < -t by grind) a';rcases bD (t*v)with⟨_,q⟩ |⟨q,_⟩ |⟨q,_⟩
      ·rw[q];rfl
      ·grind
      ·grind
    ·exact absurd a ht
    ·rw[b,mv a];omega
   have c0:=iu hc;have k0:=iu hk;refine⟨sgR (c:Rat)*sgR (k:Rat),λz=>?_⟩;have h1:=congrArg sgR (hG z);rw[key _ c0,key _ k0]at h1
   have cc:sgR (c:Rat)*sgR (c:Rat)=1:=by
    rcases bD (c:Rat)with⟨_,b⟩ |⟨b,_⟩ |⟨_,b⟩
    ·rw[b];decide
    ·exact absurd b c0
    ·rw[b];decide
   have:sgR (c:Rat)*(sgR (c:Rat)*sgR (pv G z))=sgR (c:Rat)*(sgR (k:Rat)*sgR (pv p z)):=by rw[h1]
   rw[<- KQ,cc,K4]at this;rw[this,KQ]
  have one:∀z,sgR (pv p z)≠0->vrs [p,G] z=if σ<0 then 1 else 0:=λz hz=>by
   show vr 0 (sgR (pv p z)::[sgR (pv G z)])=_;rw[jU,hσ z];show(if σ*sgR (pv p z)*sgR (pv p z)<0 then 1 else 0)+vr _ []=_;have:sgR (pv p z)*sgR (pv p z)=1:=by rcases nz hz with a |a<;>rw[a]<;>decide
   rw[KQ,this,Le];show _+0=_;omega
  rw[one x hx,one y hy]
 ·rw[e]
  have one:∀z,sgR (pv p z)≠0->vrs [p,G,scL (-1) p] z=1:=λz hz=>by
   have hn:sgR (pv (scL (-1) p) z) = -sgR (pv p z):=by rw[fZ (a:=p) (c:=scL (-1) p) (u := -1) z (λn=>bK _ _ n)];have e:((-1:Int):Rat) = -1:=rfl;rw[e];rcases bD (pv p z)with⟨a,b⟩ |⟨a,b⟩ |⟨a,b⟩<;>rcases bD (-1*pv p z)with⟨a',b'⟩ |⟨a',b'⟩ |⟨a',b'⟩<;>rw[b,b']<;>grind
   show vr 0 (sgR (pv p z)::[sgR (pv G z),sgR (pv (scL (-1) p) z)])=_;rw[jU,hn,oa (nz hz) (iT _)];rfl
  rw[one x hx,one y hy]
theorem kN{u v w d l1 l2 h1 h2:Int}(hd:NSq d)(hO:OneS [[u,d*v*v,w]] [u,d*v*v,w] [u,d*v*v,w,ar v] l1 l2 h1 h2):∃ε:Int,(ε=1\/ε = -1)/\∀x:Rat,(l1:Rat)/(l2:Rat)<=x->x<=(h1:Rat)/(h2:Rat)->sgR (pv (aJ [u,d*v*v,w]) x)=ε*sdR [u,d*v*v,w,ar v] x:=by
 have hF:=hO.fam
 have sgn:∀x:Rat,sgR (pv (aJ [u,d*v*v,w]) x)=spr x.num x.den (spF [u,d*v*v,w]):=λx=>by have h:=hF.sign (t:=x.num) (n:=(x.den:Int)) (fv x);rw[wj hF,dj,gB (fv x),rY]at h;exact h
 by_cases hv:v=0
 ·subst hv;have e0:d*0*0=0:=by omega
  rw[e0]at sgn ⊢;refine⟨-1,.inr rfl,λx _ _=>?_⟩;rw[sgn,tZ];show -ao [u,0,w,1] x.num x.den*1 = -1*ao [u,0,w,1] x.num x.den;omega
 ·have he:0<d*v*v:=by
   rw[KQ];refine KG hd.1 ?_;rcases LC hv with z |z
   ·exact LR z z
   ·exact KG z z
  have hns:=rg hd v;have lt:=(cY hO.l2p hO.h2p).mpr hO.lt
  have keep:∀σ:Int,[u,d*v*v,w,σ]∈spF [u,d*v*v,w]->σ≠ar v->∀x:Rat,(l1:Rat)/(l2:Rat)<=x->x<=(h1:Rat)/(h2:Rat)->sdR [u,d*v*v,w,σ] x=sdR [u,d*v*v,w,σ] ((l1:Rat)/(l2:Rat)):=λσ hm hσ x hx1 hx2=>by
   have hc:=kh (fT hF.q (l:=[u,d*v*v,w,σ]) (by rw[dj];exact hm));have nzx:∀z:Rat,sdR [u,d*v*v,w,σ] z≠0:=λz=>oF hns he (fv z)
   have hno:¬(0<sdR [u,d*v*v,w,σ] ((l1:Rat)/(l2:Rat))/\sdR [u,d*v*v,w,σ] ((h1:Rat)/(h2:Rat))<=0):=λz=>by
    rw[cn _ hO.l2p,cn _ hO.h2p]at z;have:=hO.only [u,d*v*v,w,σ] (by rw[dj];exact hm) z.1 z.2;simp at this
    exact hσ this
   rcases hc.u ((l1:Rat)/(l2:Rat))with a |a |a
   ·rw[a]
    have hh:sdR [u,d*v*v,w,σ] ((h1:Rat)/(h2:Rat))=1:=by
     rcases hc.u ((h1:Rat)/(h2:Rat))with b |b |b
     ·exact b
     ·exact absurd b (nzx _)
     ·exact absurd ⟨by omega,by omega⟩ hno
    rcases hc.u x with b |b |b
    ·exact b
    ·exact absurd b (nzx _)
    ·rcases(show x<(h1:Rat)/(h2:Rat)\/x=(h1:Rat)/(h2:Rat) by grind)with c |c
     ·have:=hc.m _ _ c (by omega);omega
     ·rw[c]at b;omega
   ·exact absurd a (nzx _)
   ·rw[a];rcases(show(l1:Rat)/(l2:Rat)<x\/(l1:Rat)/(l2:Rat)=x by grind)with c |c
    ·exact hc.m _ _ c (by omega)
    ·rw[<- c];exact a
  have sp:=ua (u:=u) (b:=w) he
  have val:∀x:Rat,sgR (pv (aJ [u,d*v*v,w]) x)=sdR [u,d*v*v,w,1] x*sdR [u,d*v*v,w,-1] x:=λx=>by rw[sgn,sp];show -ao [u,d*v*v,w,1] x.num x.den*(-ao [u,d*v*v,w,-1] x.num x.den*1)=ao [u,d*v*v,w,1] x.num x.den*ao [u,d*v*v,w,-1] x.num x.den;rw[Le,Int.neg_mul_neg]
  have unit:∀σ:Int,sdR [u,d*v*v,w,σ] ((l1:Rat)/(l2:Rat))=1\/sdR [u,d*v*v,w,σ] ((l1:Rat)/(l2:Rat)) = -1:=λσ=>by
   have:=oF (u:=u) (b:=w) (σ:=σ) (t:=((l1:Rat)/(l2:Rat)).num) hns he (fv ((l1:Rat)/(l2:Rat)));rcases cV [u,d*v*v,w,σ] ((l1:Rat)/(l2:Rat)).num ((l1:Rat)/(l2:Rat)).den with z |z |z
   ·exact .inl z
   ·exact absurd z this
   ·exact .inr z
  by_cases hn:v<0
  ·have es:ar v = -1:=by unfold ar;rw[if_pos hn]
   refine⟨_,unit 1,λx a b=>?_⟩;rw[val,keep 1 (by rw[sp];simp) (by rw[es];decide) x a b,es]
  ·have es:ar v=1:=by unfold ar;rw[if_neg hn]
   refine⟨_,unit (-1),λx a b=>?_⟩;rw[val,keep (-1) (by rw[sp];simp) (by rw[es];decide) x a b,es,K8]
theorem zZ{u v w d l1 l2 h1 h2:Int}(hd:NSq d)(hw:0<w)(hO:OneS [[u,d*v*v,w]] [u,d*v*v,w] [u,d*v*v,w,ar v] l1 l2 h1 h2){q:List Int}(tq:Tr q){N:Nat}(hN:q.length+5<=N)(htop:sg (hv h1 h2 (aJ [u,d*v*v,w]))≠0) :
 vr 0 (sgv (bA N (aJ [u,d*v*v,w]) (aB (am (slopeL (aJ [u,d*v*v,w])) q))) l1 l2)-vr 0 (sgv (bA N (aJ [u,d*v*v,w]) (aB (am (slopeL (aJ [u,d*v*v,w])) q))) h1 h2)=sgq (hpA u v w d q).1 (hpA u v w d q).2.1 d:=by
 have hP:=rT (hO.fam.fac _ hO.mem);have lt:=(cY hO.l2p hO.h2p).mpr hO.lt;obtain⟨ε,hε,hs⟩:=kN hd hO
 have sl:sdR [u,d*v*v,w,ar v] ((l1:Rat)/(l2:Rat))=1:=by rw[cn _ hO.l2p];have:=hO.inn.1;rcases cV [u,d*v*v,w,ar v] l1 l2 with z |z |z<;>omega
 have sk:sdR [u,d*v*v,w,ar v] ((h1:Rat)/(h2:Rat)) = -1:=by
  rw[gB hO.h2p,hs _ (KK lt) KW]at htop;have h0:sdR [u,d*v*v,w,ar v] ((h1:Rat)/(h2:Rat))≠0:=λz=>htop (by rw[z,KO])
  rw[cn _ hO.h2p]at h0 ⊢;have:=hO.inn.2;rcases cV [u,d*v*v,w,ar v] h1 h2 with z |z |z<;>omega
 have hsl:sgR (pv (aJ [u,d*v*v,w]) ((l1:Rat)/(l2:Rat)))≠0:=by rw[hs _ KW (KK lt),sl];omega
 have hsk:sgR (pv (aJ [u,d*v*v,w]) ((h1:Rat)/(h2:Rat)))≠0:=by rw[hs _ (KK lt) KW,sk];omega
 have hcut:Cut (sdR [u,d*v*v,w,ar v]):=kh (fT hO.fam.q (by rw[dj];exact hO.sp));rw[vh hO.l2p,vh hO.h2p];show vrs _ _-vrs _ _=_;have p2:=hP.two;generalize hp:aJ [u,d*v*v,w]=p at *
 by_cases hq:q=[]
 ·subst hq;have e:am (slopeL p) []=[]:=by unfold am;rw[if_pos (.inr rfl)]
  have e2:aB ([]:List Int)=[]:=rfl;rw[e,e2,vJ hP.pln.ne (by omega)];show vr 0 [_]-vr 0 [_]=sgq 0 0 d;rw[jU,jU,oK];rfl
 have sn:slopeL p≠[]:=λz=>by have:=congrArg List.length z;rw[kM]at this;simp at this;omega
 have tF:Tr (am (slopeL p) q):=gU (og hP.pln.tr) tq
 have nF:am (slopeL p) q≠[]:=λz=>by have:=congrArg List.length z;rw[cs sn hq]at this;have s1:=KL.mpr sn;have s2:=KL.mpr hq;simp at this;omega
 obtain⟨g0,t0,n0,e0⟩:=mn tF nF;by_cases hdv:Dv p q
 ·have z:=GL (u:=u) (v:=v) hw hd (q:=q) (by rw[hp];exact hdv) lt (by rw[sl];decide) (by rw[sk];decide);rw[z];have hG:Dv p (aB (am (slopeL p) q)):=Dv.prop_right (x:=(aK (am (slopeL p) q):Int)) (y:=1) (by omega) (λn=>by rw[<- e0 n,K4]) (hdv.trans (Dv.mul_right (slopeL p) q));obtain⟨M,rfl⟩:∃M,N=M+3:=⟨N-3,by omega⟩;rw[zD hP.pln t0 n0 hG M hsl hsk];omega
 ·have lF:(aB (am (slopeL p) q)).length=p.length-1+q.length-1:=by unfold aB;rw[KF,cs sn hq,kM]
  have pl3:p.length<=3:=by rw[<- hp];show(aO (aI _ _ _)).length<=3;rw[plain_len];unfold aI;split<;>simp
  obtain⟨M,rfl⟩:∃M,N=M+1+1:=⟨N-2,by omega⟩
  have cop:Cop2 p (aB (am (slopeL p) q)):=by
   have:=(Aa hP hdv).shr hP.pln.tr hP.pln.ne tF
   rwa [mr (.inr hP.pln.prim)]at this
  have hst:=vI (M+1) p (aB (am (slopeL p) q)) (by omega) hP.pln.tr hP.pln.ne t0 cop
  have er:bA (M+1+1) p (aB (am (slopeL p) q))=p::aB (am (slopeL p) q)::bA M (nxt p (aB (am (slopeL p) q))) (nxt (aB (am (slopeL p) q)) (nxt p (aB (am (slopeL p) q)))):=by show(if p=[]then _ else p::(if aB (am (slopeL p) q)=[]then _ else _))=_;rw[if_neg hP.pln.ne,if_neg n0]
  rw[er]at hst ⊢;have g0':(0:Rat)<((aK (am (slopeL p) q):Int):Rat):=ir g0
  have hdd:∀x,pv (slopeL p) x*pv q x=((aK (am (slopeL p) q):Int):Rat)*pv (aB (am (slopeL p) q)) x:=λx=>by rw[<- mO x (slopeL p) q (am (slopeL p) q) (aW _ _)];exact fZ x e0
  obtain⟨U,u0,u1⟩:=fN ((l1:Rat)/(l2:Rat));obtain⟨V,v0,v1⟩:=fN ((h1:Rat)/(h2:Rat))
  have hbd:∀x:Rat,(l1:Rat)/(l2:Rat)<=x->x<=(h1:Rat)/(h2:Rat)->Bd (U+V) x:=λx a b=>by obtain⟨c1,c2⟩:=u1;obtain⟨c3,c4⟩:=v1;constructor<;>grind
  have h0:sgq (hpA u v w d q).1 (hpA u v w d q).2.1 d≠0:=λz=>by
   obtain⟨za,zb⟩:=vi z;obtain⟨A,B,k,nA,nB,hk,hAB⟩:=sB hst rfl;have hR:0<=U+V:=by grind
   obtain⟨M1,m1,a1,_⟩:=nA (U+V) hR;obtain⟨M2,m2,a2,_⟩:=(nB.mul (cS (slopeL p))) (U+V) hR;obtain⟨m,hm,em⟩:=gD (dJ (u:=u) (e:=d*v*v) (show 1<=w by omega)).1
   have em':∀x,pv (aI u (d*v*v) w) x=(m:Rat)*pv p x:=λx=>by rw[<- hp];exact fZ x em
   obtain⟨ε',e0',e1',e2'⟩:=jV (show 0<=M1 by exact m1) (show 0<=M2 by exact m2) (show 0<k/4 by grind) (show 0<((aK (am (slopeL p) q):Int):Rat)*(k/4)from K7 g0' (by grind));obtain⟨δ,δ0,hδ⟩:=B1 hw hd za zb hR e0';obtain⟨n,hn⟩:=mf δ0 ((h1:Rat)/(h2:Rat)-(l1:Rat)/(l2:Rat));obtain⟨x,y,b1,b2,b3,b4,b5,b6⟩:=kG (s:=sdR [u,d*v*v,w,ar v]) δ0 n _ _ lt (by rw[sl];decide) (by rw[sk];decide) hn;have bx:=hbd x b1 (by grind);obtain⟨c1,c2⟩:=hδ x y bx (hbd y (by grind) b3) b2 b4 b5 (by omega)
   have hpx:Bd ε' (pv p x):=by
    rw[em']at c2;obtain⟨f1,f2⟩:=c2
    have hm1:(m:Rat) <= -1\/1<=(m:Rat):=by
     rcases LC hm with y |y
     ·left;exact c8 (b := -1) (by omega)
     ·right;exact c8 (a:=1) (by omega)
    generalize pv p x=P at *
    rcases hm1 with y |y<;>constructor<;>refine Lf.mp λz=>?_
    ·have:=KR (show 1 <= -(m:Rat) by grind) (show 0 <= -P by grind);grind
    ·have:=KR (show 1 <= -(m:Rat) by grind) (show 0<=P by grind);grind
    ·have:=KR y (show 0 <= -P by grind);grind
    ·have:=KR y (show 0<=P by grind);grind
   obtain⟨f1,f2⟩:=(a1 x bx).mul hpx;obtain⟨f3,f4⟩:=(a2 x bx).mul c1;have hx:=hAB x;have hdx:=hdd x;generalize ((aK (am (slopeL p) q):Int):Rat)=γ at *
   have e5:B x*pv (slopeL p) x*pv q x=γ*(B x*pv (aB (am (slopeL p) q)) x):=by
    have:B x*pv (slopeL p) x*pv q x=B x*(pv (slopeL p) x*pv q x):=by grind
    rw[this,hdx];grind
   rw[e5]at f3 f4;generalize B x*pv (aB (am (slopeL p) q)) x=G at *
   generalize A x*pv p x=G1 at *
   have g1:G<=k/4:=jJ g0' (by grind);have g2 : -(k/4)<=G:=jJ g0' (by grind);rcases hx with z |z<;>grind
  obtain⟨δ,κ,d1,hκ,l1'⟩:=rm hw hd h0 (R:=U+V) (by grind);refine zX hst g0' hdd hcut hε lt hs sl sk d1 λx y hx hy hxy hyd sx sy=>?_
  have k:=l1' x y (hbd x hx (by grind)) (hbd y (by grind) hy) hxy hyd (by omega) (by omega);rcases iS (hpA u v w d q).1 (hpA u v w d q).2.1 d with z |z |z
  ·rw[z]at k ⊢;have e:((1:Int):Rat)=1:=rfl;rw[e]at k;rcases bD (pv q x)with⟨a,_⟩ |⟨a,_⟩ |⟨_,a⟩
   ·grind
   ·grind
   ·exact a
  ·exact absurd z h0
  ·rw[z]at k ⊢;have e:((-1:Int):Rat) = -1:=rfl;rw[e]at k;rcases bD (pv q x)with⟨_,a⟩ |⟨a,_⟩ |⟨a,_⟩
   ·exact a
   ·grind
   ·grind
theorem zY{u v w d l1 l2 h1 h2:Int}(hd:NSq d)(hw:0<w)(hO:OneS [[u,d*v*v,w]] [u,d*v*v,w] [u,d*v*v,w,ar v] l1 l2 h1 h2)(q:List Int)(htop:sg (hv h1 h2 (aJ [u,d*v*v,w]))=0):sg (hv h1 h2 q)=sgq (hpA u v w d q).1 (hpA u v w d q).2.1 d:=by
 have lt:=(cY hO.l2p hO.h2p).mpr hO.lt;obtain⟨ε,hε,hs⟩:=kN hd hO;rw[gB hO.h2p,hs _ (KK lt) KW,cn _ hO.h2p]at htop;have h0:=(K9.mp htop).resolve_left (by omega)
 have hv:v=0:=Classical.byContradiction λhv=>by
  have he:0<d*v*v:=by
   rw[KQ];refine KG hd.1 ?_;rcases LC hv with z |z
   ·exact LR z z
   ·exact KG z z
  exact oF (rg hd v) he hO.h2p h0
 subst hv;have e0:d*0*0=0:=by omega
 rw[e0]at h0
 have hs1:aT 0 (w*h1-u*h2)=0:=by
  have:ao [u,0,w,1] h1 h2=aT (0*h2*h2) (w*h1-u*h2):=by unfold ao;rw[if_pos (show(0:Int)<cf [u,0,w,1] 3 from(by decide:(0:Int)<1))];rfl
  rw[Lc,Lc]at this;rw[<- this];exact h0
 have due:w*h1=u*h2:=by
  rcases bC 0 (w*h1-u*h2)with⟨c,_⟩ |⟨_,_,h1⟩ |⟨c,_⟩
  ·omega
  ·rcases K9.mp h1 with z |z<;>omega
  ·omega
 obtain⟨b',F,nF,hb,hval⟩:=nq (u:=u) (v:=0) (w:=w) (d:=d) q;rw[KO]at hb;have mp:(0:Rat)<((hpA u 0 w d q).2.2:Rat):=ir (nr hw q);have W0:(0:Rat)<w:=ir hw;have H0:(0:Rat)<h2:=ir hO.h2p
 have hX:(w:Rat)*((h1:Rat)/(h2:Rat))-u=0:=by
  have h3:(h1:Rat)/(h2:Rat)*(h2:Rat)=h1:=La (by grind);have h4:=congrArg (λz:Int=>(z:Rat)) due;simp only[K3]at h4;have h5:((w:Rat)*((h1:Rat)/(h2:Rat))-u)*(h2:Rat)=0:=by grind
  exact(Rat.mul_eq_zero.mp h5).resolve_right (by grind)
 have hv:=hval ((h1:Rat)/(h2:Rat));rw[hX]at hv;have z0:((0:Int):Rat)=0:=rfl;rw[z0]at hv;rw[gB hO.h2p,<- mv mp,hv,hb];have e5:(w:Rat)*((0*0-(d:Rat)*0*0)*F ((h1:Rat)/(h2:Rat))+((hpA u 0 w d q).1:Rat)+(b':Rat)*0)=(w:Rat)*((hpA u 0 w d q).1:Rat):=by grind
 rw[e5,mv W0,vn];generalize (hpA u 0 w d q).1=a;rcases Mz a 0 with z |z |z
 ·rw[oJ (by omega) (K6 _) (.inl z)];unfold sg;rw[if_pos z]
 ·subst z;rw[oK];rfl
 ·rw[oI (by omega) (K6 _) (.inl z)];unfold sg;rw[if_neg (by omega),if_pos z]
theorem rN(u v w d g:Int):∀l:List Int,hpA u v w d (scL g l)=(g*(hpA u v w d l).1,g*(hpA u v w d l).2.1,(hpA u v w d l).2.2)
 | []=>by show((0:Int),(0:Int),(1:Int))=(g*0,g*0,1);rw[KO]
 |c::l=>by
  have ih:=rN u v w d g l;have e:scL g (c::l)=g*c::scL g l:=rfl;rw[e];simp only[hpA];rw[ih];dsimp only
  rw[Prod.mk.injEq,Prod.mk.injEq];refine⟨by grind,by grind,rfl⟩
theorem vU{u e b:Int}(hb:1<=b):0<cb (aI u e b):=by
 unfold aI;split
 ·show 0<b;omega
 ·show 0<b*b;exact KG (by omega) (by omega)
theorem vR{l:List Int}(h:Tr l)(hp:0<cb l):∃g:Int,0<g/\l=scL g (aO l):=by
 have hne:l≠[]:=λz=>by subst z;exact absurd hp (by decide)
 obtain⟨g0,t0,n0,e0⟩:=mn h hne
 have hl:cb l=(aK l:Int)*cb (aB l):=by have:=e0 (l.length-1);unfold cb;have e:(aB l).length=l.length:=KF _;rw[e];exact this
 refine⟨aK l,g0,?_⟩
 have:aO l=aB l:=by unfold aO bQ;rw[if_neg];intro z;have:=Mx g0 z;omega
 rw[this];exact shr_scale.symm
variable {u v w a b c d t n:Int}
def LtS(s s':List Int):Prop:=∃t n:Int,0<n/\ao s t n<=0/\0<ao s' t n
theorem xo{s s':List Int}{x:Rat}(h1:sdR s x<=0)(h2:0<sdR s' x):LtS s s':=⟨x.num,x.den,fv x,h1,h2⟩
theorem mw{c:Rat}:(0<c->sgR c=1)/\(c<0->sgR c = -1):=by
 rcases bD c with⟨a,b⟩ |⟨a,b⟩ |⟨a,b⟩
 ·exact⟨λh=>by grind,λ_=>b⟩
 ·exact⟨λh=>by grind,λh=>by grind⟩
 ·exact⟨λ_=>b,λh=>by grind⟩
theorem wu{u v w d η:Int}{s' q:List Int}{L K:Rat}(hd:NSq d)(hw:0<w)(hlk:L<K)(hη:η=1\/η = -1)
 (lo:0<sdR [u,d*v*v,w,ar v] L) (hi:sdR [u,d*v*v,w,ar v] K<=0)
 (hs:∀x:Rat,L<=x->x<=K->sgR (pv q x)=η*sdR s' x)
 (h0:sgq (hpA u v w d q).1 (hpA u v w d q).2.1 d≠0) :
 (η*sgq (hpA u v w d q).1 (hpA u v w d q).2.1 d=1->LtS [u,d*v*v,w,ar v] s')/\(η*sgq (hpA u v w d q).1 (hpA u v w d q).2.1 d = -1->LtS s' [u,d*v*v,w,ar v]):=by
 obtain⟨U,u0,u1⟩:=fN L;obtain⟨V,v0,v1⟩:=fN K;have hR:0<=U+V:=by grind
 have hbd:∀x,L<=x->x<=K->Bd (U+V) x:=λx a b=>by obtain⟨c1,c2⟩:=u1;obtain⟨c3,c4⟩:=v1;constructor<;>grind
 obtain⟨δ1,κ,d1,hκ,near⟩:=rm hw hd h0 hR;obtain⟨M,M0,_,lip⟩:=cS q (U+V) hR;obtain⟨δ2,d2,e2,_⟩:=jV M0 (KW (a:=0)) (show 0<κ/2 by grind) (show(0:Rat)<1 by grind)
 obtain⟨δ,hδ,g1,g2⟩:∃δ:Rat,0<δ/\δ<=δ1/\δ<=δ2:=by
  rcases Lk (a:=δ1) (b:=δ2)with z |z
  ·exact⟨δ1,d1,KW,z⟩
  ·exact⟨δ2,d2,z,KW⟩
 obtain⟨n,hn⟩:=mf hδ (K-L);obtain⟨x,y,a1,a2,a3,a4,a5,a6⟩:=kG (s:=sdR [u,d*v*v,w,ar v]) hδ n L K hlk lo hi hn;have bx:=hbd x a1 (by grind);have b_y:=hbd y (by grind) a3;have k1:=near x y bx b_y a2 (by grind) a5 (by omega);obtain⟨p1,p2⟩:=lip x y bx b_y (KK a2)
 have k2:M*(y-x)<=κ/2:=by have h1:=KY (show y-x<=δ2 by grind) M0;have h2:M*δ2=δ2*M:=Rat.mul_comm _ _;grind
 have sx:=hs x a1 (by grind);have sy:=hs y (by grind) a3;have hσ:=iS (hpA u v w d q).1 (hpA u v w d q).2.1 d;generalize sgq (hpA u v w d q).1 (hpA u v w d q).2.1 d=σ at h0 k1 hσ ⊢
 generalize pv q x=X at *
 generalize pv q y=Y at *
 have cas:(σ=1/\0<X/\0<Y)\/(σ = -1/\X<0/\Y<0):=by
  rcases hσ with z |z |z
  ·rw[z]at k1;have e:((1:Int):Rat)=1:=rfl;rw[e]at k1;exact .inl ⟨z,by grind,by grind⟩
  ·exact absurd z h0
  ·rw[z]at k1;have e:((-1:Int):Rat) = -1:=rfl;rw[e]at k1;exact .inr ⟨z,by grind,by grind⟩
 constructor
 ·intro h;refine xo (x:=y) a6 ?_;rcases cas with⟨e,_,c⟩ |⟨e,_,c⟩
  ·rw[mw.1 c]at sy;rcases hη with z |z<;>rw[z]at sy h<;>omega
  ·rw[mw.2 c]at sy;rcases hη with z |z<;>rw[z]at sy h<;>omega
 ·intro h;refine xo (x:=x) ?_ a5;rcases cas with⟨e,c,_⟩ |⟨e,c,_⟩
  ·rw[mw.1 c]at sx;rcases hη with z |z<;>rw[z]at sx h<;>omega
  ·rw[mw.2 c]at sx;rcases hη with z |z<;>rw[z]at sx h<;>omega
theorem ke{u e w a f c ε t n:Int}(hw:0<w)(hc:0<c)(h1:u*c=a*w)(h2:e*c*c=f*w*w):ao [u,e,w,ε] t n=ao [a,f,c,ε] t n:=by
 show(if 0<ε then aT (e*n*n) (w*t-u*n)else 0-aT (e*n*n) (0-(w*t-u*n)))=(if 0<ε then aT (f*n*n) (c*t-a*n)else 0-aT (f*n*n) (0-(c*t-a*n)))
 have q1:e*n*n*(c*c)=f*n*n*(w*w):=by
  have:e*n*n*(c*c)=e*c*c*(n*n):=by grind
  rw[this,h2];grind
 have q2:c*(w*t-u*n)=w*(c*t-a*n):=by
  have:c*(w*t-u*n)=c*w*t-u*c*n:=by grind
  rw[this,h1];grind
 have k1:aT (e*n*n) (w*t-u*n)=aT (f*n*n) (c*t-a*n):=by rw[<- gz (g:=c) (sq:=e*n*n) hc,<- gz (g:=w) (sq:=f*n*n) hw,q1,q2]
 have k2:aT (e*n*n) (0-(w*t-u*n))=aT (f*n*n) (0-(c*t-a*n)):=by
  rw[<- gz (g:=c) (sq:=e*n*n) hc,<- gz (g:=w) (sq:=f*n*n) hw,q1]
  congr 1
  grind
 rw[k1,k2]
theorem wt{u v w d a b c d' l1 l2 h1 h2:Int}(hd:NSq d)(hd':NSq d')(hw:0<w)(hc:0<c)(hO:OneS [[a,d'*b*b,c]] [a,d'*b*b,c] [a,d'*b*b,c,ar b] l1 l2 h1 h2)
 (lo:0<ao [u,d*v*v,w,ar v] l1 l2) (hi:ao [u,d*v*v,w,ar v] h1 h2<=0)
 (h0:sgq (hpA u v w d (aJ [a,d'*b*b,c])).1 (hpA u v w d (aJ [a,d'*b*b,c])).2.1 d=0) :
 u*c=a*w/\d*v*v*c*c=d'*b*b*w*w/\ar v=ar b:=by
 obtain⟨g,hg,eg⟩:=vR (dJ (u:=a) (e:=d'*b*b) (show 1<=c by omega)).1 (vU (show 1<=c by omega));obtain⟨z1,z2⟩:=vi h0;have ep:aO (aI a (d'*b*b) c)=aJ [a,d'*b*b,c]:=rfl;have r1:(hpA u v w d (aI a (d'*b*b) c)).1=0:=by rw[eg,rN,ep];show g*_=0;rw[z1,KO]
 have r2:(hpA u v w d (aI a (d'*b*b) c)).2.1=0:=by rw[eg,rN,ep];show g*_=0;rw[z2,KO]
 by_cases hb:b=0
 ·subst hb;unfold aI at r1 r2
  rw[if_pos (by omega)]at r1 r2;have e1:(hpA u v w d [-a,c]).1=u*c-a*w:=by simp only[hpA];grind
  have e2:(hpA u v w d [-a,c]).2.1=v*c:=by simp only[hpA];grind
  rw[e1]at r1;rw[e2]at r2;have hv:v=0:=(K9.mp r2).resolve_right (by omega);subst hv;exact⟨by omega,by grind,rfl⟩
 have he:d'*b*b≠0:=KM (KM (by have:=hd'.1;omega) hb) hb;unfold aI at r1 r2
 rw[if_neg he]at r1 r2;have e1:(hpA u v w d [a*a-d'*b*b,-2*c*a,c*c]).1=(u*c-a*w)*(u*c-a*w)+d*(v*c)*(v*c)-d'*(b*w)*(b*w):=by simp only[hpA];grind
 have e2:(hpA u v w d [a*a-d'*b*b,-2*c*a,c*c]).2.1=2*((u*c-a*w)*(v*c)):=by simp only[hpA];grind
 rw[e1]at r1;rw[e2]at r2;have hbw:b*w≠0:=KM hb (by omega)
 have hv:v≠0:=λhv=>by
  subst hv;refine hd'.2 (u*c-a*w) (b*w) hbw ?_;have:d*(0*c)*(0*c)=0:=by grind
  omega
 have hf:u*c-a*w=0:=by
  have h3:(u*c-a*w)*(v*c)=0:=by omega
  exact(K9.mp h3).resolve_right (KM hv (by omega))
 rw[hf]at r1;have q1:u*c=a*w:=by omega
 have q2:d*v*v*c*c=d'*b*b*w*w:=by
  have i1:d*v*v*c*c=d*(v*c)*(v*c):=by grind
  have i2:d'*b*b*w*w=d'*(b*w)*(b*w):=by grind
  rw[i1,i2];omega
 refine⟨q1,q2,?_⟩;refine Classical.byContradiction λhs=>?_
 have hF:=hO.fam
 have fel:[a,d'*b*b,c,ar v]∈bY [[a,d'*b*b,c]]:=by
  have hp:0<d'*b*b:=by
   rw[KQ];refine KG hd'.1 ?_;rcases LC hb with z |z
   ·exact LR z z
   ·exact KG z z
  rw[dj];show _∈(if 0<=d'*b*b then _ else[])++(if 0<d'*b*b then _ else[]);rw[if_pos (by omega),if_pos hp];unfold ar;split
  ·exact Lz _ (KP.mpr rfl)
  ·exact Mm _ (KP.mpr rfl)
 have k1:0<ao [a,d'*b*b,c,ar v] l1 l2:=by rw[<- ke hw hc q1 q2];exact lo
 have k2:ao [a,d'*b*b,c,ar v] h1 h2<=0:=by rw[<- ke hw hc q1 q2];exact hi
 have:=hO.only _ fel k1 k2;simp at this
 exact hs this
theorem GI{s' q:List Int}{l1 l2 h1 h2 ε η:Int}(hs':Spt s')(l2p:0<l2)(h2p:0<h2)(lt:l1*h2<h1*l2)
 (hs:∀x1 x2,0<x2->l1*x2<x1*l2->x1*h2<=h1*x2->sg (hv x1 x2 q) = -ε*ao s' x1 x2)
 (hr:∀x:Rat,(l1:Rat)/(l2:Rat)<=x->x<=(h1:Rat)/(h2:Rat)->sgR (pv q x)=η*sdR s' x):η = -ε:=by
 have lr:=(cY l2p h2p).mpr lt
 have key:∀x1 x2:Int,0<x2->l1*x2<x1*l2->x1*h2<=h1*x2->ao s' x1 x2≠0->η = -ε:=λx1 x2 p a b nz=>by
  have k1:=hs x1 x2 p a b;have i1:(l1:Rat)/(l2:Rat)<(x1:Rat)/(x2:Rat):=(cY l2p p).mpr a;have i2:(x1:Rat)/(x2:Rat)<=(h1:Rat)/(h2:Rat):=Lf.mp λz=>by have:=(cY h2p p).mp z;omega
  have k2:=hr _ (KK i1) i2;rw[cn _ p,<- gB p,k1]at k2;rcases cV s' x1 x2 with z |z |z
  ·rw[z]at k2;omega
  ·exact absurd z nz
  ·rw[z]at k2;omega
 by_cases nz:ao s' h1 h2=0
 ·have m0:0<2*(l2*h2):=by have:=KG l2p h2p;omega
  have i1:l1*(2*(l2*h2))<(l1*h2+h1*l2)*l2:=by
   have:=Lo lt l2p;have e:l1*(2*(l2*h2))=l1*h2*l2+l1*h2*l2:=by grind
   have e':(l1*h2+h1*l2)*l2=l1*h2*l2+h1*l2*l2:=by grind
   omega
  have i2:(l1*h2+h1*l2)*h2<h1*(2*(l2*h2)):=by
   have:=Lo lt h2p;have e:h1*(2*(l2*h2))=h1*l2*h2+h1*l2*h2:=by grind
   have e':(l1*h2+h1*l2)*h2=l1*h2*h2+h1*l2*h2:=by grind
   omega
  refine key _ _ m0 i1 (KI i2) λz=>?_
  have:=d8 hs' m0 h2p i2 (by omega);omega
 ·exact key h1 h2 h2p lt (K6 _) nz
theorem vT{u e w:Int}(hw:1<=w):∃g:Int,0<g/\aI u e w=scL g (aJ [u,e,w]):=vR (dJ (u:=u) (e:=e) hw).1 (vU hw)
theorem oZ{g x y:Int}:∀{P:List Int},[x,y]=scL g P->∃p q,P=[p,q]/\x=g*p/\y=g*q
 | [p,q],h=>by
  have h':[x,y]=[g*p,g*q]:=h;simp at h'
  exact⟨p,q,rfl,h'.1,h'.2⟩
 | [],h=>by cases h
 | [_],h=>by have:=congrArg List.length h;simp[scL]at this
 |_::_::_::_,h=>by have:=congrArg List.length h;simp[scL]at this
theorem oY{g x y z:Int}:∀{P:List Int},[x,y,z]=scL g P->∃p q r,P=[p,q,r]/\x=g*p/\y=g*q/\z=g*r
 | [p,q,r],h=>by
  have h':[x,y,z]=[g*p,g*q,g*r]:=h;simp at h'
  exact⟨p,q,r,rfl,h'.1,h'.2.1,h'.2.2⟩
 | [],h=>by cases h
 | [_],h=>by have:=congrArg List.length h;simp[scL]at this
 | [_,_],h=>by have:=congrArg List.length h;simp[scL]at this
 |_::_::_::_::_,h=>by have:=congrArg List.length h;simp[scL]at this
theorem AJ{u e w a f c:Int}(hw:1<=w)(hc:1<=c)(z:aJ [u,e,w]=aJ [a,f,c]):u*c=a*w/\e*c*c=f*w*w:=by
 obtain⟨g,hg,r1⟩:=vT (u:=u) (e:=e) hw;obtain⟨g',hg',r2⟩:=vT (u:=a) (e:=f) hc;rw[<- z]at r2;generalize aJ [u,e,w]=P at r1 r2
 unfold aI at r1 r2
 split at r1
 ·obtain⟨p,q,rfl,e1,e2⟩:=oZ r1;split at r2
  ·obtain⟨p',q',ep,e1',e2'⟩:=oZ r2;simp at ep
   obtain⟨rfl,rfl⟩:=ep
   rename_i h1 h2
   refine⟨?_,by rw[h1,h2];grind⟩;have i1:u = -(g*p):=by omega
   have i2:a = -(g'*p):=by omega
   rw[i1,i2,e2,e2'];grind
  ·obtain⟨_,_,_,ep,_⟩:=oY r2;cases ep
 ·obtain⟨p,q,r,rfl,e1,e2,e3⟩:=oY r1;split at r2
  ·obtain⟨_,_,ep,_⟩:=oZ r2;cases ep
  ·obtain⟨p',q',r',ep,e1',e2',e3'⟩:=oY r2;simp at ep
   obtain⟨rfl,rfl,rfl⟩:=ep;have k0:0<2*(w*c):=by have:=KG (show 0<w by omega) (show 0<c by omega);omega
   have k1:u*c=a*w:=by
    refine Int.eq_of_mul_eq_mul_left (a:=2*(w*c)) (by omega) ?_;have i1:2*(w*c)*(u*c) = -(-2*w*u)*(c*c):=by grind
    have i2:2*(w*c)*(a*w) = -(-2*c*a)*(w*w):=by grind
    rw[i1,i2,e2,e3',e2',e3];grind
   refine⟨k1,?_⟩;have j1:e*c*c=(u*c)*(u*c)-(u*u-e)*(c*c):=by grind
   have j2:f*w*w=(a*w)*(a*w)-(a*a-f)*(w*w):=by grind
   rw[j1,j2,k1,e1,e3',e1',e3];grind
theorem lQ{u v w d:Int}(hd:NSq d):[u,d*v*v,w,ar v]∈spF [u,d*v*v,w]:=by
 have h0:0<=d*v*v:=by
  rw[KQ];refine KN (KI hd.1) ?_;rcases Int.le_total 0 v with z |z
  ·exact KN z z
  ·exact Ms z z
 show _∈(if 0<=d*v*v then[[u,d*v*v,w,1]]else[])++(if 0<d*v*v then[[u,d*v*v,w,-1]]else[]);rw[if_pos h0];by_cases hv:v<0
 ·have hp:0<d*v*v:=by rw[KQ];exact KG hd.1 (LR hv hv)
  rw[if_pos hp,show ar v = -1 from if_pos hv];exact Lz _ (KP.mpr rfl)
 ·rw[show ar v=1 from if_neg hv];exact Mm _ (KP.mpr rfl)
theorem zF{u v w d a b c d':Int}(hf:FacG [u,d*v*v,w])(hf':FacG [a,d'*b*b,c])(hd:NSq d)(hd':NSq d')(hw:0<w)(hc:0<c)(lt:LtS [u,d*v*v,w,ar v] [a,d'*b*b,c,ar b]){x y:Rat}(hxy:x<y)(hy:y-x<=1/2^200) :
 ¬(inC (sdR [u,d*v*v,w,ar v]) x y/\inC (sdR [a,d'*b*b,c,ar b]) x y):=by
 have m1:=lQ (u:=u) (v:=v) (w:=w) hd;have m2:=lQ (u:=a) (v:=b) (w:=c) hd';by_cases z:aJ [u,d*v*v,w]=aJ [a,d'*b*b,c]
 ·obtain⟨q1,q2⟩:=AJ (by omega) (by omega) z;have like:∀t n,ao [u,d*v*v,w,ar b] t n=ao [a,d'*b*b,c,ar b] t n:=λt n=>ke hw hc q1 q2
  by_cases hs:ar v=ar b
  ·exfalso;obtain⟨t,n,_,i1,i2⟩:=lt;rw[hs,like]at i1;omega
  ·have hv:v≠0:=λh0=>by
    subst h0;have:d'*b*b*w*w=0:=by rw[<- q2];grind
    have hb:b=0:=by
     rcases K9.mp this with y |y
     ·rcases K9.mp y with y |y
      ·rcases K9.mp y with y |y
       ·rcases K9.mp y with y |y
        ·have:=hd'.1;omega
        ·exact y
       ·exact y
      ·omega
     ·omega
    rw[hb]at hs;exact hs rfl
   have hp:0<d*v*v:=by
    rw[KQ];refine KG hd.1 ?_;rcases LC hv with z |z
    ·exact LR z z
    ·exact KG z z
   have ap:=tX (fs:=[[u,d*v*v,w]]) (λf hf0=>by rw[KP.mp hf0];exact hf) (by simp);rw[dj]at ap
   have es:spF [u,d*v*v,w]=[[u,d*v*v,w,1],[u,d*v*v,w,-1]]:=by show(if 0<=d*v*v then[[u,d*v*v,w,1]]else[])++(if 0<d*v*v then[[u,d*v*v,w,-1]]else[])=_;rw[if_pos (by omega),if_pos hp];rfl
   have hsp:∀s∈spF [u,d*v*v,w],Spt s:=λs hs=>fT (fs:=[[u,d*v*v,w]]) (λf hf0=>by rw[KP.mp hf0];exact hf.q) (by rw[dj];exact hs)
   rw[es]at ap hsp;have a1:=List.pairwise_pair.mp ap;have cut:=y7 (hsp _ (by simp)) (hsp _ (by simp)) a1 hxy hy;rintro⟨c1,c2⟩;have c2':inC (sdR [u,d*v*v,w,ar b]) x y:=⟨by have:=c2.1;unfold sdR at *;rw[like];exact this,by have:=c2.2;unfold sdR at *;rw[like];exact this⟩
   have h1:ar v=1/\ar b = -1\/ar v = -1/\ar b=1:=by
    unfold ar at hs ⊢
    split at hs<;>split at hs<;>simp_all
   rcases h1 with⟨g1,g2⟩ |⟨g1,g2⟩
   ·rw[g1]at c1;rw[g2]at c2';exact cut ⟨c1,c2'⟩
   ·rw[g1]at c1;rw[g2]at c2';exact cut ⟨c2',c1⟩
 ·have ap:=tX (fs:=[[u,d*v*v,w],[a,d'*b*b,c]]) (λf hf0=>by
   rcases KS.mp hf0 with y |y
   ·rw[y];exact hf
   ·rw[KP.mp y];exact hf') (by
   show[aJ [u,d*v*v,w],aJ [a,d'*b*b,c]].Nodup
   simp;exact z)
  have es:bY [[u,d*v*v,w],[a,d'*b*b,c]]=spF [u,d*v*v,w]++spF [a,d'*b*b,c]:=by show spF [u,d*v*v,w]++(spF [a,d'*b*b,c]++[])=_;rw[Mn]
  rw[es]at ap;have a1:=(List.pairwise_append.mp ap).2.2 _ m1 _ m2;have s1:Spt [u,d*v*v,w,ar v]:=fT (fs:=[[u,d*v*v,w]]) (λf hf0=>by rw[KP.mp hf0];exact hf.q) (by rw[dj];exact m1);have s2:Spt [a,d'*b*b,c,ar b]:=fT (fs:=[[a,d'*b*b,c]]) (λf hf0=>by rw[KP.mp hf0];exact hf'.q) (by rw[dj];exact m2);exact y7 s1 s2 a1 hxy hy
theorem yl{u v w d a b c d':Int}(hf:FacG [u,d*v*v,w])(hf':FacG [a,d'*b*b,c])(hd:NSq d)(hd':NSq d')(hw:0<w)(hc:0<c)(lt:LtS [u,d*v*v,w,ar v] [a,d'*b*b,c,ar b]){X Y P Q δ:Rat}
 (i1:0<sdR [u,d*v*v,w,ar v] X) (i2:sdR [u,d*v*v,w,ar v] Y<=0) (j1:0<sdR [a,d'*b*b,c,ar b] P) (j2:sdR [a,d'*b*b,c,ar b] Q<=0) (hX:X<Y) (hP:P<Q) (e1:Y-X<=δ) (e2:Q-P<=δ) (hδ:2*δ<=1/2^200):Y<=P:=by
 refine Lf.mp λz=>?_
 have m1:=lQ (u:=u) (v:=v) (w:=w) hd;have m2:=lQ (u:=a) (v:=b) (w:=c) hd';have s1:Cut (sdR [u,d*v*v,w,ar v]):=kh (fT (fs:=[[u,d*v*v,w]]) (λf hf0=>by rw[KP.mp hf0];exact hf.q) (by rw[dj];exact m1));have s2:Cut (sdR [a,d'*b*b,c,ar b]):=kh (fT (fs:=[[a,d'*b*b,c]]) (λf hf0=>by rw[KP.mp hf0];exact hf'.q) (by rw[dj];exact m2));obtain⟨t,n,hn,k1,k2⟩:=id lt;rw[<- cn _ hn]at k1 k2
 have g1:X<(t:Rat)/(n:Rat):=LF.mp λy=>by
  rcases MT.mp y with y |y
  ·have:=s1.m _ _ y k1;omega
  ·rw[y]at k1;omega
 have g2:(t:Rat)/(n:Rat)<Q:=LF.mp λy=>by
  rcases MT.mp y with y |y
  ·have:=s2.m _ _ y j2;omega
  ·rw[<- y]at k2;omega
 obtain⟨A,a1,a2,a3⟩:∃A:Rat,A<=X/\A<=P/\(A=X\/A=P):=by
  rcases Lk (a:=X) (b:=P)with y |y
  ·exact⟨X,KW,y,.inl rfl⟩
  ·exact⟨P,y,KW,.inr rfl⟩
 obtain⟨B,b1,b2,b3⟩:∃B:Rat,Y<=B/\Q<=B/\(B=Y\/B=Q):=by
  rcases Lk (a:=Y) (b:=Q)with y |y
  ·exact⟨Q,y,KW,.inr rfl⟩
  ·exact⟨Y,KW,y,.inl rfl⟩
 have up:∀{s:Rat->Int},Cut s->∀{x y:Rat},x<=y->0<s y->0<=s x:=λ{s} hs {x y} h h'=>by
  rcases MT.mp h with z |z
  ·refine Li.mp λq=>?_
   have:=hs.m _ _ z (by omega);omega
  ·rw[z];omega
 have dn:∀{s:Rat->Int},Cut s->∀{x y:Rat},x<=y->s x<=0->s y<=0:=λ{s} hs {x y} h h'=>by
  rcases MT.mp h with z |z
  ·have:=hs.m _ _ z h';omega
  ·rw[<- z];exact h'
 refine zF hf hf' hd hd' hw hc lt (x:=A) (y:=B) (by grind) ?_ ⟨⟨up s1 a1 i1,dn s1 b1 i2⟩,⟨up s2 a2 j1,dn s2 b2 j2⟩⟩;rcases a3 with rfl |rfl<;>rcases b3 with rfl |rfl<;>grind
theorem j0(x:Int):0<=x*x:=by
 rcases Int.le_total 0 x with h |h
 ·exact KN h h
 ·exact Ms h h
theorem yE{F S X Y:Int}(hF:0<=F)(hS:0<=S)(hX:0<=X)(fx:F<=X*X)(hy:Y<0\/Y*Y<=S)(st:F<X*X\/Y<0\/Y*Y<S) :
 (F=S->Y-X<0)/\(F<S->0<Y-X->0<=F+S-(Y-X)*(Y-X)/\4*F*S<(F+S-(Y-X)*(Y-X))*(F+S-(Y-X)*(Y-X))) /\
 (S<F->Y-X<0/\(F+S-(Y-X)*(Y-X)<0\/(F+S-(Y-X)*(Y-X))*(F+S-(Y-X)*(Y-X))<4*F*S)):=by
 refine⟨λe=>?_,λlt d=>?_,λlt=>?_⟩
 ·rcases LU Y 0 with y |y
  ·omega
  ·have:=rE hX (show Y*Y<X*X by rcases hy with h |h<;>rcases st with h' |h' |h'<;>omega);omega
 ·have y0:¬Y<0:=by omega
  have hy':=hy.resolve_left y0;obtain⟨α,ea⟩:∃α,F=X*X-α:=⟨X*X-F,by omega⟩;obtain⟨β,eb⟩:∃β,S=Y*Y+β:=⟨S-Y*Y,by omega⟩;have a0:0<=α:=by omega
  have b0:0<=β:=by omega
  have ab:0<α+β:=by rcases st with h |h |h<;>omega
  have e1:F+S-(Y-X)*(Y-X)=2*(X*Y)+β-α:=by rw[ea,eb];grind
  have m1:X*X<=X*Y:=MS (by omega) hX;rw[e1];refine⟨by have:=j0 X;omega,?_⟩;have e2:(2*(X*Y)+β-α)*(2*(X*Y)+β-α)-4*F*S=4*((Y-X)*(X*β+α*Y))+(α+β)*(α+β):=by rw[ea,eb];grind
  have p1:0<=X*β+α*Y:=by have:=KN hX b0;have:=KN a0 (show 0<=Y by omega);omega
  have p2:=KN (KI d) p1;have p3:=KG ab ab;omega
 ·have d0:Y-X<0:=by
   rcases LU Y 0 with y |y
   ·omega
   ·have:=rE hX (show Y*Y<X*X by rcases hy with h |h<;>omega);omega
  refine⟨d0,?_⟩;obtain⟨E,eE⟩:∃E,X=Y+E:=⟨X-Y,by omega⟩;have E0:0<E:=by omega
  have eD:(Y-X)*(Y-X)=E*E:=by rw[eE];grind
  rw[eD];by_cases h0:F+S-E*E<0
  ·exact .inl h0
  refine .inr ?_;have he:4*F*S-(F+S-E*E)*(F+S-E*E)=4*(S*(E*E))-(F-S-E*E)*(F-S-E*E):=by grind
  have EE:=KG E0 E0
  suffices h:(F-S-E*E)*(F-S-E*E)<4*(S*(E*E)) by omega
  by_cases hG:0<=F-S-E*E
  ·rcases LU Y 0 with y |y
   ·have:X*X<E*E:=gA hX (by omega);omega
   ·have xx:X*X=Y*Y+2*(Y*E)+E*E:=by rw[eE];grind
    have g2:F-S-E*E<2*(Y*E):=by rcases hy with h |h<;>rcases st with h' |h' |h'<;>omega
    have g3:=gA hG g2;have g4:2*(Y*E)*(2*(Y*E))=4*((Y*Y)*(E*E)):=by grind
    have g5:(Y*Y)*(E*E)<=S*(E*E):=KT (by rcases hy with h |h<;>omega) (by omega);omega
  ·obtain⟨g,eg⟩:∃g,F-S-E*E = -g:=⟨-(F-S-E*E),by omega⟩;rw[eg];have g0:0<g:=by omega
   have g1:g<=2*S:=by omega
   have g2:g<E*E:=by omega
   have k1:g*g<g*(E*E):=MV g2 g0;have k2:g*(E*E)<=2*S*(E*E):=KT g1 (by omega);have k3:2*S*(E*E)=2*(S*(E*E)):=KQ _ _ _;have k4:=KN hS (KI EE);have k5 : -g * -g=g*g:=by grind
   omega
noncomputable def psI(f s q:Int):Int:=if s>0 then aT q (0-f)else 0-aT q f
noncomputable def bI(p:Prop)[Decidable p]:Int:=if p then 1 else 0
noncomputable def crk(F S s s':Int):Int:=if 0-s*s'>0 then s*bI (F+S>0)else s*(bI (F>S)-bI (F<S))
noncomputable def cz(D F S s s':Int):Int:=if D*crk F S s s'≥0 then bI (D+crk F S s s'>0)-bI (D+crk F S s s'<0)else crk F S s s'*psI (F+S-D*D) (0-s*s') (4*F*S)
theorem fw{p:Prop}[Decidable p](h:p):bI p=1:=if_pos h
theorem cL{p:Prop}[Decidable p](h:¬p):bI p=0:=if_neg h
theorem g7{x:Int}(h:x<0):bI (x>0)-bI (x<0) = -1:=by rw[cL (by omega),fw h];rfl
theorem iA{F S s:Int}(hs:s=1\/s = -1):crk F S s s=s*(bI (F>S)-bI (F<S)):=by unfold crk;rw[if_neg (by rcases hs with rfl |rfl<;>decide)]
theorem jG{F S s s':Int}(hs:s=1\/s = -1)(e:s' = -s):crk F S s s'=s*bI (F+S>0):=by unfold crk;rw[if_pos (by rcases hs with rfl |rfl<;>subst e<;>decide)]
theorem vE{D F S:Int}(h:(F=S->D<0)/\(F<S->0<D->0<=F+S-D*D/\4*F*S<(F+S-D*D)*(F+S-D*D))/\(S<F->D<0/\(F+S-D*D<0\/(F+S-D*D)*(F+S-D*D)<4*F*S))):cz D F S 1 1 = -1/\cz D S F (-1) (-1) = -1:=by
 have c1:crk F S 1 1=bI (F>S)-bI (F<S):=by rw[iA (.inl rfl),K4]
 have c2:crk S F (-1) (-1)=bI (F>S)-bI (F<S):=by rw[iA (.inr rfl)];show -1*(bI (S>F)-bI (S<F))=bI (S<F)-bI (S>F);omega
 have key:∀k:Int,bI (F>S)-bI (F<S)=k->(0<=D*k->bI (D+k>0)-bI (D+k<0) = -1)/\(¬0<=D*k->k*(0-aT (4*F*S) (F+S-D*D)) = -1):=λk hk=>by
  rcases Mz F S with z |z |z
  ·rw[cL (by omega),fw z]at hk;have hk':k = -1:=by omega
   subst hk';refine⟨λh0=>g7 (by omega),λh0=>?_⟩;obtain⟨a1,a2⟩:=h.2.1 z (by omega);rcases bC (4*F*S) (F+S-D*D)with⟨e,g |g⟩ |⟨e,g,g'⟩ |⟨e,g⟩<;>rw[e]<;>omega
  ·rw[cL (by omega),cL (by omega)]at hk;have hk':k=0:=by omega
   subst hk';have:=h.1 z;exact⟨λ_=>g7 (by omega),λh0=>absurd (by omega) h0⟩
  ·rw[fw z,cL (by omega)]at hk;have hk':k=1:=by omega
   subst hk';obtain⟨a1,a2⟩:=h.2.2 z;refine⟨λh0=>absurd h0 (by omega),λ_=>?_⟩;rcases bC (4*F*S) (F+S-D*D)with⟨e,g⟩ |⟨e,g,g'⟩ |⟨e,g,g'⟩<;>rw[e]<;>omega
 obtain⟨k1,k2⟩:=key _ rfl;have e4:4*S*F=4*F*S:=by grind
 constructor
 ·unfold cz;rw[c1];split
  ·next z=>exact k1 z
  ·next z=>exact k2 z
 ·unfold cz;rw[c2,e4,L6 S F];split
  ·next z=>exact k1 z
  ·next z=>exact k2 z
theorem Cy{F S X Y:Int}(hF:0<=F)(hS:0<=S)(hX:0<=X)(fx:F<=X*X)(hy:Y<0)(sy:S<Y*Y):cz (Y-X) F S 1 (-1) = -1:=by
 have c1:crk F S 1 (-1)=bI (F+S>0):=by rw[jG (.inl rfl) rfl,K4]
 unfold cz;rw[c1];by_cases z:F+S>0
 ·rw[fw z,if_neg (by omega),K4];show(if(0:Int)-1 * -1>0 then aT (4*F*S) (0-(F+S-(Y-X)*(Y-X)))else _) = -1;rw[if_pos (by decide)];have e:0-(F+S-(Y-X)*(Y-X))=(X*X-F)+(Y*Y-S)+2*(X * -Y):=by grind
  rw[e];have xy:0<=X * -Y:=KN hX (by omega);have k1:F*S<=(X*X)*(Y*Y):=L9 fx (by omega) hS (j0 X);have k2:(X*X)*(Y*Y)=(X * -Y)*(X * -Y):=by grind
  have k3:4*F*S=4*(F*S):=KQ _ _ _;have k4:=gA (x:=2*(X * -Y)) (y:=X*X-F+(Y*Y-S)+2*(X * -Y)) (by omega) (by omega);have k5:2*(X * -Y)*(2*(X * -Y))=4*((X * -Y)*(X * -Y)):=by grind
  rcases bC (4*F*S) (X*X-F+(Y*Y-S)+2*(X * -Y))with⟨_,g |g⟩ |⟨_,g,g'⟩ |⟨e,g⟩<;>omega
 ·rw[cL z,if_pos (by omega)];exact g7 (by omega)
theorem Cz{F S X Y:Int}(hF:0<=F)(hS:0<=S)(fx:0<=X\/X*X<=F)(sy:Y<0\/Y*Y<S):cz (Y-X) F S (-1) 1 = -1:=by
 have c1:crk F S (-1) 1 = -bI (F+S>0):=by rw[jG (s':=1) (.inr rfl) rfl];omega
 unfold cz;rw[c1];by_cases z:F+S>0
 ·rw[fw z];split
  ·next h0=>exact g7 (by omega)
  ·next h0 =>
   have d0:0<Y-X:=by omega
   show -1*(if(0:Int) - -1*1>0 then aT (4*F*S) (0-(F+S-(Y-X)*(Y-X)))else _) = -1;rw[if_pos (by decide)];have e:0-(F+S-(Y-X)*(Y-X))=(Y-X)*(Y-X)-F-S:=by omega
   rw[e]
   have goal:(Y-X)*(Y-X)-F-S<0\/((Y-X)*(Y-X)-F-S)*((Y-X)*(Y-X)-F-S)<4*F*S:=by
    by_cases x0:0<=X
    ·left;have:=iP (x:=Y-X) (y:=Y) (by omega) (by omega);rcases sy with h |h<;>omega
    ·have fx':=fx.resolve_left x0;by_cases y0:Y<0
     ·left;have:=gA (x:=Y-X) (y := -X) (by omega) (by omega);have e2 : -X * -X=X*X:=by grind
      omega
     ·have sy':=sy.resolve_left y0;by_cases g:(Y-X)*(Y-X)-F-S<0
      ·exact .inl g
      right;have e3:(Y-X)*(Y-X)=Y*Y+X*X+2*(Y * -X):=by grind
      have g1:(Y-X)*(Y-X)-F-S<2*(Y * -X):=by omega
      have g2:=gA (by omega) g1;have g3:2*(Y * -X)*(2*(Y * -X))=4*((X*X)*(Y*Y)):=by grind
      have g4:(X*X)*(Y*Y)<=F*S:=L9 fx' (by omega) (j0 Y) hF;have g5:4*F*S=4*(F*S):=KQ _ _ _;omega
   rcases bC (4*F*S) ((Y-X)*(Y-X)-F-S)with⟨e,g⟩ |⟨e,g,g'⟩ |⟨e,g,g'⟩<;>rw[e]<;>omega
 ·rw[cL z,if_pos (by omega)];refine g7 ?_;have F0:F=0:=by omega
  have S0:S=0:=by omega
  have y0:Y<0:=by rcases sy with h |h;exact h;have:=j0 Y;omega
  have x0:0<=X:=by
   rcases fx with h |h
   ·exact h
   ·have:X*X=0:=by have:=j0 X;omega
    rcases K9.mp this with h |h<;>omega
  omega
theorem CA{D F S s s' n:Int}(hn:0<n):cz (D*n) (F*(n*n)) (S*(n*n)) s s'=cz D F S s s':=by
 have nn:=KG hn hn;have q:∀{a b:Int},a*(n*n)<b*(n*n)↔a<b:=λ{a b}=>⟨λh=>LS h (KI nn),λh=>Lo h nn⟩
 have q1:∀{a:Int},0<a*n↔0<a:=λ{a}=>⟨λh=>LS (a:=n) (by rw[Lc];exact h) (KI hn),λh=>KG h hn⟩
 have q2:∀{a:Int},a*n<0↔a<0:=λ{a}=>⟨λh=>LS (a:=n) (by rw[Lc];exact h) (KI hn),λh=>by have:=Lo h hn;omega⟩
 have c:crk (F*(n*n)) (S*(n*n)) s s'=crk F S s s':=by
  unfold crk bI
  have e1:F*(n*n)+S*(n*n)>0↔F+S>0:=by rw[<- Int.add_mul];have:=q (a:=0) (b:=F+S);rw[Lc]at this;exact this
  simp only[gt_iff_lt]at e1 ⊢;simp only[q,e1]
 have cc:crk F S s s'=0\/(crk F S s s'≠0):=by omega
 unfold cz;rw[c];have e4:4*(F*(n*n))*(S*(n*n))=4*F*S*(n*n*(n*n)):=by grind
 have e5:F*(n*n)+S*(n*n)-D*n*(D*n)=n*n*(F+S-D*D):=by grind
 have e6:psI (F*(n*n)+S*(n*n)-D*n*(D*n)) (0-s*s') (4*(F*(n*n))*(S*(n*n)))=psI (F+S-D*D) (0-s*s') (4*F*S):=by
  unfold psI;rw[e4,e5,gz nn];have:0-n*n*(F+S-D*D)=n*n*(0-(F+S-D*D)):=by grind
  rw[this,gz nn]
 rw[e6];generalize crk F S s s'=k at *
 have e7:D*n*k≥0↔D*k≥0:=by have:=q2 (a:=D*k);rw[show D*k*n=D*n*k by grind]at this;omega
 by_cases h:D*k≥0
 ·rw[if_pos h,if_pos (e7.mpr h)];rcases Mz D 0 with z |z |z
  ·have:=q2.mpr z;have hk:k<=0:=Li.mp λy=>by have:=MQ z y;omega
   rw[g7 (by omega),g7 (by omega)]
  ·subst z;rw[Lc]
  ·have:=q1.mpr z;have hk:0<=k:=Li.mp λy=>by have:=Mx z y;omega
   rw[fw (by omega),cL (by omega),fw (by omega),cL (by omega)]
 ·rw[if_neg h,if_neg λz=>h (e7.mp z)]
theorem CB{D F S s s':Int}(hs:s=1\/s = -1)(hs':s'=1\/s' = -1):cz (-D) S F s' s = -cz D F S s s':=by
 have c:crk S F s' s = -crk F S s s':=by
  rcases hs with rfl |rfl<;>rcases hs' with rfl |rfl
  ·rw[iA (.inl rfl),iA (.inl rfl)];show 1*(bI (F<S)-bI (F>S))=_;omega
  ·rw[jG (s':=1) (.inr rfl) rfl,jG (.inl rfl) rfl,L6];omega
  ·rw[jG (.inl rfl) rfl,jG (s':=1) (.inr rfl) rfl,L6];omega
  ·rw[iA (.inr rfl),iA (.inr rfl)];show -1*(bI (F<S)-bI (F>S))=_;omega
 unfold cz;rw[c];generalize crk F S s s'=k;have e1 : -D * -k=D*k:=by grind
 have e2 : -D * -D=D*D:=by grind
 have e3:4*S*F=4*F*S:=by grind
 have e4:s'*s=s*s':=K8 _ _;rw[e1,e2,e3,e4,L6 S F];split
 ·rcases Mz (D+k) 0 with z |z |z
  ·rw[fw (show -D + -k>0 by omega),cL (show ¬ -D + -k<0 by omega),cL (show ¬D+k>0 by omega),fw z];rfl
  ·rw[cL (show ¬ -D + -k>0 by omega),cL (show ¬ -D + -k<0 by omega),cL (show ¬D+k>0 by omega),cL (show ¬D+k<0 by omega)];rfl
  ·rw[cL (show ¬ -D + -k>0 by omega),fw (show -D + -k<0 by omega),fw (show D+k>0 by omega),cL (show ¬D+k<0 by omega)];rfl
 ·rw[Int.neg_mul]
noncomputable def jr(o p:List Int):Int:=cz (cf o 0*cf p 2-cf p 0*cf o 2) (cf o 1*cf p 2*cf p 2) (cf p 1*cf o 2*cf o 2) (cf o 3) (cf p 3)
theorem AE{u e b s t n c:Int}(hc:0<c)(h:ao [u,e,b,s] t n<=0)(hs:s=1\/s = -1) :
 (s=1->0<=c*(b*t-u*n)/\e*c*c*(n*n)<=c*(b*t-u*n)*(c*(b*t-u*n)))/\(s = -1->0<=c*(b*t-u*n)\/c*(b*t-u*n)*(c*(b*t-u*n))<=e*c*c*(n*n)):=by
 have cc:=KG hc hc;generalize hx:b*t-u*n=x;have e1:c*x*(c*x)=x*x*(c*c):=by grind
 have e2:e*c*c*(n*n)=e*n*n*(c*c):=by grind
 rw[e1,e2];rcases hs with rfl |rfl
 ·refine⟨λ_=>?_,λz=>absurd z (by decide)⟩;have h':aT (e*n*n) (b*t-u*n)<=0:=h;rw[hx]at h';rcases bC (e*n*n) x with⟨z,_⟩ |⟨z,g,g'⟩ |⟨z,g,g'⟩
  ·omega
  ·exact⟨KN (KI hc) g,KT (by omega) (KI cc)⟩
  ·exact⟨KN (KI hc) g,KT (by omega) (KI cc)⟩
 ·refine⟨λz=>absurd z (by decide),λ_=>?_⟩;have h':0-aT (e*n*n) (0-(b*t-u*n))<=0:=h;rw[hx]at h';have ex:(0-x)*(0-x)=x*x:=by grind
  rcases bC (e*n*n) (0-x)with⟨z,g |g⟩ |⟨z,g,g'⟩ |⟨z,g,g'⟩
  ·exact .inl (KN (KI hc) (by omega))
  ·exact .inr (KT (by omega) (KI cc))
  ·exact .inr (KT (by omega) (KI cc))
  ·omega
theorem AF{u e b s t n c:Int}(he:0<=e*n*n)(hc:0<c)(h:0<ao [u,e,b,s] t n)(hs:s=1\/s = -1) :
 (s=1->c*(b*t-u*n)<0\/c*(b*t-u*n)*(c*(b*t-u*n))<e*c*c*(n*n))/\(s = -1->c*(b*t-u*n)<0/\e*c*c*(n*n)<c*(b*t-u*n)*(c*(b*t-u*n))):=by
 have cc:=KG hc hc;generalize hx:b*t-u*n=x;have e1:c*x*(c*x)=x*x*(c*c):=by grind
 have e2:e*c*c*(n*n)=e*n*n*(c*c):=by grind
 rw[e1,e2];rcases hs with rfl |rfl
 ·refine⟨λ_=>?_,λz=>absurd z (by decide)⟩;have h':0<aT (e*n*n) (b*t-u*n):=h;rw[hx]at h';rcases bC (e*n*n) x with⟨z,g |g⟩ |⟨z,g,g'⟩ |⟨z,g,g'⟩
  ·exact .inl (Mx hc g)
  ·exact .inr (Lo g cc)
  ·omega
  ·omega
 ·refine⟨λz=>absurd z (by decide),λ_=>?_⟩;have h':0<0-aT (e*n*n) (0-(b*t-u*n)):=h;rw[hx]at h';have ex:(0-x)*(0-x)=x*x:=by grind
  rcases bC (e*n*n) (0-x)with⟨z,g |g⟩ |⟨z,g,g'⟩ |⟨z,g,g'⟩
  ·omega
  ·omega
  ·omega
  ·have x0:x<0:=by
    rcases MA (show x<=0 by omega)with y |y
    ·exact y
    ·rw[y]at ex g';omega
   exact⟨Mx hc x0,Lo (by omega) cc⟩
theorem rc{o p:List Int}(ho:Spt o)(hp:Spt p)(h:LtS o p):jr o p = -1:=by
 obtain⟨u,e,b,s,rfl,he,hb,hs⟩:=ho.is;obtain⟨a,f,c,s',rfl,hf,hc,hs'⟩:=hp.is;obtain⟨t,n,hn,h1,h2⟩:=h;have nn:=KG hn hn;have f0:0<=f*n*n:=by rw[KQ];exact KN hf (by omega)
 have k1:=AE (c:=c) (by omega) h1 hs;have k2:=AF (c:=b) f0 (by omega) h2 hs';show cz (u*c-a*b) (e*c*c) (f*b*b) s s' = -1;rw[<- CA hn];have eD:(u*c-a*b)*n=b*(c*t-a*n)-c*(b*t-u*n):=by grind
 rw[eD];have F0:0<=e*c*c*(n*n):=KN (KN (KN he (by omega)) (by omega)) (by omega);have S0:0<=f*b*b*(n*n):=KN (KN (KN hf (by omega)) (by omega)) (by omega);generalize b*(c*t-a*n)=Y at *
 generalize c*(b*t-u*n)=X at *
 generalize e*c*c*(n*n)=F at *
 generalize f*b*b*(n*n)=S at *
 rcases hs with rfl |rfl<;>rcases hs' with rfl |rfl
 ·obtain⟨i1,i2⟩:=k1.1 rfl;have i3:=k2.1 rfl;exact(vE (yE F0 S0 i1 i2 (by omega) (by omega))).1
 ·obtain⟨i1,i2⟩:=k1.1 rfl;obtain⟨i3,i4⟩:=k2.2 rfl;exact Cy F0 S0 i1 i2 i3 i4
 ·exact Cz F0 S0 (k1.2 rfl) (k2.1 rfl)
 ·have i1:=k1.2 rfl;obtain⟨i3,i4⟩:=k2.2 rfl;have ey : -Y * -Y=Y*Y:=by grind
  have ex : -X * -X=X*X:=by grind
  have:=(vE (yE (X := -Y) (Y := -X) S0 F0 (by omega) (by omega) (by rcases i1 with h |h;by_cases x:X=0;right;rw[x];omega;left;omega;right;omega) (by left;omega))).2;rw[show -X - -Y=Y-X by omega]at this;exact this
theorem wv{o p:List Int}(ho:Spt o)(hp:Spt p)(h:LtS p o):jr o p=1:=by have h1:=rc hp ho h;obtain⟨u,e,b,s,rfl,he,hb,hs⟩:=ho.is;obtain⟨a,f,c,s',rfl,hf,hc,hs'⟩:=hp.is;have h2:cz (a*b-u*c) (f*b*b) (e*c*c) s' s = -1:=h1;have h3:=CB (D:=a*b-u*c) (F:=f*b*b) (S:=e*c*c) hs' hs;rw[h2,show -(a*b-u*c)=u*c-a*b by omega]at h3;exact h3
theorem wx{u e b a f c s:Int}(hs:s=1\/s = -1)(h1:u*c=a*b)(h2:e*c*c=f*b*b):jr [u,e,b,s] [a,f,c,s]=0:=by show cz (u*c-a*b) (e*c*c) (f*b*b) s s=0;unfold cz;rw[iA hs,h1,h2,Int.sub_self,cL (by omega),cL (by omega),Int.sub_self,KO,if_pos (by decide)];rfl
noncomputable def ce(l:List Int)(t n:Int):Int:=ao l t n
def SpK(l:List Int):Prop:=∃u e b s:Int,l=[u,e,b,s] /\ -11<=u/\u<=11/\0<=e/\e<36/\1<=b/\b<=3/\(s=1\/s = -1/\0<e)
theorem tY{u e b s:Int}(he:0<=e)(hb:1<=b)(hs:s=1\/s = -1/\0<e):Spt [u,e,b,s]:=⟨u,e,b,s,rfl,he,hb,by rcases hs with h |h;exact .inl h;exact .inr h.1⟩
theorem SpK.spt{l:List Int}(h:SpK l):Spt l:=by obtain⟨u,e,b,s,rfl,_,_,he,_,hb,_,hs⟩:=h;exact tY he hb hs
theorem SpK.first{l:List Int}(h:SpK l):0<ce l (-64) 1/\ce l 64 1<=0:=by
 obtain⟨u,e,b,s,rfl,h1,h2,he,he',hb,hb',hs⟩:=h
 have q:∀x:Int,50<=x->e<x*x:=λx hx=>by have:=L9 hx hx (by decide) (by omega);omega
 show 0<ao [u,e,b,s] (-64) 1/\ao [u,e,b,s] 64 1<=0;rcases hs with rfl |⟨rfl,ep⟩
 ·have e1:ao [u,e,b,1] (-64) 1=aT (e*1*1) (b * -64-u*1):=rfl;have e2:ao [u,e,b,1] 64 1=aT (e*1*1) (b*64-u*1):=rfl;rw[e1,e2,Le,Le,Le];rcases bC e (b * -64-u)with⟨z,_⟩ |⟨z,y,_⟩ |⟨z,y,_⟩<;>rcases bC e (b*64-u)with⟨w,v⟩ |⟨w,_⟩ |⟨w,_⟩<;>rw[z,w]<;>try omega
  have:=q (b*64-u) (by omega);omega
 ·have e1:ao [u,e,b,-1] (-64) 1=0-aT (e*1*1) (0-(b * -64-u*1)):=rfl;have e2:ao [u,e,b,-1] 64 1=0-aT (e*1*1) (0-(b*64-u*1)):=rfl;rw[e1,e2,Le,Le,Le];have:=q (0-(b * -64-u)) (by omega);rcases bC e (0-(b * -64-u))with⟨z,y⟩ |⟨z,_,y⟩ |⟨z,_,y⟩<;>rcases bC e (0-(b*64-u))with⟨w,_⟩ |⟨w,v,_⟩ |⟨w,v,_⟩<;>rw[z,w]<;>omega
noncomputable def hfG(l:List Int)(s:Int×Int×Int):Int×Int×Int:=if ce l (s.1+s.2.1) (2*s.2.2)<=0 then(2*s.1,s.1+s.2.1,2*s.2.2)else(s.1+s.2.1,2*s.2.1,2*s.2.2)
noncomputable def itG(l:List Int):Nat->Int×Int×Int
 |0=>(-64,64,1)
 |j+1=>hfG l (itG l j)
structure SpG(l:List Int)(s:Int×Int×Int)(j:Nat):Prop where
 n:s.2.2=2^j
 w:s.2.1=s.1+128
 lo : -64*s.2.2<=s.1
 hi:s.2.1<=64*s.2.2
 lp:0<ce l s.1 s.2.2
 hn:ce l s.2.1 s.2.2<=0
theorem SpG.pos{l:List Int}{s:Int×Int×Int}{j:Nat}(S:SpG l s j):0<s.2.2:=by rw[S.n];exact Mj (by decide)
theorem SpG.half{l:List Int}{s:Int×Int×Int}{j:Nat}(S:SpG l s j):SpG l (hfG l s) (j+1):=by
 have p:=S.pos;obtain⟨n,w,l',hh,lp,hn⟩:=S;have e2:2*s.2.2=2^(j+1):=by rw[n,K5,K8]
 have tw:∀t m,ce l (2*t) (2*m)=ce l t m:=λt m=>oE l (by decide)
 unfold hfG;split
 ·next z=>exact⟨e2,by show s.1+s.2.1=2*s.1+128;omega,by show -64*(2*s.2.2)<=2*s.1;omega,by show s.1+s.2.1<=64*(2*s.2.2);omega,by show 0<ce l (2*s.1) (2*s.2.2);rw[tw];exact lp,z⟩
 ·next z=>exact⟨e2,by show 2*s.2.1=s.1+s.2.1+128;omega,by show -64*(2*s.2.2)<=s.1+s.2.1;omega,by show 2*s.2.1<=64*(2*s.2.2);omega,by show 0<ce l (s.1+s.2.1) (2*s.2.2);omega,by show ce l (2*s.2.1) (2*s.2.2)<=0;rw[tw];exact hn⟩
theorem dD{l:List Int}(h:SpK l):∀j,SpG l (itG l j) j
 |0=>⟨rfl,rfl,by show(-64:Int)*1 <= -64;decide,by show(64:Int)<=64*1;decide,h.first.1,h.first.2⟩
 |j+1=>(dD h j).half
def fA(ls:List (List Int))(l:List Int)(s:Int×Int×Int):Prop:=∀x∈ls,x≠l->¬(0<=ce x s.1 s.2.2/\ce x s.2.1 s.2.2<=0)
def InS(s t:Int×Int×Int):Prop:=s.1*t.2.2<=t.1*s.2.2/\t.2.1*s.2.2<=s.2.1*t.2.2
theorem InS.refl(s:Int×Int×Int):InS s s:=⟨K6 _,K6 _⟩
theorem xu{x y p q r s:Int}(hq:0<q)(hp:0<=p)(hs:0<=s)(h1:x*q<=y*p)(h2:y*s<=r*q):x*s<=r*p:=by
 refine MU (a:=q) ?_ hq;have a1:=KT h1 hs;have a2:=KT h2 hp;have e1:x*s*q=x*q*s:=by grind
 have e2:y*p*s=y*s*p:=by grind
 have e3:r*q*p=r*p*q:=by grind
 omega
theorem InS.trans{s t u:Int×Int×Int}(ps:0<s.2.2)(pt:0<t.2.2)(pu:0<u.2.2)(h1:InS s t)(h2:InS t u):InS s u :=
 ⟨xu pt (KI ps) (KI pu) h1.1 h2.1,xu pt (KI pu) (KI ps) h2.2 h1.2⟩
theorem InG{l:List Int}{s:Int×Int×Int}{j:Nat}(S:SpG l s j):InS s (hfG l s):=by
 have p:=S.pos;have w:=S.w;unfold hfG InS;split
 ·refine⟨by show s.1*(2*s.2.2)<=2*s.1*s.2.2;exact Int.le_of_eq (by grind),?_⟩;show(s.1+s.2.1)*s.2.2<=s.2.1*(2*s.2.2);have:=KT (show s.1+s.2.1<=s.2.1*2 by omega) (KI p);rw[KQ]at this;exact this
 ·refine⟨?_,by show 2*s.2.1*s.2.2<=s.2.1*(2*s.2.2);exact Int.le_of_eq (by grind)⟩;show s.1*(2*s.2.2)<=(s.1+s.2.1)*s.2.2;have:=KT (show s.1*2<=s.1+s.2.1 by omega) (KI p);rw[KQ]at this;exact this
theorem Hq{ls:List (List Int)}(hk:∀x∈ls,SpK x){l:List Int}{s:Int×Int×Int}{j:Nat}(S:SpG l s j)(hA:fA ls l s):fA ls l (hfG l s):=λx hx ne z=>by
 have p:=S.pos;have p2:=S.half.pos;have I:=InG S;have sp:=(hk x hx).spt;refine hA x hx ne ⟨?_,oG sp p2 p I.2 z.2⟩;refine Li.mp λy=>?_
 have y':ao x s.1 s.2.2<0:=y;have z1:0<=ao x (hfG l s).1 (hfG l s).2.2:=z.1;rcases MA I.1 with q |q
 ·have:=d8 sp p p2 q (by omega);omega
 ·rw[fU x p p2 q]at y';omega
end RM
open PySem.W in
local macro_rules | `(tactic|walk_at "comp_ok")=>`(tactic|exact⟨by with_unfolding_all rfl,by decide +kernel,rfl,by decide +kernel,by repeat' (first |exact List.forall_mem_nil _ |refine List.forall_mem_cons.2 ⟨rfl,?_⟩),by rfl,by repeat' (first |exact .nil |refine .cons ⟨rfl,by first |exact Or.inl rfl |exact Or.inr rfl,rfl⟩ ?_)⟩)
namespace R85
open PySem L2 RM
noncomputable def top(i:Nat):Stmt:=PySem.Challenge.pw_rootspan_k85_papers_by_hand.main.body.getD i (.Pass ⟨0,0,0,0⟩)
abbrev pp:Stmt:=top 6
abbrev pk:Stmt:=top 7
abbrev o0:Stmt:=top 8
abbrev jc:Stmt:=jy (top 9) 0
abbrev qQ:Stmt:=jy (top 9) 1
abbrev qR:Stmt:=jy (top 9) 2
abbrev qO:Stmt:=jy (top 9) 3
abbrev qS:Stmt:=jy (top 9) 5
abbrev pB:Stmt:=top 11
abbrev pN:Stmt:=top 12
abbrev pZ:Stmt:=top 13
abbrev o5:Stmt:=top 14
abbrev pS:Stmt:=top 15
abbrev pF:Stmt:=top 16
abbrev o9:Stmt:=top 17
abbrev mF:Stmt:=top 18
abbrev pC:Stmt:=top 19
abbrev o3:Stmt:=top 20
abbrev pd:Stmt:=top 21
abbrev pM:Stmt:=top 23
abbrev pz:Stmt:=top 24
abbrev pH:Stmt:=top 25
abbrev pL:Stmt:=top 27
abbrev pR:Stmt:=top 28
abbrev pA:Stmt:=top 30
abbrev pU:Stmt:=top 31
abbrev pO:Stmt:=top 32
abbrev o4:Stmt:=top 34
abbrev pj:Stmt:=top 35
abbrev pi:Stmt:=top 36
abbrev pI:Stmt:=top 37
abbrev pT:Stmt:=top 38
abbrev pE:Stmt:=top 40
abbrev pJ:Stmt:=top 41
abbrev o6:Stmt:=top 42
abbrev pK:Stmt:=top 43
abbrev o7:Stmt:=top 44
abbrev pG:Stmt:=top 45
abbrev pW:Stmt:=top 46
abbrev qT:Stmt:=jy (top 48) 0
abbrev o8:Stmt:=top 49
abbrev pY:Stmt:=top 50
abbrev pV:Stmt:=top 51
abbrev pQ:Stmt:=top 52
abbrev ph:Stmt:=top 53
abbrev pD:Stmt:=top 55
abbrev pX:Stmt:=top 56
abbrev px:Stmt:=top 57
abbrev qK:Stmt:=top 59
abbrev qA:Stmt:=top 60
abbrev qG:Stmt:=top 61
abbrev mH:Stmt:=top 62
abbrev qp:Stmt:=top 63
abbrev qH:Stmt:=top 64
abbrev qk:Stmt:=top 65
abbrev qg:Stmt:=top 66
abbrev qj:Stmt:=top 67
abbrev ql:Stmt:=top 68
abbrev qt:Stmt:=top 69
abbrev qu:Stmt:=top 70
abbrev qz:Stmt:=top 71
abbrev qc:Stmt:=top 72
abbrev mI:Stmt:=top 73
abbrev qF:Stmt:=top 74
abbrev qi:Stmt:=top 75
abbrev qw:Stmt:=top 76
abbrev qo:Stmt:=top 77
abbrev qe:Stmt:=top 78
abbrev p8:Stmt:=top 79
abbrev qf:Stmt:=top 80
abbrev qE:Stmt:=top 81
abbrev qm:Stmt:=top 82
abbrev qD:Stmt:=top 83
abbrev qL:Stmt:=top 84
abbrev qC:Stmt:=top 85
abbrev qJ:Stmt:=top 86
abbrev qB:Stmt:=top 87
abbrev qr:Stmt:=top 88
abbrev qv:Stmt:=top 89
abbrev qI:Stmt:=top 90
abbrev qM:Stmt:=top 91
abbrev qh:Stmt:=top 92
abbrev qd:Stmt:=top 93
abbrev qN:Stmt:=top 94
abbrev mG:Stmt:=top 95
theorem scM{N P:List Str}{sc:Scope}(a:sc.kind=.function:=by rfl)(b:sc.isCoroutine=false:=by rfl)(c:sc.isGenerator=false:=by rfl)(e:N.Nodup:=by decide +kernel)(f:N.take P.length=P:=by rfl)(g:∀x∈P,sc.names.lookup x=some .local\/sc.names.lookup x=some .cell:=by decide +kernel)(h:∀y∈sc.names,y.2≠.free:=by decide +kernel):FnScope N P sc:=⟨a,b,c,e,f,g,h⟩
theorem mx:FnScope ["row","divisor","value"] ["row"] (aC pp):=scM
theorem iW:FnScope ["one","other","greater","less","rest"] ["one","other"] (aC pk):=scM
theorem AY:FnScope ["value"] ["value"] (aC o0):=scM
theorem oX:FnScope ["self","top","bottom","divisor"] ["self","top","bottom"] (aC jc):=scM
theorem Bw:FnScope ["self","other"] ["self","other"] (aC qQ):=scM
theorem By:FnScope ["self","other"] ["self","other"] (aC qR):=scM
theorem Bv:FnScope ["self","other"] ["self","other"] (aC qO):=scM
theorem Bz:FnScope ["self","other"] ["self","other"] (aC qS):=scM
theorem oN:FnScope ["row","length"] ["row"] (aC pB):=scM
theorem Bb:FnScope ["row"] ["row"] (aC pN):=scM
theorem vz:FnScope ["first","second","length"] ["first","second"] (aC pZ):=scM
theorem vt:FnScope ["first","second","length"] ["first","second"] (aC o5):=scM
theorem Bf:FnScope ["row","place"] ["row","place"] (aC pS):=scM
theorem iX:FnScope ["first","second","product","j","one","k","other"] ["first","second"] (aC pF):=scM
theorem A3:FnScope ["row"] ["row"] (aC o9):=scM
theorem vv:FnScope ["row","divisor"] ["row"] (aC mF):=scM
theorem vx:FnScope ["row","small"] ["row"] (aC pC):=scM
theorem iV:FnScope ["row","top","bottom","above","below","value"] ["row","top","bottom"] (aC o3):=scM
theorem A4:FnScope ["row","ratio"] ["row","ratio"] (aC pd):=scM
theorem ek:FnScope ["first","second","size","sign","steps","factor","quotient","rest","place","lead"] ["first","second"] (aC pM):=scM
theorem A7:FnScope ["row","factor"] ["row","factor"] (aC pz):=scM
theorem mC:FnScope ["row","second","place","lead","kept","k","value"] ["row","second","place","lead"] (aC pH):=scM
theorem A9:FnScope ["divisor","row"] ["divisor","row"] (aC pL):=scM
theorem iZ:FnScope ["first","second","one","other","rest"] ["first","second"] (aC pR):=scM
theorem g9:FnScope ["first","second","row","one","other","rest"] ["first","second"] (aC pA):=scM
theorem hI:FnScope ["row","ratio","many","before","polynomial","sign"] ["row","ratio"] (aC pU):=scM
theorem Bc:FnScope ["row","low","high"] ["row","low","high"] (aC pO):=scM
theorem AZ:FnScope ["first","second","paper"] ["first","second","paper"] (aC o4):=scM
theorem vw:FnScope ["first","second","paper","shared_part"] ["first","second","paper"] (aC pj):=scM
theorem A6:FnScope ["one","low","high"] ["one","low","high"] (aC pi):=scM
theorem A8:FnScope ["one","low","high"] ["one","low","high"] (aC pI):=scM
theorem vy:FnScope ["polynomial","low","high","start"] ["polynomial","low","high"] (aC pT):=scM
theorem mz:FnScope ["row","low","high","width","reach","steps","found"] ["row","low","high","width"] (aC pE):=scM
theorem iY:FnScope ["reach","width","wide","goal","steps"] ["reach","width"] (aC pJ):=scM
theorem fV:FnScope ["row","low","reach","bottom","start","step","found","power","value"] ["row","low","reach"] (aC o6):=scM
theorem dL:FnScope ["row","end","steps","place","pieces","ahead","left","k","there"] ["row","end","steps"] (aC pK):=scM
theorem ki:FnScope ["row","found","factor","value"] ["row"] (aC o7):=scM
theorem mB:FnScope ["row","found","start","k"] ["row"] (aC pG):=scM
theorem Bh:FnScope ["low","reach","place","pieces"] ["low","reach","place","pieces"] (aC pW):=scM
theorem BA:FnScope ["self","row","low","high"] ["self","row","low","high"] (aC qT):=scM
theorem A1:FnScope ["one","width"] ["one","width"] (aC o8):=scM
theorem Bi:FnScope ["one","ratio"] ["one","ratio"] (aC pY):=scM
theorem Bg:FnScope ["one","sign"] ["one","sign"] (aC pV):=scM
theorem Be:FnScope ["first","second"] ["first","second"] (aC pQ):=scM
theorem A5:FnScope ["row","one"] ["row","one"] (aC ph):=scM
theorem my:FnScope ["first","second","order","spans"] ["first","second"] (aC pD):=scM
theorem oO:FnScope ["first","second","low","high"] ["first","second"] (aC pX):=scM
theorem g8:FnScope ["less","greater","width","one","other"] ["less","greater"] (aC px):=scM
theorem Bu:FnScope ["_law_script","_law_k"] ["_law_script","_law_k"] (aC qK):=scM
theorem sc__law_mul:FnScope ["_law_kp","_law_kq","_law_made","_law_i","_law_one","_law_j","_law_other"] ["_law_kp","_law_kq"] (aC qA):=scM
theorem i0:FnScope ["_law_a","_law_b","_law_rest_here"] ["_law_a","_law_b"] (aC qG):=scM
theorem mD:FnScope ["_law_kp","_law_most","_law_one"] ["_law_kp"] (aC mH):=scM
theorem vA:FnScope ["_law_kp","_law_made"] ["_law_kp"] (aC qp):=scM
theorem kl:FnScope ["_law_cell","_law_most","_law_u","_law_b","_law_n","_law_e"] ["_law_cell","_law_most"] (aC qH):=scM
theorem oS:FnScope ["_law_factor","_law_u","_law_b"] ["_law_factor"] (aC qk):=scM
theorem Bk:FnScope ["_law_square","_law_due"] ["_law_square","_law_due"] (aC qg):=scM
theorem oR:FnScope ["_law_spot","_law_top","_law_bottom","_law_due","_law_square"] ["_law_spot","_law_top","_law_bottom"] (aC qj):=scM
theorem oT:FnScope ["_law_factors","_law_made","_law_one"] ["_law_factors"] (aC ql):=scM
theorem Bn:FnScope ["_law_flat","_law_sign","_law_square"] ["_law_flat","_law_sign","_law_square"] (aC qt):=scM
theorem ia:FnScope ["_law_one","_law_other","_law_flat","_law_first","_law_second","_law_mixed","_law_crooked"] ["_law_one","_law_other"] (aC qu):=scM
theorem Bp:FnScope ["_law_a","_law_b","_law_c","_law_m","_law_cubes"] ["_law_a","_law_b","_law_c","_law_m"] (aC qz):=scM
theorem oP:FnScope ["_law_spot","_law_top","_law_bottom","_law_first","_law_second"] ["_law_spot","_law_top","_law_bottom"] (aC qc):=scM
theorem mE:FnScope ["_law_spots","_law_spot","_law_span_here","_law_other","_law_low","_law_high"] ["_law_spots","_law_spot","_law_span_here"] (aC mI):=scM
theorem vD:FnScope ["_law_span_here","_law_spot","_law_middle"] ["_law_span_here","_law_spot"] (aC qF):=scM
theorem kj:FnScope ["_law_spots","_law_spot","_law_more","_law_span_here","_law_k"] ["_law_spots","_law_spot","_law_more"] (aC qi):=scM
theorem Bo:FnScope ["_law_kp","_law_span_here"] ["_law_kp","_law_span_here"] (aC qw):=scM
theorem Bm:FnScope ["_law_factor"] ["_law_factor"] (aC qo):=scM
theorem fD:FnScope ["_law_script","_law_first","_law_one","_law_other","_law_ones","_law_others","_law_left","_law_right"] ["_law_script"] (aC qe):=scM
theorem Bj:FnScope ["_law_found"] ["_law_found"] (aC p8):=scM
theorem oQ:FnScope ["_law_row","_law_size"] ["_law_row"] (aC qf):=scM
theorem vC:FnScope ["_law_found","_law_one"] ["_law_found"] (aC qE):=scM
theorem sc__law_rest:FnScope ["_law_kp","_law_kq","_law_left","_law_gap","_law_top","_law_k","_law_one"] ["_law_kp","_law_kq"] (aC qm):=scM
theorem Bs:FnScope ["_law_found"] ["_law_found"] (aC qD):=scM
theorem i9:FnScope ["_law_kp","_law_top","_law_bottom","_law_made","_law_scale","_law_one"] ["_law_kp","_law_top","_law_bottom"] (aC qL):=scM
theorem Br:FnScope ["_law_r","_law_s"] ["_law_r","_law_s"] (aC qC):=scM
theorem oV:FnScope ["_law_kp","_law_low","_law_high","_law_here","_law_there"] ["_law_kp","_law_low","_law_high"] (aC qJ):=scM
theorem Bq:FnScope ["_law_low","_law_high","_law_n"] ["_law_low","_law_high","_law_n"] (aC qB):=scM
theorem oU:FnScope ["_law_paper","_law_a","_law_b","_law_due","_law_one","_law_kg"] ["_law_paper","_law_a","_law_b","_law_due"] (aC qr):=scM
theorem vB:FnScope ["_law_span_here","_law_spot","_law_middle"] ["_law_span_here","_law_spot"] (aC qv):=scM
theorem Bt:FnScope ["_law_span_here"] ["_law_span_here"] (aC qI):=scM
theorem oW:FnScope ["_law_span_here","_law_left","_law_other","_law_right"] ["_law_span_here","_law_left","_law_other","_law_right"] (aC qM):=scM
theorem Bl:FnScope ["_law_span_here","_law_spot","_law_wide","_law_way_here"] ["_law_span_here","_law_spot","_law_wide","_law_way_here"] (aC qh):=scM
theorem eu:FnScope ["_law_a","_law_b","_law_numbers_by","_law_due","_law_way_here","_law_turn","_law_left","_law_right","_law_spans","_law_word","_law_back","_law_ones","_law_others","_law_found"] ["_law_a","_law_b","_law_numbers_by","_law_due","_law_way_here","_law_turn"] (aC qd):=scM
theorem fc:FnScope ["_law_a","_law_b","_law_numbers_by","_law_kp","_law_many","_law_way_here","_law_span_here","_law_k","_law_kg","_law_ends_here","_law_found"] ["_law_a","_law_b","_law_numbers_by","_law_kp","_law_many","_law_way_here"] (aC qN):=scM
theorem cW:FnScope ["_law_script","_law_both","_law_span_here","_law_other","_law_kp","_law_a","_law_b","_law_due","_law_numbers_by","_law_many","_law_found","_law_one","_law_paper","_law_back"] ["_law_script"] (aC mG):=scM
structure Txt(K:PySem.W.Frag)(mg:Str->Option Value):Prop where
 abs_:mg "abs"=none
 len_:mg "len"=none
 max_:mg "max"=none
 range_:mg "range"=none
 enumerate_:mg "enumerate"=none
 reversed_:mg "reversed"=none
 list_:mg "list"=none
 all_:mg "all"=none
 sum_:mg "sum"=none
 int_:mg "int"=none
 isinstance_:mg "isinstance"=none
 bool_:mg "bool"=none
 tuple_:mg "tuple"=none
def lW(K:PySem.W.Frag):Sp:=λvs H Q _=>∃(a:Addr) (ns:List Int),vs=[.ref a]/\SqL K H a (ns.map V.int)/\ns.length<=63/\∀H',Q (.bl true) H'
section
variable {P:Program}{w:World}{K:PySem.W.Frag}{mg:Str->Option Value}{base:Heap}
theorem vL(n:Nat):(List.replicate n [V.int 0]).flatten=(List.replicate n (0:Int)).map V.int:=by
 induction n with
 |zero=>rfl
 |succ n ih=>rw[L4,MD,ih,L4];rfl
theorem jv{n j:Nat}{i:Int}(e:i=j)(h:j<n):ixN n i=some j:=by subst e;unfold ixN;rw[if_pos (Mw _),if_pos (by omega)];simp
theorem kL(l:List Int)(j:Nat)(x:Int):(l.map V.int).set j (.int x)=(l.set j x).map V.int:=by rw[List.map_set]
theorem lg{l:List Int}{j:Nat}{i:Int}(e:i=j)(h:j<l.length):atI (l.map V.int) i=some (.int (cf l j)):=by subst e;exact gO (by rw[List.getElem?_map,fm h];rfl)
def SameB(p:Addr)(H H':Hp):Prop:=∀b o,b≠p->H b=some o->H' b=some o
theorem SameB.refl(p:Addr)(H:Hp):SameB p H H:=λ_ _ _ h=>h
theorem SameB.then_new{p q:Addr}{H H1:Hp}{o:HO}(s:SameB p H H1)(h:H1 q=none):SameB p H (upd H1 q o):=λb u n e=>by rw[upd_ne (aX (s b u n e) h)];exact s b u n e
theorem SameB.then_upd{p:Addr}{H H1:Hp}{o:HO}(s:SameB p H H1):SameB p H (upd H1 p o):=λb u n e=>by rw[upd_ne n];exact s b u n e
def AllB(k:Nat)(l:List Int):Prop:=∀x∈l,Bits k x
theorem AllB.cf{k:Nat}{l:List Int}(h:AllB k l)(n:Nat):Bits k (cf l n):=by
 by_cases hn:n<l.length
 ·rw[da hn];exact h _ (Mr hn)
 ·rw[bV (LA hn)];exact Bits.zero
theorem fh{H H2:Hp}{p:Addr}{o:HO}(s:Same H H2)(hp:H p=none):Same H (upd H2 p o):=λb u e=>by rw[upd_ne (aX e hp)];exact s b u e
theorem EW(l:List Int)(x:Int):l.map V.int++[V.int x]=(l++[x]).map V.int:=by rw[Lu];rfl
noncomputable def jF(ms:List Int)(lo hi:Option Int):List Int:=(ms.drop (HT.sIx ms.length 0 lo)).take (HT.sIx ms.length ms.length hi-HT.sIx ms.length 0 lo)
theorem yB(ms:List Int)(lo hi:Option Int):dY (ms.map V.int) lo hi=(jF ms lo hi).map V.int:=by unfold dY jF;rw[KF,<- List.map_drop,<- List.map_take]
theorem GW{ms:List Int}{lo hi:Option Int}{x:Int}(h:x∈jF ms lo hi):x∈ms:=ML (List.mem_of_mem_take h)
theorem AllB.cut{k:Nat}{ms:List Int}{lo hi:Option Int}(h:AllB k ms):AllB k (jF ms lo hi):=λx hx=>h x (GW hx)
theorem AllB.app{k:Nat}{l r:List Int}(h1:AllB k l)(h2:AllB k r):AllB k (l++r):=λx hx=>(L1.mp hx).elim (h1 x) (h2 x)
theorem AllB.zeros{k n:Nat}:AllB k (List.replicate n 0):=λx hx=>by rw[List.eq_of_mem_replicate hx];exact Bits.zero
theorem AllB.mono{j k:Nat}{l:List Int}(h:AllB j l)(hk:j<=k:=by decide):AllB k l:=λx hx=>(h x hx).mono hk
theorem AllB.nil{k:Nat}:AllB k []:=λ_ h=>nomatch h
theorem AllB.snoc{k:Nat}{l:List Int}{x:Int}(h:AllB k l)(hx:Bits k x):AllB k (l++[x]):=h.app λy hy=>by rw[KP.mp hy];exact hx
theorem ET{l:List Int}{x:Int}(h:x∈trim l):x∈l:=by
 unfold trim at h
 rw[List.mem_reverse]at h;exact List.mem_reverse.mp ((List.dropWhile_sublist _).subset h)
theorem AllB.trim{k:Nat}{l:List Int}(h:AllB k l):AllB k (trim l):=λx hx=>h x (ET hx)
theorem fJ{l:List Int}{i:Nat}{x:V}(h:(l.map V.int)[i]?=some x):∃c,l[i]?=some c/\x=.int c/\c∈l/\l.take (i+1)=l.take i++[c]:=by
 rw[List.getElem?_map]at h;cases e:l[i]? with
 |none=>rw[e]at h;cases h
 |some c=>rw[e]at h;exact⟨c,rfl,(Option.some.inj h).symm,List.mem_of_getElem? e,by rw[LQ,e];rfl⟩
section
variable {σ:St}{H:Hp}{Q:VK}{i:Nat}{k:Int}{p:Addr}{xs:List V}{v:V}
theorem au(hp:SqT K H p xs)(ha:atI xs k=some v)(hσ:σ[i]?=some (some (V.ref p)))(h:Q v H):tOp (jf K) (fS i) (tC (.int k)) σ H Q:=⟨_,hσ,p,xs,k,v,rfl,rfl,hp,ha,h⟩
theorem aY(hp:SqL K H p xs)(ha:atI xs k=some v)(hσ:σ[i]?=some (some (V.ref p)))(h:Q v H):tOp (mM K) (fS i) (tC (.int k)) σ H Q:=⟨_,hσ,p,xs,k,v,rfl,rfl,hp,ha,h⟩
end
theorem ae{R:Int->Int->Prop}{a b:Int}(h:R a b):∃i j,V.int a=.int i/\V.int b=.int j/\R i j:=⟨a,b,rfl,rfl,h⟩
def mkL(H:Hp)(Q:VK)(r:List Int):Prop:=∀(p:Addr) (H':Hp),Same H H'->H p=none->H' p=some (.lst (r.map V.int))->Q (.ref p) H'
def gW(K:PySem.W.Frag):Sp:=λvs H Q _=>∃(a:Addr) (ns:List Int),vs=[.ref a]/\SqL K H a (ns.map V.int)/\mkL H Q (trim ns)
def iR(K:PySem.W.Frag):Sp:=λvs H Q _=>∃(a:Addr) (ns:List Int) (k:Nat),vs=[.ref a,.int k]/\SqL K H a (ns.map V.int)/\Q (.int (ns.getD k 0)) H
def me(K:PySem.W.Frag)(g:List Int->List Int->List Int):Sp:=λvs H Q _=>∃(a b:Addr) (xs ys:List Int),vs=[.ref a,.ref b]/\SqL K H a (xs.map V.int)/\SqL K H b (ys.map V.int)/\xs.length<=1000000/\ys.length<=1000000/\mkL H Q (g xs ys)
theorem xn(i j:Nat):(if((j:Nat):Int)>((i:Nat):Int)then((j:Nat):Int)else((i:Nat):Int))=((max i j:Nat):Int):=by split<;>omega
theorem mh{n:Nat}(h:n<=sizeLine) : -(2^62)<=((n:Nat):Int)/\((n:Nat):Int)<2^62:=by have:=sizeLine_eq;omega
def RwH(H:Hp)(ps:List Addr)(xss:List (List Int)):Prop:=ps.length=xss.length/\∀(i:Nat) (p:Addr) (xs:List Int),ps[i]?=some p->xss[i]?=some xs->H p=some (.lst (xs.map V.int))
theorem RwH.nil{H:Hp}:RwH H [] []:=⟨rfl,λi p xs h=>by simp at h⟩
theorem RwH.same{H H':Hp}{ps:List Addr}{xss:List (List Int)}(h:RwH H ps xss)(s:Same H H'):RwH H' ps xss:=⟨h.1,λi p xs a b=>s _ _ (h.2 i p xs a b)⟩
theorem RwH.snoc{H:Hp}{ps:List Addr}{xss:List (List Int)}{p:Addr}{xs:List Int}(h:RwH H ps xss)(hp:H p=some (.lst (xs.map V.int))):RwH H (ps++[p]) (xss++[xs]):=by
 refine⟨by rw[Lb,Lb,h.1];rfl,λi q ys a b=>?_⟩;by_cases hi:i<ps.length
 ·rw[List.getElem?_append_left hi]at a;rw[List.getElem?_append_left (by rw[<- h.1];exact hi)]at b;exact h.2 i q ys a b
 ·rw[List.getElem?_append_right (by omega)]at a;rw[List.getElem?_append_right (by rw[<- h.1];omega),<- h.1]at b;by_cases h0:i-ps.length=0
  ·rw[h0]at a b;obtain rfl:p=q:=by simpa using a
   obtain rfl:xs=ys:=by simpa using b
   exact hp
  ·rw[List.getElem?_eq_none_iff.mpr (by simp;omega)]at a;cases a
theorem RwH.of_get{H:Hp}{ps:List Addr}{xss:List (List Int)}{i:Nat}{x:V}(h:RwH H ps xss)(hx:(ps.map V.ref)[i]?=some x):∃p xs,x=.ref p/\ps[i]?=some p/\xss[i]?=some xs/\H p=some (.lst (xs.map V.int))/\i<xss.length:=by
 rw[List.getElem?_map]at hx;cases e:ps[i]? with
 |none=>rw[e]at hx;cases hx
 |some p =>
  rw[e]at hx;have hi:i<ps.length:=(List.getElem?_eq_some_iff.mp e).1;have hi':i<xss.length:=by rw[<- h.1];exact hi
  exact⟨p,xss[i],(Option.some.inj hx).symm,rfl,List.getElem?_eq_getElem hi',h.2 i p _ e (List.getElem?_eq_getElem hi'),hi'⟩
theorem rD(ps:List Addr)(p:Addr):ps.map V.ref++[V.ref p]=(ps++[p]).map V.ref:=by rw[Lu];rfl
theorem BN{i:Nat}{v:V}{σ:St}{H:Hp}{Q:St->Hp->Prop}(h:Q (σ.set i (some v)) H):dW i v σ H Q:=h
def sp2:Sp:=λvs H Q _=>∃a b:Int,vs=[.int a,.int b]/\Q (.int (Nat.gcd a.natAbs b.natAbs:Nat)) H
theorem fO(i:Int):(if i<0 then -i else i)=(i.natAbs:Int):=by split<;>omega
theorem Dc(F:Fun K "shared_by_two" "shared_by_two" pk f fd)(T:Txt K mg):FnOk P w K mg base CX0 1 f fd ["one","other"] sp2:=by
 refine F.ok iW (λvs H Q E h=>?_) (λcdv A outer s H vs Q E hr h=>?_)
 ·obtain⟨a,b,rfl,_⟩:=h;rfl
 ·obtain⟨a,b,rfl,k⟩:=h
  refine⟨_,(af (aj 2 iW (cQ jL (by rfl) T.abs_ PyProof.Rows.boot_abs (aa (pv 0) ad)))
   (af (aj 3 iW (cQ jL (by rfl) T.abs_ PyProof.Rows.boot_abs (aa (pv 1) ad)))
   (af (ff PassesOwn.never (aE ga (pv 3) ac)
     (af (aj 4 iW (ah bZ (pv 2) (pv 3)))
       (af (aj 2 iW (pv 3))
       (ai (aj 3 iW (pv 4))))))
   (ai (ax (pv 2)))))),?_⟩
  refine⟨_,rfl,_,rfl,?_⟩;refine⟨_,rfl,_,rfl,?_⟩;refine⟨λm σ' H'=>∃(x y:Int) (z:Option V),σ'=[some (.int a),some (.int b),some (.int x),some (.int y),z]/\H=H'/\0<=x/\0<=y/\y.natAbs=m/\Nat.gcd x.natAbs y.natAbs=Nat.gcd a.natAbs b.natAbs,⟨_,_,_,none,rfl,rfl,?_,?_,rfl,?_⟩,?_⟩
  ·rw[fO];exact Mw _
  ·rw[fO];exact Mw _
  ·rw[fO,fO,Lp,Lp]
  ·rintro m σ' H' ⟨x,y,z,rfl,rfl,hx,hy,rfl,hg⟩;refine⟨_,rfl,_,_,rfl,rfl,_,rfl,?_⟩;refine cX (λhn=>?_) (λh0=>?_)
   ·have hp:0<y:=by have:y≠0:=hn;omega
    refine⟨_,λ_ _ h=>h,?_⟩;refine⟨_,rfl,_,rfl,_,_,rfl,rfl,hp,?_⟩;refine⟨_,rfl,?_⟩;refine⟨_,rfl,?_⟩;have h1:=Int.emod_nonneg x (Ln hp);have h2:=Int.emod_lt_of_pos x hp;exact⟨(x%y).natAbs,by omega,y,x%y,_,rfl,rfl,hy,h1,rfl,by rw[xS hx hp];exact hg⟩
   ·refine⟨_,rfl,?_⟩;have e:(y:Int)=0:=h0;subst e
    have e2:(x:Int)=((Nat.gcd a.natAbs b.natAbs:Nat):Int):=by rw[<- hg];show x=((Nat.gcd x.natAbs 0:Nat):Int);rw[Nat.gcd_zero_right];omega
    rw[e2];exact k
def ox(K:PySem.W.Frag):Sp:=λvs H Q _=>∃(a:Addr) (ns:List Int),vs=[.ref a]/\SqL K H a (ns.map V.int)/\Q (.int (aK ns:Nat)) H
theorem Dd(F:Fun K "shared" "shared" pp f fd)(T:Txt K mg)(sI:Cal P w K mg base 1 "shared_by_two" ["one","other"] sp2 Gr FY):FnOk P w K mg base CX0 2 f fd ["row"] (ox K):=by
 refine F.ok mx (λvs H Q E h=>?_) (λcdv A outer s H vs Q E hr h=>?_)
 ·obtain⟨a,ns,rfl,_⟩:=h;rfl
 ·obtain⟨a,ns,rfl,hS,k⟩:=h
  refine⟨_,(af (aj 1 mx ac)
   (af (cj PassesOwn.never rfl (dQ (K:=K) rfl (pv 0)) (bH 2 mx)
     (ai (aj 1 mx (ak sI hr (aa (pv 1) (aa (pv 2) ad))))))
   (ai (ax (pv 1))))),?_⟩
  refine⟨_,rfl,a,rfl,⟨_,hS⟩,iw (K:=K) (a:=a) (xs:=ns.map V.int) (λi σ' H'=>∃z:Option V,σ'=[some (.ref a),some (.int (aK (ns.take i):Nat)),z]/\H=H') ⟨none,rfl,rfl⟩ (λi σ' H' _ ⟨z,_,e⟩=>by rw[<- e];exact hS) ?_ ?_⟩
  ·rintro i y σ' H' hi ⟨z,rfl,rfl⟩;rw[List.getElem?_map]at hi;cases e:ns[i]? with
   |none=>rw[e]at hi;cases hi
   |some n =>
    rw[e]at hi;obtain rfl:=Option.some.inj hi;refine⟨_,rfl,_,rfl,_,_,rfl,?_⟩;have e3:ns.take (i+1)=ns.take i++[n]:=by rw[LQ,e];rfl
    refine⟨some (.int n),?_,rfl⟩;rw[e3,xT,Lp];rfl
  ·rintro σ' H' ⟨z,rfl,rfl⟩;refine⟨_,rfl,?_⟩;rw[KF,LB];exact k
noncomputable def gq(t b:Int):List (Str×V):=cv "bottom" (.int b) (cv "top" (.int t) [])
theorem zV:¬(("top":Str)="bottom"):=by decide +kernel
theorem bT(t b:Int):(gq t b).lookup ("bottom":Str)=some (.int b):=by unfold gq;rw[dS,if_pos rfl]
theorem cK(t b:Int):(gq t b).lookup ("top":Str)=some (.int t):=by unfold gq;rw[dS,if_neg zV,dS,if_pos rfl]
theorem dF(t b:Int){m:Str}(h1:¬m="bottom")(h2:¬m="top"):(gq t b).lookup m=none:=by unfold gq;rw[dS,if_neg h1,dS,if_neg h2];rfl
structure RCI(K:PySem.W.Frag)(mg:Str->Option Value)(C:Addr):Prop where
 cl:Cls K C
 nT:NoAttr K C "top"
 nB:NoAttr K C "bottom"
 mg:mg "Ratio"=some (.ref C)
 ha:PySem.W.findIn K (.ref C) "__class__"=some (some (.builtin "object.__class__"))
 hn:PySem.W.specialIn K (.builtin "object.__class__") "__get__"=some (some (.builtin "getset_descriptor.__get__"))
 ht:PySem.W.takesIn K (.builtin "object.__class__")=some true
 hm:PySem.W.mroIn K C (.type "object")=some true
def RA(C:Addr)(H:Hp)(p:Addr)(t b:Int):Prop:=∃dx,H p=some (.ins C dx (gq t b))
theorem RA.same{C:Addr}{H H':Hp}{p:Addr}{t b:Int}(h:RA C H p t b)(s:Same H H'):RA C H' p t b:=let⟨dx,e⟩:=h;⟨dx,s _ _ e⟩
def mkR(C:Addr)(H:Hp)(Q:VK)(t b:Int):Prop:=∀(x:Addr) (H':Hp),Same H H'->H x=none->RA C H' x (rt t b) (rb t b)->Q (.ref x) H'
def fC(C:Addr):Sp:=λvs H Q _=>∃(p dx:Addr) (t b:Int),vs=[.ref p,.int t,.int b]/\H p=some (.ins C dx [])/\b≠0/\Bits 9000 b/\Q .non (upd H p (.ins C dx (gq (rt t b) (rb t b))))
theorem gf{C:Addr}{H1:Hp}{q:Addr->Hp->Prop}{E:XK}{t b:Int}(hb:b≠0)(bb:Bits 9000 b)(h:∀(x:Addr) (H':Hp),Same H1 H'->H1 x=none->RA C H' x (rt t b) (rb t b)->q x H'):∀x dx:Addr,H1 x=none->H1 dx=none->dx≠x->fC C (.ref x::([.int t,.int b]++[])) (upd (upd H1 dx (.own x)) x (.ins C dx [])) (λv H2=>v=.non/\q x H2) E:=λx dx nx ndx ne=>by
 refine⟨x,dx,t,b,rfl,ay,hb,bb,rfl,?_⟩;rw[lC]
 have s0:Same H1 (upd (upd H1 dx (.own x)) x (.ins C dx (gq (rt t b) (rb t b)))):=λc o e=>by rw[upd_ne (aX e nx),upd_ne (aX e ndx)];exact e
 exact h x _ s0 nx ⟨dx,ay⟩
theorem yp{t b:Int}(hb:b≠0)(bb:Bits 9000 b):Bits 9000 (dv t b):=bb.of_le (by rw[ix];exact Nat.le_of_dvd (Mg.mpr hb) (Mh _ _))
theorem En(F:FunD K "__init__" "Ratio.__init__" jc dV f fd)(T:Txt K mg)(R:RCI K mg C)(sI:Cal P w K mg base 1 "shared_by_two" ["one","other"] sp2 Gr FY):FnOk P w K mg base CX0 2 f fd ["self","top","bottom"] (fC C):=by
 refine F.ok oX (λvs H Q E h=>?_) (λcdv A outer s H vs Q E hr h=>?_)
 ·obtain⟨p,dx,t,b,rfl,_⟩:=h;rfl
 ·obtain⟨p,dx,t,b,rfl,hp,hb,bb,k⟩:=h
  refine⟨_,(af (aM (aE bN (pv 2) ac)
   (ai wb)
   aS)
   (af (aj 3 oX (ak sI hr (aa (pv 1) (aa (pv 2) ad))))
   (af (aM (aE cr (pv 2) ac)
     (ai (aj 3 oX (ck ci (pv 3))))
     aS)
   (af (kt (pv 0) (ah wF (pv 1) (pv 3)) rfl)
   (ai (kt (pv 0) (ah wF (pv 2) (pv 3)) rfl)))))),?_⟩
  refine aU ⟨_,rfl,_,_,rfl,rfl,_,rfl,aG (λh=>absurd h hb) (λ_=>?_)⟩;refine aA ⟨_,rfl,_,rfl,t,b,rfl,?_⟩;refine dP (λσ' H'=>H=H'/\σ'=[some (.ref p),some (.int t),some (.int b),some (.int (dv t b))]) ?_ ?_
  ·rintro σ' H' ⟨rfl,rfl⟩;refine⟨_,rfl,_,rfl,_,_,rfl,rfl,⟨nI hb,yp hb bb⟩,_,rfl,p,C,dx,_,rfl,hp,R.cl,R.nT,by show 0<1000;decide,?_⟩;refine⟨_,rfl,_,rfl,_,_,rfl,rfl,⟨nI hb,yp hb bb⟩,_,rfl,p,C,dx,_,rfl,ay,R.cl,R.nB,by show 1<1000;decide,?_⟩;show Q .non (upd (upd H p _) p _);rw[lC];exact k
  ·intro rest;refine⟨_,rfl,_,_,rfl,rfl,_,rfl,?_⟩;refine aG (λh=>?_) (λh=>?_)
   ·refine⟨_,rfl,_,rfl,rest _ _ ⟨rfl,?_⟩⟩;have e:dv t b = -((Nat.gcd t.natAbs b.natAbs:Nat):Int):=by unfold dv;rw[if_pos h]
    rw[e];rfl
   ·refine rest _ _ ⟨rfl,?_⟩;have e:dv t b=((Nat.gcd t.natAbs b.natAbs:Nat):Int):=by unfold dv;rw[if_neg h]
    rw[e];rfl
def j6:Sp:=λvs H Q _=>∃x:Int,vs=[.int x]/\Q (.int (sg x)) H
theorem CO(F:Fun K "whole_sign" "whole_sign" o0 f fd)(T:Txt K mg):FnOk P w K mg base CX0 1 f fd ["value"] j6:=by
 refine F.ok AY (λvs H Q E h=>?_) (λcdv A outer s H vs Q E hr h=>?_)
 ·obtain⟨x,rfl,_⟩:=h;rfl
 ·obtain⟨x,rfl,k⟩:=h
  refine⟨_,(af (aM (aE cr (pv 0) ac)
   (ai (ax (ck ci ac)))
   aS)
   (af (aM (aE ca (pv 0) ac)
     (ai (ax ac))
     aS)
   (ai (ax ac)))),?_⟩
  refine aU ⟨_,rfl,_,_,rfl,rfl,_,rfl,aG (λh=>?_) (λh=>?_)⟩
  ·have e:sg x = -1:=by unfold sg;rw[if_pos h]
   rw[e]at k;exact⟨_,rfl,k⟩
  refine aU ⟨_,rfl,_,_,rfl,rfl,_,rfl,aG (λh'=>?_) (λh'=>?_)⟩
  ·have e:sg x=1:=by unfold sg;rw[if_neg h,if_pos h']
   rw[e]at k;exact k
  ·have e:sg x=0:=by unfold sg;rw[if_neg h,if_neg h']
   rw[e]at k;exact k
def g6(C:Addr):Sp:=λvs H Q _=>∃(p q:Addr) (t b u d:Int),vs=[.ref p,.ref q]/\RA C H p t b/\RA C H q u d/\Bits 100000 t/\Bits 100000 b/\Bits 100000 u/\Bits 100000 d/\Q (.int (sg (t*d-u*b))) H
theorem Em(F:Fun K "against" "Ratio.against" qS f fd)(T:Txt K mg)(R:RCI K mg C)(iF:Cal P w K mg base 1 "whole_sign" ["value"] j6 rV rR):FnOk P w K mg base CX0 2 f fd ["self","other"] (g6 C):=by
 refine F.ok Bz (λvs H Q E h=>?_) (λcdv A outer s H vs Q E hr h=>?_)
 ·obtain⟨p,q,t,b,u,d,rfl,_⟩:=h;rfl
 ·obtain⟨p,q,t,b,u,d,rfl,⟨dx,hp⟩,⟨dy,hq⟩,bt,bb,bu,bd,k⟩:=h;refine⟨_,(ai (ax (ak iF hr (aa (ah bB (ah aD (aH (K:=K) rfl (pv 0) rfl) (aH (K:=K) rfl (pv 1) rfl)) (ah aD (aH (K:=K) rfl (pv 1) rfl) (aH (K:=K) rfl (pv 0) rfl))) ad)))),?_⟩;refine⟨_,rfl,p,C,dx,_,_,rfl,hp,R.cl,R.nT,cK _ _,_,rfl,q,C,dy,_,_,rfl,hq,R.cl,R.nB,bT _ _,_,_,rfl,rfl,⟨bt.mono,bd.mono⟩,?_⟩;exact⟨_,rfl,q,C,dy,_,_,rfl,hq,R.cl,R.nT,cK _ _,_,rfl,p,C,dx,_,_,rfl,hp,R.cl,R.nB,bT _ _,_,_,rfl,rfl,⟨bu.mono,bb.mono⟩,_,_,rfl,rfl,_,rfl,k⟩
theorem Dh(F:Fun K "poly" "poly" pB f fd)(T:Txt K mg):FnOk P w K mg base CX0 1 f fd ["row"] (gW K):=by
 refine F.ok oN (λvs H Q E h=>?_) (λcdv A outer s H vs Q E hr h=>?_)
 ·obtain⟨a,ns,rfl,_⟩:=h;rfl
 ·obtain⟨a,ns,rfl,hS,k⟩:=h
  refine⟨_,(af (aj 1 oN (bM K T.len_ (aa (pv 0) ad)))
   (af (ff PassesOwn.never (PW.pt (fY (aE ca (pv 1) ac) (gC (aE bN (aN K (pv 0) (ah bB (pv 1) ac)) ac))))
     (ai (aj 1 oN (ah bB (pv 1) ac))))
   (ai (ax (kz (mi (K:=K) rfl) (pv 0) ky (kx (pv 1))))))),?_⟩
  refine⟨_,rfl,a,_,rfl,.inl hS,?_⟩;refine⟨λm σ' H'=>∃n:Nat,n<=ns.length/\σ'=[some (.ref a),some (.int n)]/\H=H'/\n=m/\trim (ns.take n)=trim ns,⟨_,ns.length,KH _,?_,rfl,rfl,?_⟩,?_⟩
  ·rw[KF];rfl
  ·rw[LB]
  ·rintro m σ' H' ⟨n,hn,rfl,rfl,rfl,ht⟩
   have fin:trim (ns.take n)=ns.take n->∃v,([some (V.ref a),some (V.int n)]:St)[0]?=some (some v)/\∃v_1,([some (V.ref a),some (V.int n)]:St)[1]?=some (some v_1)/\∃i,v_1=V.int i/\mL K v none (some i) H Q:=λh=>by
    refine⟨_,rfl,_,rfl,n,rfl,a,_,rfl,hS,λp hp=>k p _ (Same.upd_new hp) hp ?_⟩;rw[ay,<- ht,h]
    have e:dY (ns.map V.int) none (some (n:Int))=(ns.take n).map V.int:=by unfold dY;rw[HT.sIx_none,HT.sIx_nat,Ma,LM,KF,Nat.min_eq_left hn,List.map_take]
    rw[e]
   refine⟨_,rfl,_,_,rfl,rfl,_,rfl,?_⟩;refine aG (λhp=>?_) (λhp=>?_)
   ·obtain⟨j,rfl⟩:∃j,n=j+1:=⟨n-1,by have:(0:Int)<n:=hp;omega⟩;have hj:j<ns.length:=hn;refine⟨_,rfl,_,rfl,_,_,rfl,rfl,a,_,j,.int (cf ns j),rfl,?_,hS,gO ?_,_,_,rfl,rfl,_,rfl,?_⟩
    ·show V.int (((j+1:Nat):Int)-1)=V.int j
     congr 1;omega
    ·rw[List.getElem?_map,fm hj];rfl
    refine aG (λh0=>?_) (λh0=>?_)
    ·refine⟨_,λ_ _ h=>h,?_⟩;refine⟨_,rfl,_,_,rfl,rfl,j,LK _,j,L0 hj,?_,rfl,rfl,?_⟩
     ·show[some (V.ref a),some (V.int (((j+1:Nat):Int)-1))]=[some (V.ref a),some (V.int j)]
      congr 4;omega
     ·rw[<- ht,sX hj h0]
    ·exact fin (sY hj h0)
   ·obtain rfl:n=0:=by have:¬(0:Int)<n:=hp;omega
    exact fin (by rw[List.take_zero];rfl)
def md:Sp:=λvs H Q _=>∃(a:Addr) (xs:List V),vs=[.ref a]/\H a=some (.lst xs)/\Q (.int ((xs.length:Int)-1)) H
theorem Du(F:Fun K "degree" "degree" pN f fd)(T:Txt K mg):FnOk P w K mg base CX0 1 f fd ["row"] md:=by
 refine F.ok Bb (λvs H Q E h=>?_) (λcdv A outer s H vs Q E hr h=>?_)
 ·obtain⟨a,xs,rfl,_⟩:=h;rfl
 ·obtain⟨a,xs,rfl,hA,k⟩:=h;refine⟨_,(ai (ax (ah bB (bM K T.len_ (aa (pv 0) ad)) ac))),?_⟩;exact⟨_,rfl,a,_,rfl,.inl (SqL.of hA),_,_,rfl,rfl,k⟩
theorem Dz(F:Fun K "coefficient" "coefficient" pS f fd)(T:Txt K mg):FnOk P w K mg base CX0 1 f fd ["row","place"] (iR K):=by
 refine F.ok Bf (λvs H Q E h=>?_) (λcdv A outer s H vs Q E hr h=>?_)
 ·obtain⟨a,ns,k,rfl,_⟩:=h;rfl
 ·obtain⟨a,ns,n,rfl,hS,k⟩:=h
  refine⟨_,(af (aM (aE cr (pv 1) (bM K T.len_ (aa (pv 0) ad)))
   (ai (ax (aN K (pv 0) (pv 1))))
   aS)
   (ai (ax ac))),?_⟩
  refine⟨_,rfl,_,rfl,a,_,rfl,.inl hS,_,_,rfl,rfl,_,rfl,?_⟩;refine aG (λh1=>?_) (λh1=>?_)
  ·rw[KF]at h1;have h2:n<ns.length:=by omega
   refine⟨_,rfl,_,rfl,a,_,_,_,rfl,rfl,hS,gO (v:=.int (ns.getD n 0)) ?_,k⟩;rw[List.getElem?_map,List.getElem?_eq_getElem h2];simp[List.getD,h2]
  ·rw[KF]at h1;have h2:ns.length<=n:=by omega
   have e:ns.getD n 0=0:=by simp[List.getD,List.getElem?_eq_none_iff.mpr h2]
   rw[e]at k;exact k
theorem CS(F:Fun K "taken" "taken" o5 f fd)(T:Txt K mg)(iG:Cal P w K mg base 1 "poly" ["row"] (gW K) rW rS)(lA:Cal P w K mg base 1 "coefficient" ["row","place"] (iR K) Gw Gc):FnOk P w K mg base CX0 2 f fd ["first","second"] (me K cu):=by
 refine F.ok vt (λvs H Q E h=>?_) (λcdv A outer s H vs Q E hr h=>?_)
 ·obtain⟨a,b,xs,ys,rfl,_⟩:=h;rfl
 ·obtain⟨a,b,xs,ys,rfl,hA,hB,hx,hy,k⟩:=h
  refine⟨_,(af (aj 2 vt (cQ (yS rfl) (by rfl) T.max_ PyProof.Rows.boot_max (aa (bM K T.len_ (aa (pv 0) ad)) (aa (bM K T.len_ (aa (pv 1) ad)) ad))))
   (ai (ax (ak iG hr (aa (f9 (own:=["k"]) (fr:=["first","second"]) (js:=[0,1]) (by walk_at "comp_ok") rfl (ik rfl T.range_ (aa (pv 2) ad)) (λ_ _ _ _=>(eK (i:=0) (show List.Nodup (["k","first","second"]:List Str)from by decide +kernel) rfl (Or.inl rfl))) (λ_ _ _ _=>(ah bB (ak lA hr (aa (pv 1) (aa (pv 0) ad))) (ak lA hr (aa (pv 2) (aa (pv 0) ad)))))) ad))))),?_⟩
  refine⟨_,rfl,a,_,rfl,.inl hA,_,rfl,b,_,rfl,.inl hB,_,_,rfl,?_⟩;rw[xn,KF,KF];have hz:max xs.length ys.length<=sizeLine:=by have:=sizeLine_eq;omega
  refine⟨_,rfl,_,rfl,(mh hz).1,(mh hz).2,nK (lo:=0) (n:=max xs.length ys.length) (λi zs σ' H'=>∃z:Option V,σ'=[z,some (.ref a),some (.ref b)]/\zs=((List.range i).map λk=>V.int (cf xs k-cf ys k))/\H=H') hz ⟨none,rfl,rfl,rfl⟩ ?_ ?_ ?_⟩
  ·rintro i zs σ' H' _ ⟨z,rfl,rfl,rfl⟩;simp
  ·rintro i zs σ' H' hi ⟨z,rfl,rfl,rfl⟩;refine⟨_,rfl,_,rfl,a,xs,i,?_,hA,_,rfl,_,rfl,b,ys,i,?_,hB,_,_,rfl,rfl,_,rfl,?_,rfl⟩
   ·show[V.ref a,V.int (0+(i:Int))]=_;rw[Lw]
   ·show[V.ref b,V.int (0+(i:Int))]=_;rw[Lw]
   ·rw[List.range_succ,Lu];rfl
  ·rintro zs σ' H' p ⟨z,rfl,rfl,rfl⟩ hp;refine⟨p,(List.range (max xs.length ys.length)).map λk=>cf xs k-cf ys k,rfl,SqL.of ?_,?_⟩
   ·rw[ay,L7];rfl
   ·intro p' H' sm hp' e;refine k p' H' ((Same.upd_new hp).trans sm) ((Same.upd_new hp).free hp') ?_;rw[e,Am]
def sp1(g:List Int->List Int):Sp:=λvs H Q _=>∃(a:Addr) (ns:List Int),vs=[.ref a]/\H a=some (.lst (ns.map V.int))/\ns.length<=100000/\AllB 100000 ns/\mkL H Q (g ns)
theorem EC{k:Nat}{n:Nat}(h:n<2^k):Bits k (n:Int):=by show((n:Int)).natAbs<2^k;rw[Lp];exact h
theorem At{n:Nat}(h:n<=1000000):Bits 1000000 (n:Int):=(EC (k:=20) (MO h (by decide))).mono
theorem BV(f:Nat->V)(i:Nat):(List.range i).map f++[f i]=(List.range (i+1)).map f:=by rw[List.range_succ,Lu];rfl
theorem CW(F:Fun K "slope" "slope" o9 f fd)(T:Txt K mg):FnOk P w K mg base CX0 1 f fd ["row"] (sp1 slopeL):=by
 refine F.ok A3 (λvs H Q E h=>?_) (λcdv A outer s H vs Q E hr h=>?_)
 ·obtain⟨a,ns,rfl,_⟩:=h;rfl
 ·obtain⟨a,ns,rfl,hA,hn,hb,k⟩:=h;have big:=sizeLine_eq;refine⟨_,(ai (ax (f9 (own:=["k"]) (fr:=["row"]) (js:=[0]) (by walk_at "comp_ok") rfl (Cm rfl T.range_ (aa ac (aa (bM K T.len_ (aa (pv 0) ad)) ad))) (λ_ _ _ _=>(eK (i:=0) (show List.Nodup (["k","row"]:List Str)from by decide +kernel) rfl (Or.inl rfl))) (λ_ _ _ _=>(ah aD (pv 0) (aN K (pv 1) (pv 0))))))),?_⟩;have hl:(ns.map V.int).length=ns.length:=KF _;refine aL ⟨_,rfl,a,_,rfl,.inl (SqL.of hA),1,_,rfl,⟨by decide,by decide,by rw[hl];omega,by rw[hl];omega⟩,nK (lo:=1) (λi ys σ' H'=>∃z:Option V,σ'=[z,some (.ref a)]/\ys=((List.range i).map λ(j:Nat)=>V.int (((j:Int)+1)*cf ns (j+1)))/\H=H') (by rw[hl];omega) ⟨none,rfl,rfl,rfl⟩ ?_ ?_ ?_⟩
  ·rintro i ys σ' H' _ ⟨z,rfl,rfl,rfl⟩;simp
  ·rintro i ys σ' H' hi ⟨z,rfl,rfl,rfl⟩;rw[hl]at hi;have hi':i+1<ns.length:=by omega
   have e0:(1:Int)+(i:Int)=((i+1:Nat):Int):=by omega
   refine⟨_,rfl,_,rfl,_,rfl,a,_,_,_,rfl,rfl,SqL.of hA,lg e0 hi',_,_,rfl,rfl,⟨by rw[e0];exact At (by omega),(hb.cf _).mono⟩,_,rfl,?_,rfl⟩;rw[<- BV];show _++[V.int ((1+(i:Int))*cf ns (i+1))]=_;rw[L6 1]
  ·rintro ys σ' H' p ⟨z,rfl,rfl,rfl⟩ hp;refine k p _ (Same.upd_new hp) hp ?_;have en:(((ns.map V.int).length:Int)-1).toNat=ns.length-1:=by rw[hl];omega
   rw[ay,en];unfold RM.slopeL;rw[L7];rfl
def j4:Sp:=λvs H Q _=>∃(a:Addr) (ns:List Int),vs=[.ref a]/\H a=some (.lst (ns.map V.int))/\Tr ns/\ns.length<=1000000/\mkL H Q (aB ns)
theorem rP{ns:List Int}(ht:Tr ns)(hne:ns≠[]):0<(aK ns:Int):=by
 obtain⟨r,x,rfl⟩:=(dk ns).resolve_left hne;have hx:x≠0:=tr_snoc.mp ht;have hm:x∈r++[x]:=by simp
 have h1:0<aK (r++[x]):=Nat.pos_of_dvd_of_pos (nv hm) (Mg.mpr hx);omega
theorem C4(F:Fun K "shrunk" "shrunk" mF f fd)(T:Txt K mg)(hNS:base.NoSeer)(hTr:P.given.tree=none)(sJ:Cal P w K mg base 2 "shared" ["row"] (ox K) Gs FZ):FnOk P w K mg base CX0 33 f fd ["row"] j4:=by
 refine F.ok vv (λvs H Q E h=>?_) (λcdv A outer s H vs Q E hr h=>?_)
 ·obtain⟨a,ns,rfl,_⟩:=h;rfl
 ·obtain⟨a,ns,rfl,hA,ht,hn,k⟩:=h;have big:=sizeLine_eq;have hdp:(A.deeper (PyProof.Rows.envOfC (Str.ofString "shrunk") (aC mF) s.heap.objs.size f cdv)).depth+100<recursionLimit:=by have:=hr.dp;omega
  refine⟨_,(af (aj 1 vv (ak sJ hr (aa (pv 0) ad)))
   (ai (ax (f9 (own:=["value"]) (fr:=["divisor"]) (js:=[1]) (by walk_at "comp_ok") rfl (dQ (K:=K) rfl (pv 0)) (λ_ _ _ _=>(eK (i:=0) (show List.Nodup (["value","divisor"]:List Str)from by decide +kernel) rfl (Or.inl rfl))) (λ_ _ _ _=>(ah (wE hNS hTr hdp rfl rfl rfl rfl rfl) (pv 0) (pv 1))))))),?_⟩
  refine aA ⟨_,rfl,a,ns,rfl,SqL.of hA,?_⟩;refine aL ⟨_,rfl,a,rfl,⟨_,SqL.of hA⟩,jH (K:=K) (a:=a) (xs:=ns.map V.int) (λi ys σ' H'=>∃(z0:Option V),σ'=[z0,some (.int (aK ns:Nat))]/\ys=((ns.take i).map λx=>x/(aK ns:Int)).map V.int/\H=H') (by rw[KF];omega) ⟨none,rfl,rfl,rfl⟩ ?_ ?_ ?_⟩
  ·rintro i ys σ' H' _ ⟨z0,rfl,rfl,rfl⟩;exact⟨SqL.of hA,by rw[KF,KF,LG];exact MB _ _⟩
  ·rintro i x ys σ' H' hi ⟨z0,rfl,rfl,rfl⟩;rw[List.getElem?_map]at hi;cases e:ns[i]? with
   |none=>rw[e]at hi;cases hi
   |some c =>rw[e]at hi;obtain rfl:=Option.some.inj hi;have g1:=rP ht (λz=>by rw[z]at e;simp at e);refine⟨_,rfl,_,rfl,_,_,rfl,rfl,g1,_,rfl,?_,rfl⟩;rw[LQ,e];simp
  ·rintro ys σ' H' p ⟨z0,rfl,rfl,rfl⟩ hp;refine k p _ (Same.upd_new hp) hp ?_;rw[ay,KF,LB];rfl
def lT:Sp:=λvs H Q _=>∃(a:Addr) (ns:List Int),vs=[.ref a]/\H a=some (.lst (ns.map V.int))/\Tr ns/\ns.length<=1000000/\mkL H Q (aO ns)
theorem yZ(r:List Int)(x:Int):atI ((r++[x]).map V.int) (-1)=some (.int x):=by rw[Lu];exact y4 _ _
theorem Di(F:Fun K "plain" "plain" pC f fd)(T:Txt K mg)(ll:Cal P w K mg base 33 "shrunk" ["row"] j4 Gq FX):FnOk P w K mg base CX0 34 f fd ["row"] lT:=by
 refine F.ok vx (λvs H Q E h=>?_) (λcdv A outer s H vs Q E hr h=>?_)
 ·obtain⟨a,ns,rfl,_⟩:=h;rfl
 ·obtain⟨a,ns,rfl,hA,ht,hn,k⟩:=h;have big:=sizeLine_eq;have hu:=hr.units
  refine⟨_,(af (aj 1 vx (ak ll hr (aa (pv 0) ad)))
   (af (aM (PW.pt (fY (aE (re (K:=K) rfl hu) (pv 1) (bh ad)) (gC (aE cr (aN K (pv 1) (ck ci ac)) ac))))
     (ai (ax (f9 (own:=["value"]) (fr:=[]) (js:=[]) (by walk_at "comp_ok") rfl (dQ (K:=K) rfl (pv 1)) (λ_ _ _ _=>(eK (i:=0) (show List.Nodup (["value"]:List Str)from by decide +kernel) rfl (Or.inl rfl))) (λ_ _ _ _=>(ck ci (pv 0))))))
     aS)
   (ai (ax (pv 1))))),?_⟩
  refine aA ⟨_,rfl,a,ns,rfl,hA,ht,hn,λp H1 s1 hp e1=>?_⟩;have hsl:(aB ns).length=ns.length:=KF _;have done:bQ (aB ns)=aB ns->Q (.ref p) H1:=λe=>k p H1 s1 hp (by rw[e1];show _=some (HO.lst ((bQ (aB ns)).map V.int));rw[e])
  refine dP (λσ' H'=>σ'=[some (.ref a),some (.ref p)]/\Same H H'/\H' p=some (.lst ((aB ns).map V.int))/\bQ (aB ns)=aB ns) ?_ ?_
  ·rintro σ' H' ⟨rfl,s2,e2,e3⟩;exact⟨_,rfl,k p H' s2 hp (by rw[e2];show _=some (HO.lst ((bQ (aB ns)).map V.int));rw[e3])⟩
  intro rest;refine fX ⟨_,rfl,KJ _,λq hq=>?_⟩;have s2:Same H (upd H1 q (.lst [])):=s1.then_new hq;have e2:upd H1 q (.lst []) p=some (.lst ((aB ns).map V.int)):=by rw[upd_ne (aX e1 hq)];exact e1
  refine⟨p,q,aB ns,[],rfl,rfl,SqL.of e2,SqL.of ay,_,rfl,?_⟩;refine cX (λhne=>?_) (λhe=>?_)
  ·obtain⟨r,x,er⟩:=(dk (aB ns)).resolve_left hne;refine⟨_,rfl,_,rfl,p,_,_,.int x,rfl,rfl,SqL.of e2,(by rw[er];exact yZ r x),_,_,rfl,rfl,_,rfl,?_⟩;have elast:cb (aB ns)=x:=by rw[er,fH]
   refine aG (λhx=>?_) (λhx=>?_)
   ·have hx':x<0:=hx;have epos:bQ (aB ns)=(aB ns).map λx => -x:=by unfold bQ;rw[elast,if_pos hx']
    refine aL ⟨_,rfl,p,rfl,⟨_,SqL.of e2⟩,jH (K:=K) (a:=p) (xs:=(aB ns).map V.int) (λi ys σ' H'=>∃(z0:Option V),σ'=[z0]/\ys=(((aB ns).take i).map λx => -x).map V.int/\upd H1 q (.lst [])=H') (by rw[KF,hsl];omega) ⟨none,rfl,rfl,rfl⟩ ?_ ?_ ?_⟩
    ·rintro i ys σ' H' _ ⟨z0,rfl,rfl,rfl⟩;exact⟨SqL.of e2,by rw[KF,KF,LG];exact MB _ _⟩
    ·rintro i x ys σ' H' hi ⟨z0,rfl,rfl,rfl⟩;rw[List.getElem?_map]at hi;cases e:(aB ns)[i]? with
     |none=>rw[e]at hi;cases hi
     |some c =>rw[e]at hi;obtain rfl:=Option.some.inj hi;refine⟨_,rfl,_,rfl,_,rfl,?_,rfl⟩;rw[LQ,e];simp
    ·rintro ys σ' H' p' ⟨z0,rfl,rfl,rfl⟩ hp';refine k p' _ (s2.then_new hp') (s2.free hp') ?_;rw[ay,KF,LB];show _=some (HO.lst ((bQ (aB ns)).map V.int));rw[epos]
   ·exact rest _ _ ⟨rfl,s2,e2,by unfold bQ;rw[elast,if_neg hx]⟩
  ·have he':aB ns=[]:=he;exact rest _ _ ⟨rfl,s2,e2,by rw[he'];rfl⟩
def um:Sp:=λvs H Q _=>∃(a:Addr) (xs:List Int) (c:Int),vs=[.ref a,.int c]/\H a=some (.lst (xs.map V.int))/\xs.length<=1000000/\Bits 1000000 c/\AllB 1000000 xs/\mkL H Q (scL c xs)
theorem Df(F:Fun K "scaled" "scaled" pz f fd)(T:Txt K mg):FnOk P w K mg base CX0 1 f fd ["row","factor"] um:=by
 refine F.ok A7 (λvs H Q E h=>?_) (λcdv A outer s H vs Q E hr h=>?_)
 ·obtain⟨a,xs,c,rfl,_⟩:=h;rfl
 ·obtain⟨a,xs,c,rfl,hA,hn,bc,bx,k⟩:=h;have big:=sizeLine_eq;refine⟨_,(ai (ax (f9 (own:=["value"]) (fr:=["factor"]) (js:=[1]) (by walk_at "comp_ok") rfl (dQ (K:=K) rfl (pv 0)) (λ_ _ _ _=>(eK (i:=0) (show List.Nodup (["value","factor"]:List Str)from by decide +kernel) rfl (Or.inl rfl))) (λ_ _ _ _=>(ah aD (pv 1) (pv 0)))))),?_⟩;refine aL ⟨_,rfl,a,rfl,⟨_,SqL.of hA⟩,jH (K:=K) (a:=a) (xs:=xs.map V.int) (λi ys σ' H'=>∃(z0:Option V),σ'=[z0,some (.int c)]/\ys=(scL c (xs.take i)).map V.int/\H=H') (by rw[KF];omega) ⟨none,rfl,rfl,rfl⟩ ?_ ?_ ?_⟩
  ·rintro i ys σ' H' _ ⟨z0,rfl,rfl,rfl⟩;exact⟨SqL.of hA,by rw[KF,cP,LG];exact MB _ _⟩
  ·rintro i x ys σ' H' hi ⟨z0,rfl,rfl,rfl⟩;obtain⟨y,_,rfl,hm,et⟩:=fJ hi;refine⟨_,rfl,_,rfl,(ae ⟨⟨bc,bx y hm⟩,_,rfl,?_,rfl⟩)⟩;rw[et];simp[scL]
  ·rintro ys σ' H' p ⟨z0,rfl,rfl,rfl⟩ hp;refine k p _ (Same.upd_new hp) hp ?_;rw[ay,KF,LB]
theorem yD(ms:List Int):jF ms none (some (-1))=ms.take (ms.length-1):=by
 unfold jF;rw[HT.sIx_none,Ma,LM]
 congr 1
 show(if(-1:Int)<0 then((-1:Int)+(ms.length:Int)).toNat else min (-1:Int).toNat ms.length)=_;rw[if_pos (by decide)];omega
theorem yP{ms:List Int}{n k:Nat}:cf (ms.take n) k=if k<n then cf ms k else 0:=by
 unfold cf;by_cases h:k<n
 ·rw[if_pos h];simp[List.getD,List.getElem?_take,h]
 ·rw[if_neg h];simp[List.getD,List.getElem?_take,h]
def uH:Sp:=λvs H Q _=>∃(a b:Addr) (rs ys:List Int) (p:Nat) (l:Int),vs=[.ref a,.ref b,.int p,.int l]/\H a=some (.lst (rs.map V.int))/\H b=some (.lst (ys.map V.int))/\rs.length=p+ys.length/\ys≠[]/\Bits 1000000 l/\AllB 1000000 ys/\mkL H Q (iq rs ys p l)
theorem Dn(F:Fun K "lowered" "lowered" pH f fd)(T:Txt K mg):FnOk P w K mg base CX0 1 f fd ["row","second","place","lead"] uH:=by
 refine F.ok mC (λvs H Q E h=>?_) (λcdv A outer s H vs Q E hr h=>?_)
 ·obtain⟨a,b,rs,ys,p,l,rfl,_⟩:=h;rfl
 ·obtain⟨a,b,rs,ys,p,l,rfl,hA,hB,hl,hy,bl,by',k⟩:=h;have hyl:=KL.mpr hy
  refine⟨_,(af (aj 4 mC (kz (mi (K:=K) rfl) (pv 0) ky (kx (ck ci ac))))
   (af (cj PassesOwn.never rfl (jn rfl T.enumerate_ (aa (kz (mi (K:=K) rfl) (pv 1) ky (kx (ck ci ac))) ad)) (jp rfl (eJ (bH 5 mC) (eJ (bH 6 mC) jo)))
     (ai (jj (ah bB (aN K (pv 4) (ah bj (pv 2) (pv 5))) (ah aD (pv 3) (pv 6))) (jq (pv 4) (ah bj (pv 2) (pv 5)) iU))))
   (ai (ax (pv 4))))),?_⟩
  refine aA ⟨_,rfl,_,rfl,_,rfl,a,_,rfl,SqL.of hA,λkp hkp=>?_⟩;rw[yB,yD];have s1:=Same.upd_new (o:=.lst ((rs.take (rs.length-1)).map V.int)) hkp;have nkb:b≠kp:=aX hB hkp;refine⟨_,rfl,_,rfl,_,rfl,b,_,rfl,SqL.of (s1 _ _ hB),λp2 hp2=>?_⟩;rw[yB,yD];have n2:kp≠p2:=aX ay hp2;generalize hH2:upd (upd H kp (.lst ((rs.take (rs.length-1)).map V.int))) p2 (.lst ((ys.take (ys.length-1)).map V.int))=H2;have hk2:H2 kp=some (.lst ((rs.take (rs.length-1)).map V.int)):=by rw[<- hH2,upd_ne n2,ay]
  have hq2:H2 p2=some (.lst ((ys.take (ys.length-1)).map V.int)):=by rw[<- hH2,ay]
  have s2:Same H H2:=by rw[<- hH2];exact s1.then_new hp2
  have lt:(rs.take (rs.length-1)).length=rs.length-1:=by rw[LG];omega
  have lty:(ys.take (ys.length-1)).length=ys.length-1:=by rw[LG];omega
  refine⟨p2,rfl,⟨_,SqL.of hq2⟩,jz (K:=K) (a:=p2) (xs:=(ys.take (ys.length-1)).map V.int) (λi σ' H'=>∃(acc:List Int) (z5 z6:Option V),σ'=[some (.ref a),some (.ref b),some (.int p),some (.int l),some (.ref kp),z5,z6]/\SameB kp H2 H'/\H' kp=some (.lst (acc.map V.int))/\acc.length=rs.length-1/\∀n,n<acc.length->cf acc n=cf rs n-(if p<=n/\n-p<i then l*cf ys (n-p)else 0))
   ⟨_,none,none,rfl,SameB.refl _ _,hk2,lt,λn hn=>by rw[yP,if_pos (by omega),if_neg (by omega)];omega⟩ ?_ ?_ ?_⟩
  ·rintro i σ' H' _ ⟨acc,z5,z6,rfl,sb,_⟩;exact SqL.of (sb _ _ (Ne.symm n2) hq2)
  ·rintro i x σ' H' q hi ⟨acc,z5,z6,rfl,sb,hpa,hal,hac⟩ hq
   have hil:i<ys.length-1:=by apply Classical.byContradiction;intro hn;rw[List.getElem?_eq_none_iff.mpr (by rw[KF,lty];omega)]at hi;cases hi
   rw[List.getElem?_map,fm (by rw[lty];exact hil),yP,if_pos hil]at hi;obtain rfl:=Option.some.inj hi;refine⟨q,_,rfl,SqT.of ay,rfl,_,_,rfl,_,_,rfl,rfl,?_⟩;have nqp:kp≠q:=aX hpa hq;have hpa':upd H' q (.tup [.int i,.int (cf ys i)]) kp=some (.lst (acc.map V.int)):=by rw[upd_ne nqp];exact hpa
   have hpi:p+i<acc.length:=by omega
   have epi:((p:Nat):Int)+((i:Nat):Int)=((p+i:Nat):Int):=by omega
   refine⟨_,rfl,_,rfl,_,rfl,(ae ⟨kp,_,_,_,rfl,rfl,SqL.of hpa',lg epi hpi,_,rfl,_,rfl,(ae ⟨⟨bl,by'.cf i⟩,(ae ⟨_,rfl,_,rfl,_,rfl,(ae ⟨kp,_,_,p+i,rfl,rfl,hpa',jv epi (by rw[KF];exact hpi),?_⟩)⟩)⟩)⟩)⟩;refine⟨acc.set (p+i) (cf acc (p+i)-l*cf ys i),_,_,rfl,(sb.then_new hq).then_upd,by rw[ay,kL],by rw[LW];exact hal,λn hn=>?_⟩;rw[LW]at hn;rw[nO hpi];by_cases e:n=p+i
   ·subst e;rw[if_pos rfl,hac _ hpi,if_neg (by omega),if_pos (by omega),Nat.add_sub_cancel_left];omega
   ·rw[if_neg e,hac n hn];by_cases h1:p<=n/\n-p<i
    ·rw[if_pos h1,if_pos (by omega)]
    ·rw[if_neg h1,if_neg (by omega)]
  ·rintro σ' H' ⟨acc,z5,z6,rfl,sb,hpa,hal,hac⟩;rw[KF,lty]at hac;refine⟨_,rfl,k kp H' (λb' o e=>sb b' o (aX e hkp) (s2 b' o e)) hkp ?_⟩;rw[hpa]
   have e:acc=iq rs ys p l:=by
    apply fu
    ·rw[hal,xt]
    ·intro n hn;have hn':n<rs.length-1:=by omega
     rw[hac n hn,nR,if_pos hn'];by_cases h1:p<=n
     ·have h2:p<=n/\n-p<ys.length-1:=⟨h1,by omega⟩;rw[if_pos h1,if_pos h2]
     ·have h2:¬(p<=n/\n-p<ys.length-1):=λz=>h1 z.1
      rw[if_neg h1,if_neg h2]
   rw[e]
theorem AllB.of_cf{k:Nat}{l:List Int}(h:∀n,Bits k (RM.cf l n)):AllB k l:=λx hx=>by
 obtain⟨i,hi,rfl⟩:=List.mem_iff_getElem.mp hx;have:=h i
 rwa [da hi]at this
theorem sD{k:Nat}{x:Int}(h:Bits k x):Bits k ((x.natAbs:Nat):Int):=h.of_le (by rw[Lp];exact KH _)
theorem sg_bits{x:Int}:Bits 1 (sg x):=by show(sg x).natAbs<2^1;unfold sg;split<;>(try split)<;>decide
theorem kf{k:Nat}{x y:Int}(h:Bits k y):Bits k (sg x*y):=h.of_le (by
 rw[Lj];have h2:(sg x).natAbs<=1:=by unfold sg;split<;>(try split)<;>decide
 calc (sg x).natAbs*y.natAbs<=1*y.natAbs:=Lx _ h2
  _=y.natAbs:=Nat.one_mul _)
theorem yu{xs ys:List Int}{b:Nat}(hx:AllB b xs)(hy:AllB b ys):∀i,AllB (b+i*(b+1)) (aV xs ys i).1/\AllB (b+i*(b+1)) (aV xs ys i).2
 |0=>by rw[Nat.zero_mul];exact⟨AllB.zeros,hx⟩
 |i+1=>by
  obtain⟨h1,h2⟩:=yu hx hy i;have e:b+(i+1)*(b+1)=b+i*(b+1)+b+1:=by rw[Nat.succ_mul];omega
  have hs:Bits b (((RM.cf ys (ys.length-1)).natAbs:Nat):Int):=sD (hy.cf _);rw[e];show AllB _ (dG ys (aV xs ys i) _).1/\AllB _ (dG ys (aV xs ys i) _).2;unfold dG;dsimp only
  constructor
  ·intro x hx;rcases List.mem_or_eq_of_mem_set hx with h |rfl
   ·obtain⟨y,hy',rfl⟩:=LO.mp h;have:=hs.mul (h1 y hy');exact this.mono (by omega)
   ·exact(kf (h2.cf _)).mono (by omega)
  ·refine AllB.of_cf λn=>?_
   rw[nR];by_cases hn:n<(scL (((RM.cf ys (ys.length-1)).natAbs:Nat):Int) (aV xs ys i).2).length-1
   ·rw[if_pos hn,bK]
    have m1:Bits (b+i*(b+1)+b) ((((RM.cf ys (ys.length-1)).natAbs:Nat):Int)*RM.cf (aV xs ys i).2 n):=by have:=hs.mul (h2.cf n);rwa [Nat.add_comm]at this
    refine m1.sub ?_;by_cases hp:(xs.length+1-ys.length-1-i)<=n
    ·rw[if_pos hp];exact(kf (h2.cf _)).mul (hy.cf _)
    ·rw[if_neg hp];exact Bits.zero
   ·rw[if_neg hn];exact Bits.zero
theorem gN{k:Nat}{b:Int}(h:Bits k b):∀n,Bits (k*n+1) (b^n)
 |0=>by show((b^0:Int)).natAbs<2^(k*0+1);rw[LI,Nat.mul_zero];decide
 |n+1=>by rw[K5];have:=(gN h n).mul h;exact this.mono (by rw[Nat.mul_succ];omega)
def ES(H:Hp)(Q:VK)(xs ys:List Int):Prop:=∀(t q r:Addr) (H':Hp),Same H H'->H t=none->H q=none->H r=none->q≠r->q≠t->r≠t->H' t=some (.tup [.int (b7 xs ys),.ref q,.ref r])->H' q=some (.lst ((cC xs ys).map V.int))->H' r=some (.lst ((aQ xs ys).map V.int))->Q (.ref t) H'
def ma:Sp:=λvs H Q _=>∃(a b:Addr) (xs ys:List Int) (n:Nat),vs=[.ref a,.ref b]/\H a=some (.lst (xs.map V.int))/\H b=some (.lst (ys.map V.int))/\ys≠[]/\AllB n xs/\AllB n ys/\(xs.length+2)*(n+1)<=1000000/\ys.length<=1000000/\ES H Q xs ys
theorem li{l:List Int}(h:l≠[]):atI (l.map V.int) (-1)=some (.int (cf l (l.length-1))):=by
 obtain⟨r,x,rfl⟩:=(dk l).resolve_left h;have e:(r++[x]).length-1=r.length:=by simp
 rw[e,jI,Lu];exact y4 _ _
theorem Dt(F:Fun K "divided" "divided" pM f fd)(T:Txt K mg)(iF:Cal P w K mg base 1 "whole_sign" ["value"] j6 rV rR)(iH:Cal P w K mg base 1 "degree" ["row"] md yh x8)(zi:Cal P w K mg base 1 "scaled" ["row","factor"] um JP IK)(HP:Cal P w K mg base 1 "lowered" ["row","second","place","lead"] uH JV IR)(iG:Cal P w K mg base 1 "poly" ["row"] (gW K) rW rS):FnOk P w K mg base CX0 2 f fd ["first","second"] ma:=by
 refine F.ok ek (λvs H Q E h=>?_) (λcdv A outer s H vs Q E hr h=>?_)
 ·obtain⟨a,b,xs,ys,n,rfl,_⟩:=h;rfl
 ·obtain⟨a,b,xs,ys,nb,rfl,hA,hB,hy,bx,by',hsz,hyn,k⟩:=h;have big:=sizeLine_eq;have hu:=hr.units;have hyl:=KL.mpr hy
  have hxl:xs.length<=1000000:=by have:=Nat.mul_le_mul_left (xs.length+2) (show 1<=nb+1 by omega);omega
  have bsz:∀i,i<=xs.length->nb+i*(nb+1)<=1000000:=λi hi=>by have h1:=Lx (nb+1) hi;rw[Nat.add_mul]at hsz;omega
  have hnb:nb<=1000000:=by have:=bsz 0 (KJ _);omega
  refine⟨_,(af (aM (aE (kF (K:=K) rfl hu) (pv 1) (bh ad))
   (ai wb)
   aS)
   (af (aj 2 ek (cQ jL (by rfl) T.abs_ PyProof.Rows.boot_abs (aa (aN K (pv 1) (ck ci ac)) ad)))
   (af (aj 3 ek (ak iF hr (aa (aN K (pv 1) (ck ci ac)) ad)))
   (af (aj 4 ek (ah bj (ah bB (ak iH hr (aa (pv 0) ad)) (ak iH hr (aa (pv 1) ad))) ac))
   (af (aj 5 ek ac)
   (af (aj 6 ek (ah wB (bh (aa ac ad)) (pv 4)))
   (af (aj 7 ek (eO (lf (K:=K) rfl) (by rfl) T.list_ PyProof.Rows.boot_list (aa (pv 0) ad)))
   (af (cj PassesOwn.never rfl (wn rfl T.range_ (aa (ah bB (pv 4) ac) (aa (ck ci ac) (aa (ck ci ac) ad)))) (bH 8 ek)
     (af (aj 9 ek (ah aD (pv 3) (aN K (pv 7) (ck ci ac))))
       (af (aj 5 ek (ah aD (pv 5) (pv 2)))
       (af (aj 6 ek (ak zi hr (aa (pv 6) (aa (pv 2) ad))))
       (af (jj (pv 9) (jq (pv 6) (pv 8) iU))
       (ai (aj 7 ek (ak HP hr (aa (ak zi hr (aa (pv 7) (aa (pv 2) ad))) (aa (pv 1) (aa (pv 8) (aa (pv 9) ad))))))))))))
   (ai (ax (bJ (aa (pv 5) (aa (pv 6) (aa (ak iG hr (aa (pv 7) ad)) ad)))))))))))))),?_⟩
  refine aU ⟨_,rfl,KJ _,λp1 hp1=>?_⟩;have s1:Same H (upd H p1 (.lst [])):=Same.upd_new hp1;refine⟨b,p1,ys,[],rfl,rfl,SqL.of (s1 _ _ hB),SqL.of ay,_,rfl,aG (λh0=>absurd h0 hy) (λ_=>?_)⟩;generalize upd H p1 (.lst [])=H1 at s1 ⊢
  refine aA ⟨_,rfl,_,rfl,b,_,_,_,rfl,rfl,SqL.of (s1 _ _ hB),li hy,_,rfl,?_⟩;rw[fO];refine aA ⟨_,rfl,_,rfl,b,_,_,_,rfl,rfl,SqL.of (s1 _ _ hB),li hy,_,rfl,?_⟩;refine aA ⟨_,rfl,a,_,rfl,s1 _ _ hA,_,rfl,b,_,rfl,s1 _ _ hB,(ae (ae ?_))⟩;dsimp only
  rw[KF,KF];have est:((xs.length:Int)-1-((ys.length:Int)-1)+1).toNat=bz xs ys:=by unfold bz;omega
  generalize hst:((xs.length:Int)-1-((ys.length:Int)-1)+1)=st at est ⊢
  refine aA ?_;refine aA ⟨by show 1<=sizeLine;decide,λp2 hp2=>⟨_,rfl,p2,_,_,rfl,rfl,ay,by omega,by omega,by show 1*_<=_;omega,λq hq=>?_⟩⟩;rw[est,vL];have s2:=s1.then_new (o:=.lst [V.int 0]) hp2;have s3:=s2.then_new (o:=.lst ((List.replicate (bz xs ys) (0:Int)).map V.int)) hq;have fq:H q=none:=s2.free hq;refine aA ⟨_,rfl,a,_,rfl,.inl (SqL.of (s3 _ _ hA)),λr hr'=>?_⟩;have hq3:upd (upd H1 p2 (.lst [V.int 0])) q (.lst ((List.replicate (bz xs ys) (0:Int)).map V.int)) q=some (.lst ((List.replicate (bz xs ys) (0:Int)).map V.int)):=ay;have s4:=s3.then_new (o:=.lst (xs.map V.int)) hr';have fr:H r=none:=s3.free hr';have nqr:q≠r:=aX hq3 hr';generalize hH4:upd (upd (upd H1 p2 (.lst [V.int 0])) q (.lst ((List.replicate (bz xs ys) (0:Int)).map V.int))) r (.lst (xs.map V.int))=H4 at s4 ⊢
  have hq4:H4 q=some (.lst ((List.replicate (bz xs ys) (0:Int)).map V.int)):=by rw[<- hH4,upd_ne nqr];exact hq3
  have hr4:H4 r=some (.lst (xs.map V.int)):=by rw[<- hH4,ay]
  have hs:Bits nb (((cf ys (ys.length-1)).natAbs:Nat):Int):=sD (by'.cf _);refine⟨_,rfl,(ae ⟨_,rfl,_,rfl,st-1,-1,rfl,by omega,?_⟩)⟩;have en:(st-1 - -1).toNat=bz xs ys:=by rw[<- est];congr 1;omega
  rw[en]
  refine xW (λi σ' H'=>∃(q r:Addr) (z8 z9:Option V),σ'=[some (.ref a),some (.ref b),some (.int ((cf ys (ys.length-1)).natAbs:Nat)),some (.int (sg (cf ys (ys.length-1)))),some (.int st),some (.int (((cf ys (ys.length-1)).natAbs:Int)^i)),some (.ref q),some (.ref r),z8,z9]/\Same H H'/\H q=none/\H r=none/\q≠r/\H' q=some (.lst ((aV xs ys i).1.map V.int))/\H' r=some (.lst ((aV xs ys i).2.map V.int)))
   ⟨q,r,none,none,rfl,s4,fq,fr,nqr,hq4,hr4⟩ ?_ ?_
  ·rintro i σ' H' hi ⟨q,r,z8,z9,rfl,sm,fq,fr,nqr,hq',hr'⟩;obtain⟨lq,lr,low,_⟩:=kZ (a:=xs) hy i (L0 hi);obtain⟨bq,br⟩:=yu bx by' i;have hix:i<xs.length:=by unfold bz at hi;omega
   have bi:=bsz i (L0 hix);have rne:(aV xs ys i).2≠[]:=λz=>by rw[z]at lr;simp at lr;omega
   have ep:st-1+(i:Int) * -1=((xs.length+1-ys.length-1-i:Nat):Int):=by unfold bz at hi est;omega
   refine aA ⟨_,rfl,_,rfl,_,rfl,r,_,_,_,rfl,rfl,SqL.of hr',li rne,(ae ⟨⟨sg_bits.mono,(br.cf _).mono bi⟩,?_⟩)⟩
   have bpow:Bits 1000000 (((cf ys (ys.length-1)).natAbs:Int)^i):=(gN hs i).mono (by
    have:=Lx i (show nb<=nb+1 by omega);rw[Nat.mul_comm (nb+1) i]at this;have h2:=bsz (i+1) hix;rw[Nat.succ_mul]at h2
    omega)
   refine aA ⟨_,rfl,_,rfl,(ae ⟨⟨bpow,hs.mono hnb⟩,?_⟩)⟩;dsimp only
   rw[<- K5];refine aA ⟨_,rfl,_,rfl,q,_,_,rfl,hq',by rw[lq];omega,hs.mono hnb,bq.mono bi,λq1 H2 sm2 hq1 eq1=>?_⟩;have fq1:H q1=none:=sm.free hq1;have sm2':=sm.trans sm2;have hpl:xs.length+1-ys.length-1-i<(scL ((cf ys (ys.length-1)).natAbs:Int) (aV xs ys i).1).length:=by rw[cP,lq];unfold bz at hi;omega
   refine⟨_,rfl,_,rfl,_,rfl,q1,_,_,_,rfl,rfl,eq1,jv ep (by rw[KF];exact hpl),?_⟩;rw[kL];have sm3:Same H (upd H2 q1 (.lst (((scL ((cf ys (ys.length-1)).natAbs:Int) (aV xs ys i).1).set (xs.length+1-ys.length-1-i) (sg (cf ys (ys.length-1))*cf (aV xs ys i).2 ((aV xs ys i).2.length-1))).map V.int))):=fh sm2' fq1;have nq1r:q1≠r:=λz=>by rw[z,hr']at hq1;cases hq1
   have hr3:upd H2 q1 (.lst (((scL ((cf ys (ys.length-1)).natAbs:Int) (aV xs ys i).1).set (xs.length+1-ys.length-1-i) (sg (cf ys (ys.length-1))*cf (aV xs ys i).2 ((aV xs ys i).2.length-1))).map V.int)) r=some (.lst ((aV xs ys i).2.map V.int)):=by rw[upd_ne (Ne.symm nq1r)];exact sm2 _ _ hr'
   have hq3:upd H2 q1 (.lst (((scL ((cf ys (ys.length-1)).natAbs:Int) (aV xs ys i).1).set (xs.length+1-ys.length-1-i) (sg (cf ys (ys.length-1))*cf (aV xs ys i).2 ((aV xs ys i).2.length-1))).map V.int)) q1=some (.lst (((scL ((cf ys (ys.length-1)).natAbs:Int) (aV xs ys i).1).set (xs.length+1-ys.length-1-i) (sg (cf ys (ys.length-1))*cf (aV xs ys i).2 ((aV xs ys i).2.length-1))).map V.int)):=ay;generalize upd H2 q1 (.lst (((scL ((cf ys (ys.length-1)).natAbs:Int) (aV xs ys i).1).set (xs.length+1-ys.length-1-i) (sg (cf ys (ys.length-1))*cf (aV xs ys i).2 ((aV xs ys i).2.length-1))).map V.int))=H3 at sm3 hr3 hq3 ⊢
   refine⟨_,rfl,_,rfl,r,_,_,rfl,hr3,by rw[lr];omega,hs.mono hnb,br.mono bi,λr1 H5 sm5 hr1 er1=>?_⟩;have sm35:=sm3.trans sm5;refine⟨_,rfl,_,rfl,_,rfl,r1,b,_,_,(xs.length+1-ys.length-1-i),sg (cf ys (ys.length-1))*cf (aV xs ys i).2 ((aV xs ys i).2.length-1),?_,er1,sm35 _ _ hB,?_,hy,(kf (br.cf _)).mono bi,by'.mono hnb,λr2 H6 sm6 hr2 er2=>?_⟩
   ·rw[<- ep];rfl
   ·rw[cP,lr];unfold bz at hi;omega
   ·have nqr2:q1≠r2:=λz=>by rw[<- z,sm5 _ _ hq3]at hr2;cases hr2
    exact⟨q1,r2,_,_,rfl,sm35.trans sm6,fq1,sm35.free hr2,nqr2,sm6 _ _ (sm5 _ _ hq3),er2⟩
  ·rintro σ' H' ⟨q,r,z8,z9,rfl,sm,fq,fr,nqr,hq',hr'⟩;refine⟨_,rfl,_,rfl,_,rfl,r,_,rfl,SqL.of hr',λr1 H2 sm2 hr1 er1=>⟨by show 3<=sizeLine;decide,λt ht=>?_⟩⟩;have nqr1:q≠r1:=λz=>by rw[<- z,hq']at hr1;cases hr1
   have ntq:q≠t:=aX (sm2 _ _ hq') ht;have ntr:r1≠t:=aX er1 ht;refine k t q r1 _ ((sm.trans sm2).then_new ht) ((sm.trans sm2).free ht) fq (sm.free hr1) nqr1 ntq ntr ay ?_ ?_
   ·rw[upd_ne ntq];exact sm2 _ _ hq'
   ·rw[upd_ne ntr];exact er1
def Vp(C:Addr)(H:Hp)(vs:List V)(a r:Addr)(ns:List Int)(t b:Int):Prop:=vs=[.ref a,.ref r]/\H a=some (.lst (ns.map V.int))/\RA C H r t b/\ns.length<=20/\AllB 95000 ns/\Bits 3000 t/\Bits 3000 b
def VpI(H:Hp)(vs:List V)(a:Addr)(ns:List Int)(t b:Int):Prop:=vs=[.ref a,.int t,.int b]/\H a=some (.lst (ns.map V.int))/\ns.length<=20/\AllB 95000 ns/\Bits 3000 t/\Bits 3000 b
def ub:Sp:=λvs H Q _=>∃(a:Addr) (ns:List Int) (t b:Int),VpI H vs a ns t b/\∀(p:Addr) (H':Hp),Same H H'->H p=none->H' p=some (.tup [.int (hv t b ns),.int (b^ns.length)])->Q (.ref p) H'
theorem rM{t b:Int}(bt:Bits 3000 t)(bb:Bits 3000 b):∀{l:List Int},AllB 95000 l->Bits (95000+1+(3000+1)*l.length) (hv t b l)
 | [],_=>by refine Bits.mono (j:=1) ?_ (by omega);show(0:Int).natAbs<2^1;decide
 |v::l,h=>by
  rw[dU];have h1:=h v (Ls ..);have h2:=rM bt bb (l:=l) λx hx=>h x (Ll _ hx)
  have e1:=(h1.mul (gN bb (l.length+1))).mono (k:=95000+1+(3000+1)*l.length+3000) (by omega);have e2:=(bt.mul h2).mono (k:=95000+1+(3000+1)*l.length+3000) (by omega);exact(e1.add e2).mono (by rw[Lr];omega)
theorem CP(F:Fun K "value_parts" "value_parts" o3 f fd)(T:Txt K mg):FnOk P w K mg base CX0 1 f fd ["row","top","bottom"] ub:=by
 refine F.ok iV (λvs H Q E h=>?_) (λcdv A outer s H vs Q E hr h=>?_)
 ·obtain⟨a,ns,t,b,⟨rfl,_⟩,_⟩:=h;rfl
 ·obtain⟨a,ns,t,b,⟨rfl,hA,hn,hb,bt,bb⟩,k⟩:=h
  refine⟨_,(af (aj 3 iV ac)
   (af (aj 4 iV ac)
   (af (cj PassesOwn.never rfl (mR rfl T.reversed_ (aa (pv 0) ad)) (bH 5 iV)
     (af (aj 4 iV (ah aD (pv 4) (pv 2)))
       (ai (aj 3 iV (ah bj (ah aD (pv 3) (pv 1)) (ah aD (pv 5) (pv 4)))))))
   (ai (ax (bJ (aa (pv 3) (aa (pv 4) ad)))))))),?_⟩
  have hl:(ns.map V.int).length=ns.length:=KF _;refine aA ?_;refine aA ?_;refine⟨_,rfl,a,_,rfl,SqL.of hA,nC (K:=K) (a:=a) (xs:=ns.map V.int) (λi σ' H'=>∃z:Option V,σ'=[some (.ref a),some (.int t),some (.int b),some (.int (hv t b (ns.drop (ns.length-i)))),some (.int (b^i)),z]/\H=H') ⟨none,?_,rfl⟩ ?_ ?_ ?_⟩
  ·rw[LM,MM,LI];rfl
  ·rintro i σ' H' _ ⟨z,rfl,rfl⟩;exact SqL.of hA
  ·rintro i x σ' H' hi hx ⟨z,rfl,rfl⟩;rw[hl]at hi hx;obtain⟨c,ec,rfl,hc,_⟩:=fJ hx;have hi':i<ns.length:=hi;have e1:ns.length-(i+1)=ns.length-1-i:=by omega
   have hd:=GO t b (l:=ns) (n:=ns.length-1-i) (by omega);have e2:ns.length-1-i+1=ns.length-i:=by omega
   have e3:ns.length-(ns.length-1-i)=i+1:=by omega
   rw[e2,e3,sj ec]at hd;have bs:=rM bt bb (l:=ns.drop (ns.length-i)) λx hx=>hb x (ML hx)
   rw[LL]at bs;have bp:=gN bb i;have bq:=gN bb (i+1);refine⟨_,rfl,_,rfl,(ae ⟨⟨bp.mono (by omega),bb.mono⟩,?_⟩)⟩;refine⟨_,rfl,_,rfl,(ae ⟨⟨bs.mono (by omega),bt.mono⟩,_,rfl,_,rfl,(ae ⟨⟨(hb c hc).mono,?_⟩,(ae ?_)⟩)⟩)⟩
   ·show Bits 1000000 (b^i*b);rw[<- K5];exact bq.mono (by omega)
   refine⟨some (.int c),?_,rfl⟩;rw[e1,hd,K5 b i,L6,K8 t];rfl
  ·rintro σ' H' ⟨z,rfl,rfl⟩;rw[hl,LX,Ma];exact⟨_,rfl,_,rfl,by show 2<=sizeLine;decide,λp hp=>k p _ (Same.upd_new hp) hp ay⟩
def gY(C:Addr):Sp:=λvs H Q _=>∃(a r:Addr) (ns:List Int) (t b:Int),Vp C H vs a r ns t b/\∀H',Same H H'->Q (.int (sg (hv t b ns))) H'
theorem CY(F:Fun K "sign_at" "sign_at" pd f fd)(T:Txt K mg)(R:RCI K mg C)(HE:Cal P w K mg base 1 "value_parts" ["row","top","bottom"] ub JF IA)(iF:Cal P w K mg base 1 "whole_sign" ["value"] j6 rV rR):FnOk P w K mg base CX0 2 f fd ["row","ratio"] (gY C):=by
 refine F.ok A4 (λvs H Q E h=>?_) (λcdv A outer s H vs Q E hr h=>?_)
 ·obtain⟨a,r,ns,t,b,⟨rfl,_⟩,_⟩:=h;rfl
 ·obtain⟨a,r,ns,t,b,hV,k⟩:=h;obtain⟨rfl,hA,⟨dx,hR⟩,hn,hbs,bt,bb⟩:=hV;refine⟨_,(ai (ax (ak iF hr (aa (aq K (ak HE hr (aa (pv 0) (aa (aH (K:=K) rfl (pv 1) rfl) (aa (aH (K:=K) rfl (pv 1) rfl) ad)))) ac) ad)))),?_⟩;refine⟨_,rfl,_,rfl,r,C,dx,_,_,rfl,hR,R.cl,R.nT,cK _ _,_,rfl,r,C,dx,_,_,rfl,hR,R.cl,R.nB,bT _ _,a,ns,t,b,⟨rfl,hA,hn,hbs,bt,bb⟩,λp H1 s1 hp e1=>?_⟩;exact⟨p,_,_,_,rfl,rfl,SqT.of e1,rfl,_,rfl,k H1 s1⟩
def Fit(one other:List Int):Prop:=Tr one/\Tr other/\∃n,AllB n one/\AllB n other/\(one.length+2)*(n+1)<=1000000/\other.length<=1000000
noncomputable def Run:Nat->List Int->List Int->Prop
 |0,one,_=>one=[]
 |n+1,one,other=>one=[]\/(Fit one other/\Run n other (nxt one other))
def ER(H:Hp)(Q:VK)(xss:List (List Int)):Prop:=∀(l:Addr) (ps:List Addr) (H':Hp),Same H H'->H l=none->(∀p∈ps,H p=none/\p≠l)->H' l=some (.lst (ps.map V.ref))->RwH H' ps xss->Q (.ref l) H'
theorem RwH.upd_ne{H:Hp}{ps:List Addr}{xss:List (List Int)}{a:Addr}{o:HO}(h:RwH H ps xss)(hn:∀p∈ps,p≠a):RwH (upd H a o) ps xss:=⟨h.1,λi p xs e1 e2=>by rw[L2.upd_ne (hn p (List.mem_of_getElem? e1))];exact h.2 i p xs e1 e2⟩
def uq:Sp:=λvs H Q _=>∃(a b:Addr) (xs ys:List Int) (n:Nat),vs=[.ref a,.ref b]/\H a=some (.lst (xs.map V.int))/\H b=some (.lst (ys.map V.int))/\Tr xs/\Tr ys/\xs.length<=1000/\ys.length<=1000/\n<=1000/\Run n (aB xs) (aB ys)/\ER H Q (bA n (aB xs) (aB ys))
theorem Dg(F:Fun K "row_from" "row_from" pA f fd)(T:Txt K mg)(ll:Cal P w K mg base 33 "shrunk" ["row"] j4 Gq FX)(lu:Cal P w K mg base 2 "divided" ["first","second"] ma yg x6)(HF:Cal P w K mg base 2 "taken" ["first","second"] (me K cu) JG IB):FnOk P w K mg base CX0 34 f fd ["first","second"] uq:=by
 refine F.ok g9 (λvs H Q E h=>?_) (λcdv A outer s H vs Q E hr h=>?_)
 ·obtain⟨a,b,xs,ys,n,rfl,_⟩:=h;rfl
 ·obtain⟨a,b,xs,ys,n,rfl,hA,hB,xtr,ytr,hx,hy,hn,hrun,k⟩:=h;have big:=sizeLine_eq;have hu:=hr.units
  refine⟨_,(af (aj 2 g9 (bh ad))
   (af (aj 3 g9 (ak ll hr (aa (pv 0) ad)))
   (af (aj 4 g9 (ak ll hr (aa (pv 1) ad)))
   (af (ff PassesOwn.never (aE (re (K:=K) rfl hu) (pv 3) (bh ad))
     (af (f8 (gE (pv 2) (aa (pv 3) ad)))
       (af (aj 5 g9 (qZ (aE (kF (K:=K) rfl hu) (pv 4) (bh ad)) (bh ad) (aq K (ak lu hr (aa (pv 3) (aa (pv 4) ad))) ac)))
       (af (aj 3 g9 (pv 4))
       (ai (aj 4 g9 (ak ll hr (aa (ak HF hr (aa (bh ad) (aa (pv 5) ad))) ad))))))))
   (ai (ax (pv 2))))))),?_⟩
  refine aA ⟨KJ _,λl hl=>?_⟩;have s1:=Same.upd_new (o:=.lst []) hl;have hl1:upd H l (.lst []) l=some (.lst (([]:List Addr).map V.ref)):=ay;generalize upd H l (.lst [])=H1 at s1 hl1 ⊢
  refine aA ⟨_,rfl,a,xs,rfl,s1 _ _ hA,xtr,by omega,λp1 H2 sm2 hp1 e1=>?_⟩;have s2:=s1.trans sm2;refine aA ⟨_,rfl,b,ys,rfl,s2 _ _ hB,ytr,by omega,λp2 H3 sm3 hp2 e2=>?_⟩;have s3:=s2.trans sm3;have n1l:p1≠l:=λz=>by rw[z,hl1]at hp1;cases hp1
  have n2l:p2≠l:=λz=>by rw[z,sm2 _ _ hl1]at hp2;cases hp2
  generalize aB xs=one' at hrun k e1
  generalize aB ys=other at hrun k e2
  refine⟨λm σ' H'=>∃(po pt:Addr) (one other':List Int) (ps:List Addr) (acc:List (List Int)) (z5:Option V),σ'=[some (.ref a),some (.ref b),some (.ref l),some (.ref po),some (.ref pt),z5]/\Same H H'/\H' l=some (.lst (ps.map V.ref))/\RwH H' ps acc/\(∀p∈ps,H p=none/\p≠l)/\H' po=some (.lst (one.map V.int))/\H' pt=some (.lst (other'.map V.int))/\H po=none/\H pt=none/\po≠l/\pt≠l/\Run m one other'/\acc++bA m one other'=bA n one' other/\ps.length+m<=1000,
   ⟨_,p1,p2,one',other,[],[],none,rfl,s3,sm3 _ _ (sm2 _ _ hl1),RwH.nil,(λp hp=>nomatch hp),sm3 _ _ e1,e2,s1.free hp1,s2.free hp2,n1l,n2l,hrun,rfl,by show 0+n<=1000;omega⟩,?_⟩
  rintro m σ' H4 ⟨po,pt,one,other',ps,acc,z5,rfl,s4,hl4,hR4,hf4,ho4,ht4,fo,ft,nol,ntl,hrun4,hacc,hlen⟩;refine⟨_,rfl,KJ _,λq hq=>?_⟩;have t5:=Same.upd_new (o:=.lst []) hq;refine⟨po,q,one,[],rfl,rfl,SqL.of (t5 _ _ ho4),SqL.of ay,_,rfl,cX (λhne=>?_) (λhe=>?_)⟩
  rotate_left
  ·have he':one=[]:=he;subst he';rw[ic,Mn]at hacc;refine⟨_,rfl,k l ps _ (s4.trans t5) hl hf4 (t5 _ _ hl4) ?_⟩;rw[<- hacc];exact hR4.same t5
  have hne':one≠[]:=hne
  obtain⟨m1,rfl⟩:∃m1,m=m1+1:=by
   cases m with
   |zero=>exact absurd hrun4 hne'
   |succ m1=>exact⟨m1,rfl⟩
  obtain⟨⟨otr,ttr,nb,bo,bt,hsz,htl⟩,hrun5⟩:=(show one=[]\/(Fit one other'/\Run m1 other' (nxt one other'))from hrun4).resolve_left hne'
  have hacc5:(acc++[one])++bA m1 other' (nxt one other')=bA n one' other:=by rw[<- hacc];show _=acc++(if one=[]then[]else one::bA m1 other' (nxt one other'));rw[if_neg hne',ME];rfl
  generalize hH5:upd H4 q (.lst [])=H5 at t5 ⊢
  refine⟨_,λ_ _ h=>h,?_⟩;have hl5:=t5 _ _ hl4;refine ie ⟨_,rfl,.inl ⟨rfl,_,SqL.of hl5⟩,_,rfl,l,_,_,rfl,rfl,hl5,by rw[KF];omega,?_⟩;rw[rD];have s6:Same H (upd H5 l (.lst ((ps++[po]).map V.ref))):=fh (s4.trans t5) hl;have hl6:upd H5 l (.lst ((ps++[po]).map V.ref)) l=some (.lst ((ps++[po]).map V.ref)):=ay
  have hf6:∀p∈ps++[po],H p=none/\p≠l:=λp hp=>by
   rcases L1.mp hp with h |h
   ·exact hf4 p h
   ·rw[KP.mp h];exact⟨fo,nol⟩
  have hR6:RwH (upd H5 l (.lst ((ps++[po]).map V.ref))) (ps++[po]) (acc++[one]):=((hR4.same t5).snoc (t5 _ _ ho4)).upd_ne λp hp=>(hf6 p hp).2
  have ho6:upd H5 l (.lst ((ps++[po]).map V.ref)) po=some (.lst (one.map V.int)):=by rw[L2.upd_ne nol];exact t5 _ _ ho4
  have ht6:upd H5 l (.lst ((ps++[po]).map V.ref)) pt=some (.lst (other'.map V.int)):=by rw[L2.upd_ne ntl];exact t5 _ _ ht4
  generalize upd H5 l (.lst ((ps++[po]).map V.ref))=H6 at s6 hl6 hR6 ho6 ht6 ⊢
  refine BO (λσ' H'=>∃pr:Addr,σ'=[some (.ref a),some (.ref b),some (.ref l),some (.ref po),some (.ref pt),some (.ref pr)]/\Same H6 H'/\H' pr=some (.lst ((rst one other').map V.int))) ?_ ?_
  case refine_2 =>
   intro rest;refine bG (qV ⟨_,rfl,KJ _,λq2 hq2=>?_⟩);have t7:=Same.upd_new (o:=.lst []) hq2;refine⟨pt,q2,other',[],rfl,rfl,SqL.of (t7 _ _ ht6),SqL.of ay,_,rfl,aG (λh0=>?_) (λh0=>?_)⟩
   ·have h0':other'=[]:=h0;refine⟨KJ _,λq3 hq3=>rest _ _ ⟨q3,rfl,t7.then_new hq3,?_⟩⟩;rw[ay];unfold rst;rw[if_pos h0'];rfl
   ·have h0':other'≠[]:=h0;refine⟨_,rfl,_,rfl,po,pt,one,other',nb,rfl,t7 _ _ ho6,t7 _ _ ht6,h0',bo,bt,hsz,htl,λt q' r H8 sm8 _ _ _ _ _ _ et _ er=>?_⟩;refine⟨t,_,_,_,rfl,rfl,SqT.of et,rfl,rest _ _ ⟨r,rfl,t7.trans sm8,?_⟩⟩;rw[er];unfold rst;rw[if_neg h0']
  rintro σ' H8 ⟨pr,rfl,t8,hr8⟩;refine aA ⟨_,rfl,?_⟩;refine bG ⟨KJ _,λq hq=>?_⟩;have t9:=t8.then_new (o:=.lst []) hq
  have hrl:(rst one other').length<=1000000:=by
   unfold rst;split
   ·exact KJ _
   ·rename_i h0
    have:=iy (a:=one) h0;omega
  refine⟨_,rfl,q,pr,[],rst one other',rfl,SqL.of ay,SqL.of (by rw[L2.upd_ne (aX hr8 hq)];exact hr8),KJ _,hrl,λp9 H9 sm9 hp9 e9=>?_⟩;have hsl:(cu [] (rst one other')).length<=1000000:=KZ (rF _) (by unfold gj;rw[KF,LY];exact Nat.max_le.mpr ⟨KJ _,hrl⟩);refine⟨p9,_,rfl,e9,fb _,hsl,λp10 H10 kd hp10 e10=>?_⟩;have t10:Same H6 H10:=(t9.trans sm9).trans kd;have f10:H6 p10=none:=(t9.trans sm9).free hp10;refine⟨m1,LK _,pt,p10,other',nxt one other',ps++[po],acc++[one],_,rfl,s6.trans t10,t10 _ _ hl6,hR6.same t10,hf6,t10 _ _ ht6,e10,ft,s6.free f10,ntl,(λz=>by rw[z,hl6]at f10;cases f10),hrun5,hacc5,by rw[Lb];show ps.length+1+m1<=1000;omega⟩
noncomputable def sgs(t b:Int)(xss:List (List Int)):List Int:=xss.map λp=>sg (hv t b p)
def uQ(C:Addr):Sp:=λvs H Q _=>∃(l r:Addr) (ps:List Addr) (xss:List (List Int)) (t b:Int),vs=[.ref l,.ref r]/\H l=some (.lst (ps.map V.ref))/\RwH H ps xss/\RA C H r t b/\Bits 3000 t/\Bits 3000 b/\(∀xs∈xss,xs.length<=20/\AllB 95000 xs)/\xss.length<=1000000/\∀H',Same H H'->Q (.int (chS (sgs t b xss)).1) H'
theorem AN(t b:Int)(xss:List (List Int)):∀s∈sgs t b xss,s.natAbs<=1:=λs hs=>by obtain⟨x,_,rfl⟩:=LO.mp hs;exact vj _
theorem AM{t b:Int}{xss:List (List Int)}{i:Nat}{xs:List Int}(h:xss[i]?=some xs):sgs t b (xss.take (i+1))=sgs t b (xss.take i)++[sg (hv t b xs)]:=by unfold sgs;rw[LQ,h,Lu];rfl
theorem wH{x:Int}(h:x.natAbs<=1):Bits 1000000 x:=Bits.mono (j:=1) (MO h (by decide)) (by decide)
theorem DB(F:Fun K "changes" "changes" pU f fd)(T:Txt K mg)(R:RCI K mg C)(d6:Cal P w K mg base 2 "sign_at" ["row","ratio"] (gY C) kW kS):FnOk P w K mg base CX0 3 f fd ["row","ratio"] (uQ C):=by
 refine F.ok hI (λvs H Q E h=>?_) (λcdv A outer s H vs Q E hr h=>?_)
 ·obtain⟨l,r,ps,xss,t,b,rfl,_⟩:=h;rfl
 ·obtain⟨l,r,ps,xss,t,b,rfl,hL,hR,hRA,bt,bb,hb,hn,k⟩:=h
  refine⟨_,(af (aj 2 hI ac)
   (af (aj 3 hI ac)
   (af (cj PassesOwn.never rfl (dQ (K:=K) rfl (pv 0)) (bH 4 hI)
     (af (aj 5 hI (ak d6 hr (aa (pv 4) (aa (pv 1) ad))))
       (af (aM (aE cr (ah aD (pv 5) (pv 3)) ac)
         (ai (aj 2 hI (ah bj (pv 2) ac)))
         aS)
       (ai (aM (aE ga (pv 5) ac)
         (ai (aj 3 hI (pv 5)))
         aS)))))
   (ai (ax (pv 2)))))),?_⟩
  have hpl:(ps.map V.ref).length=xss.length:=by rw[KF,hR.1]
  refine aA ?_;refine aA ?_;refine⟨_,rfl,l,rfl,⟨_,SqL.of hL⟩,iw (K:=K) (a:=l) (xs:=ps.map V.ref) (λi σ' H'=>∃(z4 z5:Option V),σ'=[some (.ref l),some (.ref r),some (.int (chS (sgs t b (xss.take i))).1),some (.int (chS (sgs t b (xss.take i))).2),z4,z5]/\Same H H') ⟨none,none,rfl,λ_ _ e=>e⟩ ?_ ?_ ?_⟩
  ·rintro i σ' H' _ ⟨z4,z5,rfl,sm⟩;exact SqL.of (sm _ _ hL)
  ·rintro i x σ' H1 hi ⟨z4,z5,rfl,s1⟩;obtain⟨p,xs,rfl,ep,ex,hp,hlt⟩:=hR.of_get hi;obtain⟨hx1,hx2⟩:=hb xs (List.mem_of_getElem? ex);show b8 (fB _ (dW 5)) _ _ _ _;refine aA ⟨_,rfl,_,rfl,p,r,xs,t,b,⟨rfl,s1 _ _ hp,hRA.same s1,hx1,hx2,bt.mono,bb.mono⟩,λH2 sm2=>?_⟩;have s2:=s1.trans sm2;obtain⟨c1,c2,c3⟩:=G4 _ (AN t b (xss.take i));rw[AM ex,yM];have hs:=vj (hv t b xs);generalize sg (hv t b xs)=s at hs ⊢
   generalize chS (sgs t b (xss.take i))=z at c1 ⊢
   obtain⟨m,bf⟩:=z;dsimp only
   refine dP (λσ' H'=>σ'=[some (.ref l),some (.ref r),some (.int (if s*bf<0 then m+1 else m)),some (.int bf),some (.ref p),some (.int s)]/\H2=H') ?_ ?_
   case refine_2 =>
    intro rest;refine⟨_,rfl,_,rfl,(ae ⟨⟨wH hs,wH c1⟩,(ae ⟨_,rfl,aG (λh1=>?_) (λh1=>?_)⟩)⟩)⟩
    ·refine bG ⟨_,rfl,(ae (rest _ _ ⟨?_,rfl⟩))⟩;rw[if_pos h1];rfl
    ·refine rest _ _ ⟨?_,rfl⟩;rw[if_neg h1];rfl
   rintro σ' H' ⟨rfl,rfl⟩;refine⟨_,rfl,(ae ⟨_,rfl,cX (λh1=>?_) (λh1=>?_)⟩)⟩
   ·refine bG ⟨_,rfl,some (.ref p),some (.int s),?_,s2⟩;unfold chF;have h1':¬s=0:=h1;rw[if_neg h1'];rfl
   ·refine⟨some (.ref p),some (.int s),?_,s2⟩;unfold chF;have h1':s=0:=h1;rw[if_pos h1']
  ·rintro σ' H' ⟨z4,z5,rfl,sm⟩;rw[hpl,LB];exact⟨_,rfl,k H' sm⟩
def uO(C:Addr):Sp:=λvs H Q _=>∃(l r r2:Addr) (ps:List Addr) (xss:List (List Int)) (t b t2 b2:Int),vs=[.ref l,.ref r,.ref r2]/\H l=some (.lst (ps.map V.ref))/\RwH H ps xss/\RA C H r t b/\RA C H r2 t2 b2/\Bits 3000 t/\Bits 3000 b/\Bits 3000 t2/\Bits 3000 b2/\(∀xs∈xss,xs.length<=20/\AllB 95000 xs)/\xss.length<=1000000/\∀H',Same H H'->Q (.int ((chS (sgs t b xss)).1-(chS (sgs t2 b2 xss)).1)) H'
theorem Dw(F:Fun K "count" "count" pO f fd)(T:Txt K mg)(R:RCI K mg C)(zk:Cal P w K mg base 3 "changes" ["row","ratio"] (uQ C) J2 IY):FnOk P w K mg base CX0 4 f fd ["row","low","high"] (uO C):=by
 refine F.ok Bc (λvs H Q E h=>?_) (λcdv A outer s H vs Q E hr h=>?_)
 ·obtain⟨l,r,r2,ps,xss,t,b,t2,b2,rfl,_⟩:=h;rfl
 ·obtain⟨l,r,r2,ps,xss,t,b,t2,b2,rfl,hL,hR,h1,h2,bt,bb,bt2,bb2,hb,hn,k⟩:=h;refine⟨_,(ai (ax (ah bB (ak zk hr (aa (pv 0) (aa (pv 1) ad))) (ak zk hr (aa (pv 0) (aa (pv 2) ad)))))),?_⟩;refine aL ⟨_,rfl,_,rfl,l,r,ps,xss,t,b,rfl,hL,hR,h1,bt,bb,hb,hn,λH1 s1=>?_⟩;refine⟨_,rfl,_,rfl,l,r2,ps,xss,t2,b2,rfl,s1 _ _ hL,hR.same s1,h2.same s1,bt2,bb2,hb,hn,λH2 s2=>?_⟩;exact(ae (k _ (s1.trans s2)))
def zf(one other:List Int):Prop:=Tr one/\Tr other/\∃n,AllB n one/\AllB n other/\(one.length+2)*(n+1)<=1000000/\other.length<=1000000
noncomputable def lj:Nat->List Int->List Int->Prop
 |0,_,other=>other=[]
 |n+1,one,other=>other=[]\/(zf one other/\lj n other (aO (aQ one other)))
def uN:Sp:=λvs H Q _=>∃(a b:Addr) (xs ys:List Int) (n:Nat),vs=[.ref a,.ref b]/\H a=some (.lst (xs.map V.int))/\H b=some (.lst (ys.map V.int))/\Tr xs/\Tr ys/\xs.length<=1000/\ys.length<=1000/\lj n (aO xs) (aO ys)/\mkL H Q (eY n (aO xs) (aO ys))
theorem Dy(F:Fun K "common" "common" pR f fd)(T:Txt K mg)(sK:Cal P w K mg base 34 "plain" ["row"] lT JR IM)(lu:Cal P w K mg base 2 "divided" ["first","second"] ma yg x6):FnOk P w K mg base CX0 35 f fd ["first","second"] uN:=by
 refine F.ok iZ (λvs H Q E h=>?_) (λcdv A outer s H vs Q E hr h=>?_)
 ·obtain⟨a,b,xs,ys,n,rfl,_⟩:=h;rfl
 ·obtain⟨a,b,xs,ys,n,rfl,hA,hB,xtr,ytr,hx,hy,hrun,k⟩:=h;have big:=sizeLine_eq;have hu:=hr.units
  refine⟨_,(af (aj 2 iZ (ak sK hr (aa (pv 0) ad)))
   (af (aj 3 iZ (ak sK hr (aa (pv 1) ad)))
   (af (ff PassesOwn.never (aE (re (K:=K) rfl hu) (pv 3) (bh ad))
     (af (aj 4 iZ (ak sK hr (aa (aq K (ak lu hr (aa (pv 2) (aa (pv 3) ad))) ac) ad)))
       (af (aj 2 iZ (pv 3))
       (ai (aj 3 iZ (pv 4))))))
   (ai (ax (pv 2)))))),?_⟩
  refine aA ⟨_,rfl,a,xs,rfl,hA,xtr,by omega,λp1 H1 s1 hp1 e1=>?_⟩;refine aA ⟨_,rfl,b,ys,rfl,s1 _ _ hB,ytr,by omega,λp2 H2 sm2 hp2 e2=>?_⟩;have s2:=s1.trans sm2;generalize aO xs=one' at hrun k e1
  generalize aO ys=other' at hrun k e2
  refine⟨λm σ' H'=>∃(po pt:Addr) (one other:List Int) (z4:Option V),σ'=[some (.ref a),some (.ref b),some (.ref po),some (.ref pt),z4]/\Same H H'/\H' po=some (.lst (one.map V.int))/\H' pt=some (.lst (other.map V.int))/\H po=none/\H pt=none/\lj m one other/\eY m one other=eY n one' other',
   ⟨_,p1,p2,one',other',none,rfl,s2,sm2 _ _ e1,e2,hp1,s1.free hp2,hrun,rfl⟩,?_⟩
  rintro m σ' H3 ⟨po,pt,one,other,z4,rfl,s3,ho,ht,fo,ft,hrun3,hcom⟩;refine⟨_,rfl,KJ _,λq hq=>?_⟩;have t4:=Same.upd_new (o:=.lst []) hq;refine⟨pt,q,other,[],rfl,rfl,SqL.of (t4 _ _ ht),SqL.of ay,_,rfl,cX (λhne=>?_) (λhe=>?_)⟩
  rotate_left
  ·have he':other=[]:=he;subst he';rw[GZ]at hcom;refine⟨_,rfl,k po _ (s3.trans t4) fo ?_⟩;rw[<- hcom];exact t4 _ _ ho
  have hne':other≠[]:=hne
  obtain⟨m1,rfl⟩:∃m1,m=m1+1:=by
   cases m with
   |zero=>exact absurd hrun3 hne'
   |succ m1=>exact⟨m1,rfl⟩
  obtain⟨⟨otr,ttr,nb,bo,bt,hsz,htl⟩,hrun5⟩:=(show other=[]\/(zf one other/\lj m1 other (aO (aQ one other)))from hrun3).resolve_left hne'
  have hcom5:eY m1 other (aO (aQ one other))=eY n one' other':=by
   rw[<- hcom];show _=if other=[]then one else eY m1 other (aO (aQ one other))
   rw[if_neg hne']
  generalize hH5:upd H3 q (.lst [])=H5 at t4 ⊢
  refine⟨_,λ_ _ h=>h,?_⟩
  have hrl:(aQ one other).length<=1000000:=by have:=iy (a:=one) hne';omega
  refine aA ⟨_,rfl,_,rfl,po,pt,one,other,nb,rfl,t4 _ _ ho,t4 _ _ ht,hne',bo,bt,hsz,htl,λt q' r H8 sm8 _ _ _ _ _ _ et _ er=>?_⟩;refine⟨t,_,_,_,rfl,rfl,SqT.of et,rfl,r,_,rfl,er,gr _ _,hrl,λp9 H9 sm9 hp9 e9=>?_⟩;refine aA ⟨_,rfl,?_⟩;refine⟨_,rfl,?_⟩;have t9:=(t4.trans sm8).trans sm9;exact⟨m1,LK _,pt,p9,other,_,_,rfl,s3.trans t9,t9 _ _ ht,e9,ft,s3.free ((t4.trans sm8).free hp9),hrun5,hcom5⟩
theorem DH(F:Fun K "added" "added" pZ f fd)(T:Txt K mg)(iG:Cal P w K mg base 1 "poly" ["row"] (gW K) rW rS)(lA:Cal P w K mg base 1 "coefficient" ["row","place"] (iR K) Gw Gc):FnOk P w K mg base CX0 2 f fd ["first","second"] (me K gP):=by
 refine F.ok vz (λvs H Q E h=>?_) (λcdv A outer s H vs Q E hr h=>?_)
 ·obtain⟨a,b,xs,ys,rfl,_⟩:=h;rfl
 ·obtain⟨a,b,xs,ys,rfl,hA,hB,hx,hy,k⟩:=h
  refine⟨_,(af (aj 2 vz (cQ (yS rfl) (by rfl) T.max_ PyProof.Rows.boot_max (aa (bM K T.len_ (aa (pv 0) ad)) (aa (bM K T.len_ (aa (pv 1) ad)) ad))))
   (ai (ax (ak iG hr (aa (f9 (own:=["k"]) (fr:=["first","second"]) (js:=[0,1]) (by walk_at "comp_ok") rfl (ik rfl T.range_ (aa (pv 2) ad)) (λ_ _ _ _=>(eK (i:=0) (show List.Nodup (["k","first","second"]:List Str)from by decide +kernel) rfl (Or.inl rfl))) (λ_ _ _ _=>(ah bj (ak lA hr (aa (pv 1) (aa (pv 0) ad))) (ak lA hr (aa (pv 2) (aa (pv 0) ad)))))) ad))))),?_⟩
  refine⟨_,rfl,a,_,rfl,.inl hA,_,rfl,b,_,rfl,.inl hB,_,_,rfl,?_⟩;rw[xn,KF,KF];have hz:max xs.length ys.length<=sizeLine:=by have:=sizeLine_eq;omega
  refine⟨_,rfl,_,rfl,(mh hz).1,(mh hz).2,nK (lo:=0) (n:=max xs.length ys.length) (λi zs σ' H'=>∃z:Option V,σ'=[z,some (.ref a),some (.ref b)]/\zs=((List.range i).map λk=>V.int (cf xs k+cf ys k))/\H=H') hz ⟨none,rfl,rfl,rfl⟩ ?_ ?_ ?_⟩
  ·rintro i zs σ' H' _ ⟨z,rfl,rfl,rfl⟩;simp
  ·rintro i zs σ' H' hi ⟨z,rfl,rfl,rfl⟩;refine⟨_,rfl,_,rfl,a,xs,i,?_,hA,_,rfl,_,rfl,b,ys,i,?_,hB,_,_,rfl,rfl,_,rfl,?_,rfl⟩
   ·show[V.ref a,V.int (0+(i:Int))]=_;rw[Lw]
   ·show[V.ref b,V.int (0+(i:Int))]=_;rw[Lw]
   ·rw[List.range_succ,Lu];rfl
  ·rintro zs σ' H' p ⟨z,rfl,rfl,rfl⟩ hp;refine⟨p,(List.range (max xs.length ys.length)).map λk=>cf xs k+cf ys k,rfl,SqL.of ?_,?_⟩
   ·rw[ay,L7];rfl
   ·intro p' H' sm hp' e;refine k p' H' ((Same.upd_new hp).trans sm) ((Same.upd_new hp).free hp') ?_;rw[e,Hv]
def j7:Sp:=λvs H Q _=>∃(a b:Addr) (xs ys:List Int),vs=[.ref a,.ref b]/\H a=some (.lst (xs.map V.int))/\H b=some (.lst (ys.map V.int))/\xs.length<=1000000/\ys.length<=1000000/\AllB 1000000 xs/\AllB 1000000 ys/\mkL H Q (am xs ys)
theorem Dl(F:Fun K "multiplied" "multiplied" pF f fd)(T:Txt K mg):FnOk P w K mg base CX0 1 f fd ["first","second"] j7:=by
 refine F.ok iX (λvs H Q E h=>?_) (λcdv A outer s H vs Q E hr h=>?_)
 ·obtain⟨a,b,xs,ys,rfl,_⟩:=h;rfl
 ·obtain⟨a,b,xs,ys,rfl,hA,hB,hx,hy,bx,by',k⟩:=h;have hu:=hr.units
  refine⟨_,(af (aM (PW.pt (du (aE (kF (K:=K) rfl hu) (pv 0) (bh ad)) (fe (aE (kF (K:=K) rfl hu) (pv 1) (bh ad)))))
   (ai (ax (bh ad)))
   aS)
   (af (aj 2 iX (ah wB (bh (aa ac ad)) (ah bB (ah bj (bM K T.len_ (aa (pv 0) ad)) (bM K T.len_ (aa (pv 1) ad))) ac)))
   (af (cj PassesOwn.never rfl (jn rfl T.enumerate_ (aa (pv 0) ad)) (jp rfl (eJ (bH 3 iX) (eJ (bH 4 iX) jo)))
     (ai (cj PassesOwn.never rfl (jn rfl T.enumerate_ (aa (pv 1) ad)) (jp rfl (eJ (bH 5 iX) (eJ (bH 6 iX) jo)))
       (ai (jj (ah bj (aN K (pv 2) (ah bj (pv 3) (pv 5))) (ah aD (pv 4) (pv 6))) (jq (pv 2) (ah bj (pv 3) (pv 5)) iU))))))
   (ai (ax (pv 2)))))),?_⟩
  refine⟨_,rfl,KJ _,λp1 hp1=>?_⟩;have s1:Same H (upd H p1 (.lst [])):=Same.upd_new hp1;refine⟨a,p1,xs,[],rfl,rfl,SqL.of (s1 _ _ hA),SqL.of ay,_,rfl,?_⟩;refine aG (λh0=>?_) (λh0=>?_)
  ·refine dm ⟨KJ _,λp2 hp2=>k p2 _ (s1.then_new hp2) (s1.free hp2) ?_⟩;rw[ay];unfold am;rw[if_pos (.inl h0)];rfl
  refine⟨_,rfl,KJ _,λp2 hp2=>?_⟩;have s2:Same H (upd (upd H p1 (.lst [])) p2 (.lst [])):=s1.then_new hp2;refine⟨b,p2,ys,[],rfl,rfl,SqL.of (s2 _ _ hB),SqL.of ay,_,rfl,?_⟩;refine aG (λh1=>?_) (λh1=>?_)
  ·refine⟨KJ _,λp3 hp3=>k p3 _ (s2.then_new hp3) (s2.free hp3) ?_⟩;rw[ay];unfold am;rw[if_pos (.inr h1)];rfl
  generalize upd (upd H p1 (.lst [])) p2 (.lst [])=H2 at s2 ⊢
  obtain⟨la,ea⟩:∃la,xs.length=la+1:=⟨xs.length-1,by have:=KL.mpr h0;omega⟩;obtain⟨lb,eb⟩:∃lb,ys.length=lb+1:=⟨ys.length-1,by have:=KL.mpr h1;omega⟩;refine⟨(by show 1<=sizeLine;decide),λp3 hp3=>?_⟩;have s3:=s2.then_new (o:=.lst [V.int 0]) hp3;have big:=sizeLine_eq;refine⟨_,rfl,a,_,rfl,.inl (SqL.of (s3 _ _ hA)),_,rfl,b,_,rfl,.inl (SqL.of (s3 _ _ hB)),(ae (ae ⟨p3,_,_,rfl,rfl,ay,?_,?_,?_,λp hp=>?_⟩))⟩
  ·rw[KF,KF];omega
  ·rw[KF,KF];omega
  ·rw[KF,KF];show 1*_<=_;omega
  have en:(((xs.map V.int).length:Int)+((ys.map V.int).length:Int)-1).toNat=la+lb+1:=by rw[KF,KF];omega
  rw[en,vL];have s4:=s3.then_new (o:=.lst ((List.replicate (la+lb+1) (0:Int)).map V.int)) hp;have npa:a≠p:=s3.ne hA hp;have npb:b≠p:=s3.ne hB hp;generalize hH4:upd (upd H2 p3 (.lst [V.int 0])) p (.lst ((List.replicate (la+lb+1) (0:Int)).map V.int))=H4 at s4 ⊢
  have hp4:H4 p=some (.lst ((List.replicate (la+lb+1) (0:Int)).map V.int)):=by rw[<- hH4,ay]
  refine⟨_,rfl,a,rfl,⟨_,SqL.of (s4 _ _ hA)⟩,jz (K:=K) (a:=a) (xs:=xs.map V.int) (λj σ' H'=>∃(acc:List Int) (z3 z4 z5 z6:Option V),σ'=[some (.ref a),some (.ref b),some (.ref p),z3,z4,z5,z6]/\SameB p H4 H'/\H' p=some (.lst (acc.map V.int))/\acc.length=la+lb+1/\∀n,n<acc.length->cf acc n=sm xs ys n j)
   ⟨List.replicate (la+lb+1) 0,none,none,none,none,rfl,SameB.refl _ _,hp4,by simp,λn _=>by rw[k8];rfl⟩ ?_ ?_ ?_⟩
  ·rintro j σ' H' _ ⟨acc,z3,z4,z5,z6,rfl,sb,_⟩;exact SqL.of (sb _ _ npa (s4 _ _ hA))
  ·rintro j x σ' H' q hj ⟨acc,z3,z4,z5,z6,rfl,sb,hpa,hal,hac⟩ hq;rw[List.getElem?_map]at hj
   have hjl:j<xs.length:=by apply Classical.byContradiction;intro hn;rw[List.getElem?_eq_none_iff.mpr (LA hn)]at hj;cases hj
   rw[fm hjl]at hj;obtain rfl:=Option.some.inj hj;refine⟨q,_,rfl,SqT.of ay,rfl,_,_,rfl,_,_,rfl,rfl,?_⟩;have nqp:p≠q:=aX hpa hq;have sb1:SameB p H4 (upd H' q (.tup [.int j,.int (cf xs j)])):=sb.then_new hq
   refine⟨_,rfl,b,rfl,⟨_,SqL.of (sb1 _ _ npb (s4 _ _ hB))⟩,jz (K:=K) (a:=b) (xs:=ys.map V.int) (λi σ' H'=>∃(acc:List Int) (z5 z6:Option V),σ'=[some (.ref a),some (.ref b),some (.ref p),some (.int j),some (.int (cf xs j)),z5,z6]/\SameB p H4 H'/\H' p=some (.lst (acc.map V.int))/\acc.length=la+lb+1/\∀n,n<acc.length->cf acc n=sm xs ys n j+(if j<=n/\n-j<i then tm xs ys n j else 0))
    ⟨acc,z5,z6,rfl,sb1,by rw[upd_ne nqp];exact hpa,hal,wX hac⟩ ?_ ?_ ?_⟩
   ·rintro i σ' H' _ ⟨acc,z5,z6,rfl,sb,_⟩;exact SqL.of (sb _ _ npb (s4 _ _ hB))
   ·rintro i x σ' H' q hi ⟨acc,z5,z6,rfl,sb,hpa,hal,hac⟩ hq;rw[List.getElem?_map]at hi
    have hil:i<ys.length:=by apply Classical.byContradiction;intro hn;rw[List.getElem?_eq_none_iff.mpr (LA hn)]at hi;cases hi
    rw[fm hil]at hi;obtain rfl:=Option.some.inj hi;refine⟨q,_,rfl,SqT.of ay,rfl,_,_,rfl,_,_,rfl,rfl,?_⟩;have nqp:p≠q:=aX hpa hq;have hpa':upd H' q (.tup [.int i,.int (cf ys i)]) p=some (.lst (acc.map V.int)):=by rw[upd_ne nqp];exact hpa
    have hji:j+i<acc.length:=by omega
    have eji:((j:Nat):Int)+((i:Nat):Int)=((j+i:Nat):Int):=by omega
    refine⟨_,rfl,_,rfl,_,rfl,(ae ⟨p,_,_,_,rfl,rfl,SqL.of hpa',lg eji hji,_,rfl,_,rfl,(ae ⟨⟨bx.cf j,by'.cf i⟩,(ae ⟨_,rfl,_,rfl,_,rfl,(ae ⟨p,_,_,j+i,rfl,rfl,hpa',jv eji (by rw[KF];exact hji),?_⟩)⟩)⟩)⟩)⟩;refine⟨acc.set (j+i) (cf acc (j+i)+cf xs j*cf ys i),_,_,rfl,(sb.then_new hq).then_upd,by rw[ay,kL],by rw[LW];exact hal,wW hjl hil hji hac⟩
   ·rintro σ' H' ⟨acc,z5,z6,rfl,sb,hpa,hal,hac⟩;rw[KF]at hac;exact⟨acc,_,_,_,_,rfl,sb,hpa,hal,wY hac⟩
  ·rintro σ' H' ⟨acc,z3,z4,z5,z6,rfl,sb,hpa,hal,hac⟩;rw[KF]at hac;refine⟨_,rfl,k p H' (λb' o e=>sb b' o (s3.ne e hp) (s4 b' o e)) (s3.free hp) ?_⟩;rw[hpa]
   have e:acc=am xs ys:=by
    apply fu
    ·rw[hal];unfold am;rw[if_neg (by intro z;exact z.elim h0 h1),KF,LY];omega
    ·intro n _;rw[aW,wZ (by omega) hac]
   rw[e]
def uz(C:Addr):Sp:=λvs H Q _=>∃(p q:Addr) (t b u d:Int) (i j:Nat),vs=[.ref p,.ref q]/\RA C H p t b/\RA C H q u d/\Bits 100000 t/\Bits i b/\Bits 100000 u/\Bits j d/\i+j<=9000/\0<b/\0<d/\mkR C H Q (t*d+u*b) (b*d)
theorem Ek(F:Fun K "plus" "Ratio.plus" qQ f fd)(T:Txt K mg)(R:RCI K mg C)(d7:KCal P w K mg base 2 C "Ratio" ["self","top","bottom"] (fC C) jB jA jC [.int 1]):FnOk P w K mg base CX0 4 f fd ["self","other"] (uz C):=by
 obtain⟨dg,de,c7,dd,jO,jE⟩:=d7;refine F.ok Bw (λvs H Q E h=>?_) (λcdv A outer s H vs Q E hr h=>?_)
 ·obtain⟨p,q,t,b,u,d,i,j,rfl,_⟩:=h;rfl
 ·obtain⟨p,q,t,b,u,d,i,j,rfl,⟨dx,hp⟩,⟨dy,hq⟩,bt,bb,bu,bd,hij,hb,hd,k⟩:=h;have bb':Bits 1000000 b:=bb.mono (by omega);have bd':Bits 1000000 d:=bd.mono (by omega);refine⟨_,(ai (ax (fE de dg (hr.mono) rfl c7 dd .nil b9 (aa (ah bj (ah aD (aH (K:=K) rfl (pv 0) rfl) (aH (K:=K) rfl (pv 1) rfl)) (ah aD (aH (K:=K) rfl (pv 1) rfl) (aH (K:=K) rfl (pv 0) rfl))) (aa (ah aD (aH (K:=K) rfl (pv 0) rfl) (aH (K:=K) rfl (pv 1) rfl)) ad))))),?_⟩;refine⟨_,rfl,p,C,dx,_,_,rfl,hp,R.cl,R.nT,cK _ _,_,rfl,q,C,dy,_,_,rfl,hq,R.cl,R.nB,bT _ _,_,_,rfl,rfl,⟨bt.mono,bd'⟩,?_⟩;refine⟨_,rfl,q,C,dy,_,_,rfl,hq,R.cl,R.nT,cK _ _,_,rfl,p,C,dx,_,_,rfl,hp,R.cl,R.nB,bT _ _,_,_,rfl,rfl,⟨bu.mono,bb'⟩,_,_,rfl,rfl,?_⟩;refine⟨_,rfl,p,C,dx,_,_,rfl,hp,R.cl,R.nB,bT _ _,_,rfl,q,C,dy,_,_,rfl,hq,R.cl,R.nB,bT _ _,_,_,rfl,rfl,⟨bb',bd'⟩,?_⟩;exact gf (Ln (KG hb hd)) ((bb.mul bd).mono hij) k
def uG(C:Addr):Sp:=λvs H Q _=>∃(p q:Addr) (t b u d:Int) (i j:Nat),vs=[.ref p,.ref q]/\RA C H p t b/\RA C H q u d/\Bits 100000 t/\Bits i b/\Bits 100000 u/\Bits j d/\i+j<=9000/\0<b/\0<d/\mkR C H Q (t*d-u*b) (b*d)
theorem El(F:Fun K "minus" "Ratio.minus" qR f fd)(T:Txt K mg)(R:RCI K mg C)(d7:KCal P w K mg base 2 C "Ratio" ["self","top","bottom"] (fC C) jB jA jC [.int 1]):FnOk P w K mg base CX0 4 f fd ["self","other"] (uG C):=by
 obtain⟨dg,de,c7,dd,jO,jE⟩:=d7;refine F.ok By (λvs H Q E h=>?_) (λcdv A outer s H vs Q E hr h=>?_)
 ·obtain⟨p,q,t,b,u,d,i,j,rfl,_⟩:=h;rfl
 ·obtain⟨p,q,t,b,u,d,i,j,rfl,⟨dx,hp⟩,⟨dy,hq⟩,bt,bb,bu,bd,hij,hb,hd,k⟩:=h;have bb':Bits 1000000 b:=bb.mono (by omega);have bd':Bits 1000000 d:=bd.mono (by omega);refine⟨_,(ai (ax (fE de dg (hr.mono) rfl c7 dd .nil b9 (aa (ah bB (ah aD (aH (K:=K) rfl (pv 0) rfl) (aH (K:=K) rfl (pv 1) rfl)) (ah aD (aH (K:=K) rfl (pv 1) rfl) (aH (K:=K) rfl (pv 0) rfl))) (aa (ah aD (aH (K:=K) rfl (pv 0) rfl) (aH (K:=K) rfl (pv 1) rfl)) ad))))),?_⟩;refine⟨_,rfl,p,C,dx,_,_,rfl,hp,R.cl,R.nT,cK _ _,_,rfl,q,C,dy,_,_,rfl,hq,R.cl,R.nB,bT _ _,_,_,rfl,rfl,⟨bt.mono,bd'⟩,?_⟩;refine⟨_,rfl,q,C,dy,_,_,rfl,hq,R.cl,R.nT,cK _ _,_,rfl,p,C,dx,_,_,rfl,hp,R.cl,R.nB,bT _ _,_,_,rfl,rfl,⟨bu.mono,bb'⟩,_,_,rfl,rfl,?_⟩;refine⟨_,rfl,p,C,dx,_,_,rfl,hp,R.cl,R.nB,bT _ _,_,rfl,q,C,dy,_,_,rfl,hq,R.cl,R.nB,bT _ _,_,_,rfl,rfl,⟨bb',bd'⟩,?_⟩;exact gf (Ln (KG hb hd)) ((bb.mul bd).mono hij) k
def ot(C:Addr):Sp:=λvs H Q _=>∃(p q:Addr) (t b u d:Int) (i j:Nat),vs=[.ref p,.ref q]/\RA C H p t b/\RA C H q u d/\Bits 100000 t/\Bits i b/\Bits 100000 u/\Bits j d/\i+j<=9000/\0<b/\0<d/\mkR C H Q (t*u) (b*d)
theorem Ej(F:Fun K "times" "Ratio.times" qO f fd)(T:Txt K mg)(R:RCI K mg C)(d7:KCal P w K mg base 2 C "Ratio" ["self","top","bottom"] (fC C) jB jA jC [.int 1]):FnOk P w K mg base CX0 4 f fd ["self","other"] (ot C):=by
 obtain⟨dg,de,c7,dd,jO,jE⟩:=d7;refine F.ok Bv (λvs H Q E h=>?_) (λcdv A outer s H vs Q E hr h=>?_)
 ·obtain⟨p,q,t,b,u,d,i,j,rfl,_⟩:=h;rfl
 ·obtain⟨p,q,t,b,u,d,i,j,rfl,⟨dx,hp⟩,⟨dy,hq⟩,bt,bb,bu,bd,hij,hb,hd,k⟩:=h;refine⟨_,(ai (ax (fE de dg (hr.mono) rfl c7 dd .nil b9 (aa (ah aD (aH (K:=K) rfl (pv 0) rfl) (aH (K:=K) rfl (pv 1) rfl)) (aa (ah aD (aH (K:=K) rfl (pv 0) rfl) (aH (K:=K) rfl (pv 1) rfl)) ad))))),?_⟩;refine⟨_,rfl,p,C,dx,_,_,rfl,hp,R.cl,R.nT,cK _ _,_,rfl,q,C,dy,_,_,rfl,hq,R.cl,R.nT,cK _ _,_,_,rfl,rfl,⟨bt.mono,bu.mono⟩,?_⟩;refine⟨_,rfl,p,C,dx,_,_,rfl,hp,R.cl,R.nB,bT _ _,_,rfl,q,C,dy,_,_,rfl,hq,R.cl,R.nB,bT _ _,_,_,rfl,rfl,⟨bb.mono (by omega),bd.mono (by omega)⟩,?_⟩;exact gf (Ln (KG hb hd)) ((bb.mul bd).mono hij) k
theorem yr{l:List Int}{i:Nat}{c:Int}(hi:i<l.length)(e:l[l.length-1-i]?=some c):l.drop (l.length-(i+1))=c::l.drop (l.length-i):=by
 have h:l.length-(i+1)=l.length-1-i:=by omega
 rw[h,MF (by omega)];have h2:l.length-1-i+1=l.length-i:=by omega
 rw[h2];have h3:=List.getElem?_eq_getElem (l:=l) (i:=l.length-1-i) (by omega);rw[h3]at e;rw[Option.some.inj e]
theorem jk(n:Nat):(0:Int)<2^n:=Mj (by decide)
theorem ij(n:Nat):(2:Int)^n=((2^n:Nat):Int):=by rw[Mb];rfl
theorem ku{n k:Nat}(h:n<k):Bits k ((2:Int)^n):=by rw[ij];show(((2^n:Nat):Int)).natAbs<2^k;rw[Lp];exact(Nat.pow_lt_pow_iff_right (by decide)).mpr h
theorem lD:Bits 1000000 (2:Int):=Bits.mono (j:=2) (by show(2:Int).natAbs<2^2;decide) (by decide)
def uK(C:Addr):Sp:=λvs H Q _=>∃(r wd:Addr) (r1 r2 w1 w2:Int) (kr kw:Nat),vs=[.ref r,.ref wd]/\RA C H r r1 r2/\RA C H wd w1 w2/\0<r2/\0<w1/\Bits kr r1/\Bits 100000 r2/\Bits 100000 w1/\Bits kw w2/\kr+kw<=100000/\∀n:Nat,n<=kr+kw->r1*w2<=w1*r2*2^n->(∀j:Nat,j<n->w1*r2*2^j<r1*w2)->Q (.int n) H
theorem Dq(F:Fun K "halvings" "halvings" pJ f fd)(T:Txt K mg)(R:RCI K mg C):FnOk P w K mg base CX0 1 f fd ["reach","width"] (uK C):=by
 refine F.ok iY (λvs H Q E h=>?_) (λcdv A outer s H vs Q E hr h=>?_)
 ·obtain⟨r,wd,r1,r2,w1,w2,kr,kw,rfl,_⟩:=h;rfl
 ·obtain⟨r,wd,r1,r2,w1,w2,kr,kw,rfl,⟨dr,hR⟩,⟨dw,hW⟩,hr2,hw1,br1,br2,bw1,bw2,hkk,k⟩:=h
  refine⟨_,(af (aj 2 iY (ah aD (aH (K:=K) rfl (pv 0) rfl) (aH (K:=K) rfl (pv 1) rfl)))
   (af (aj 3 iY (ah aD (aH (K:=K) rfl (pv 1) rfl) (aH (K:=K) rfl (pv 0) rfl)))
   (af (aj 4 iY ac)
   (af (ff PassesOwn.never (aE ca (pv 2) (pv 3))
     (af (aj 3 iY (ah aD ac (pv 3)))
       (ai (aj 4 iY (ah bj (pv 4) ac)))))
   (ai (ax (pv 4))))))),?_⟩
  refine aA ⟨_,rfl,r,C,dr,_,_,rfl,hR,R.cl,R.nT,cK _ _,_,rfl,wd,C,dw,_,_,rfl,hW,R.cl,R.nB,bT _ _,(ae ⟨⟨br1.mono (by omega),bw2.mono (by omega)⟩,?_⟩)⟩;refine aA ⟨_,rfl,wd,C,dw,_,_,rfl,hW,R.cl,R.nT,cK _ _,_,rfl,r,C,dr,_,_,rfl,hR,R.cl,R.nB,bT _ _,(ae ⟨⟨bw1.mono,br2.mono⟩,?_⟩)⟩;have bW:Bits (kr+kw) (r1*w2):=br1.mul bw2;have g0:0<w1*r2:=KG hw1 hr2;refine aA ?_;dsimp only
  generalize r1*w2=W at *
  generalize w1*r2=g at *
  show b8 _ _ _ _ _
  have b0:∀n:Nat,(∀j:Nat,j<n->g*2^j<W)->n<=kr+kw:=λn hn=>by
   rcases Nat.lt_or_ge (kr+kw) n with z |z
   ·have h1:=hn (kr+kw) z
    have h2:(2:Int)^(kr+kw)<=g*2^(kr+kw):=by have:=KT (show(1:Int)<=g by omega) (KI (jk (kr+kw)));omega
    have h3:W.natAbs<2^(kr+kw):=bW;have h5:(W.natAbs:Int)<((2^(kr+kw):Nat):Int):=Int.ofNat_lt.mpr h3;rw[<- ij]at h5;generalize (2:Int)^(kr+kw)=Y at *
    omega
   ·exact z
  refine⟨λm σ' H'=>∃n:Nat,σ'=[some (.ref r),some (.ref wd),some (.int W),some (.int (g*2^n)),some (.int n)]/\H=H'/\m=(W-g*2^n).toNat/\∀j:Nat,j<n->g*2^j<W,⟨_,0,by rw[LI,Le];rfl,rfl,rfl,λj hj=>absurd hj (Nat.not_lt_zero _)⟩,?_⟩;rintro m σ' H' ⟨n,rfl,rfl,rfl,hj⟩;refine⟨_,rfl,_,rfl,(ae ⟨_,rfl,aG (λhgt=>?_) (λhle=>?_)⟩)⟩
  ·have hgt':g*2^n<W:=hgt;have gp:0<g*2^n:=KG g0 (jk n);have bg:Bits (kr+kw) (g*2^n):=bW.of_le (by omega);refine⟨_,λ_ _ h=>h,?_⟩;have e2:2*(g*2^n)=g*2^(n+1):=by rw[K5];grind
   refine aA ⟨_,rfl,(ae ⟨⟨lD,bg.mono (by omega)⟩,?_⟩)⟩;refine bG ⟨_,rfl,(ae ?_)⟩;refine⟨(W-g*2^(n+1)).toNat,by rw[<- e2];omega,n+1,by rw[<- e2];rfl,rfl,rfl,λj h'=>?_⟩;by_cases ej:j=n
   ·subst ej;exact hgt'
   ·exact hj j (by omega)
  ·refine⟨_,rfl,k n (b0 n hj) ?_ hj⟩;have:¬g*2^n<W:=hle;omega
theorem ib{k:Nat}{t b:Int}(hb:b≠0)(h:Bits k t):Bits k (rt t b):=h.of_le (BF hb)
theorem ig{k:Nat}{t b:Int}(hb:b≠0)(h:Bits k b):Bits k (rb t b):=h.of_le (BP hb)
theorem wO:¬(("plus":Str)="bottom")/\¬(("plus":Str)="top"):=⟨by decide +kernel,by decide +kernel⟩
theorem wP:¬(("minus":Str)="bottom")/\¬(("minus":Str)="top"):=⟨by decide +kernel,by decide +kernel⟩
theorem mS:¬(("times":Str)="bottom")/\¬(("times":Str)="top"):=⟨by decide +kernel,by decide +kernel⟩
def uU(C:Addr):Sp:=λvs H Q _=>∃(l r:Addr) (l1 l2 r1 r2 pl pc:Int) (i j n:Nat),vs=[.ref l,.ref r,.int pl,.int pc]/\RA C H l l1 l2/\RA C H r r1 r2/\0<l2/\0<r2/\0<pc/\Bits i l1/\Bits i l2/\Bits j r1/\Bits j r2/\Bits n pl/\Bits n pc/\i+(j+n)<=9000 /\
 ∀(x:Addr) (H':Hp) (x1 x2:Int),Same H H'->H x=none->RA C H' x x1 x2->0<x2->x1*(l2*r2*pc)=(l1*r2*pc+r1*l2*pl)*x2->Bits (i+(j+n)+1) x1->Bits (i+(j+n)+1) x2->Nat.gcd x1.natAbs x2.natAbs=1->Q (.ref x) H'
theorem DE(F:Fun K "along" "along" pW f fd)(T:Txt K mg)(R:RCI K mg C)(Ir:MCal P w K mg base 4 C "plus" ["self","other"] (uz C) Ky JC)(sR:MCal P w K mg base 4 C "times" ["self","other"] (ot C) GH Gn)(d7:KCal P w K mg base 2 C "Ratio" ["self","top","bottom"] (fC C) jB jA jC [.int 1]):FnOk P w K mg base CX0 5 f fd ["low","reach","place","pieces"] (uU C):=by
 obtain⟨HA,EN,Hj⟩:=Ir;obtain⟨sH,rC,sC⟩:=sR;obtain⟨dg,de,c7,dd,jO,jE⟩:=d7;refine F.ok Bh (λvs H Q E h=>?_) (λcdv A outer s H vs Q E hr h=>?_)
 ·obtain⟨l,r,l1,l2,r1,r2,pl,pc,i,j,n,rfl,_⟩:=h;rfl
 ·obtain⟨l,r,l1,l2,r1,r2,pl,pc,i,j,n,rfl,hL,hR,hl2,hr2,hpc,bl1,bl2,br1,br2,bpl,bpc,hijn,k⟩:=h;refine⟨_,(ai (ax (dA (pv 0) R.cl EN HA (hr.mono) Hj .nil b9 (aa (dA (pv 1) R.cl rC sH (hr.mono) sC .nil b9 (aa (fE de dg (hr.mono) rfl c7 dd .nil b9 (aa (pv 2) (aa (pv 3) ad))) ad)) ad)))),?_⟩;obtain⟨dl,hl⟩:=id hL;obtain⟨dr,hrr⟩:=id hR;have pc0:pc≠0:=Ln hpc;refine aL ⟨_,rfl,l,dl,_,rfl,hl,dF _ _ wO.1 wO.2,_,rfl,r,dr,_,rfl,hrr,dF _ _ mS.1 mS.2,_,rfl,_,rfl,gf pc0 (bpc.mono (by omega)) λxa H1 s1 ha hRa=>?_⟩;have a0:0<rb pl pc:=cR pc0;have ba1:Bits n (rt pl pc):=ib pc0 bpl;have ba2:Bits n (rb pl pc):=ig pc0 bpc;have ea:=mK (t:=pl) pc0;generalize rt pl pc=a1 at *
  generalize rb pl pc=a2 at *
  refine⟨r,xa,r1,r2,a1,a2,j,n,rfl,hR.same s1,hRa,br1.mono (by omega),br2,ba1.mono (by omega),ba2,by omega,hr2,a0,λxc H2 s2 hc hRc=>?_⟩;have d0:r2*a2≠0:=Ln (KG hr2 a0);have c0:0<rb (r1*a1) (r2*a2):=cR d0;have bc1:Bits (j+n) (rt (r1*a1) (r2*a2)):=ib d0 (br1.mul ba1);have bc2:Bits (j+n) (rb (r1*a1) (r2*a2)):=ig d0 (br2.mul ba2);have ec:=mK (t:=r1*a1) d0;generalize rt (r1*a1) (r2*a2)=c1 at *
  generalize rb (r1*a1) (r2*a2)=c2 at *
  have t2:=s1.trans s2;refine⟨l,xc,l1,l2,c1,c2,i,j+n,rfl,hL.same t2,hRc,bl1.mono (by omega),bl2,bc1.mono (by omega),bc2,hijn,hl2,c0,λxx H3 s3 hx hRx=>?_⟩;have x0:l2*c2≠0:=Ln (KG hl2 c0);refine k xx H3 _ _ (t2.trans s3) (t2.free hx) hRx (cR x0) (Ho a0 c0 ea ec (mK x0)) ?_ ?_ (qW x0)
  ·refine(ib x0 ?_);exact Bits.add (bl1.mul bc2) ((bc1.mul bl2).mono (by omega))
  ·exact(ig x0 (bl2.mul bc2)).mono (by omega)
theorem EV{i j:Nat}{a b c:Int}{l:List Int}(hl:AllB i l)(ha:Bits j a)(hb:Bits j b)(hc:Bits (i+j) c):AllB (i+j+1) (mb a b c l):=AllB.of_cf λn=>by
 rw[iC];refine Bits.add ?_ ?_
 ·exact(ha.neg.mul (hl.cf n)).mono (by omega)
 ·split
  ·exact hc
  ·exact(hb.mul (hl.cf (n-1))).mono (by omega)
theorem tO{kv j:Nat}{m s0 s1:Int}(hm:Bits j m)(h0:Bits j s0)(h1:Bits j s1):∀{l:List Int},AllB kv l->AllB (kv+(j+1)*l.length+1) (bO m s0 s1 l)
 | [],_=>AllB.nil
 |v::l,h=>by
  have ih:=tO hm h0 h1 (l:=l) λx hx=>h x (Ll _ hx)
  have hv:=h v (Ls ..)
  have:=EV (c:=v*m^l.length) ih h0.neg h1 ((hv.mul (gN hm l.length)).mono (by
   have:(j+1)*l.length=j*l.length+l.length:=by rw[Nat.add_mul,Nat.one_mul]
   omega))
  refine AllB.mono this ?_;rw[Lr,Nat.mul_add,Nat.mul_one];omega
theorem An{a b c:Int}{l:List Int}(hne:l≠[])(hT:Tr (mb a b c l)):gP (am l [-a,b]) (trim [c])=mb a b c l:=by
 refine kY (fb _) hT λk=>?_
 unfold gP;rw[fM,k9,fM,K4,EJ hne,iC,iC];rcases k with _ |k
 ·show _+0+c=_+c;omega
 ·rw[if_neg (by omega),if_neg (by omega)];show _+cf [] k=_;rw[cD];omega
theorem zN{m s0 s1:Int}(hs:0<s1){l:List Int}(hne:l≠[])(hl:Tr l):Tr (bO m s0 s1 l):=by
 have h1:=tN m s0 s1 l;have hlen:=iO m s0 s1 l;have hp:0<l.length:=KL.mpr hne;have h2:cf l (l.length-1)≠0:=hl _ (by omega);intro n hn;have:n=l.length-1:=by omega
 subst this;rw[h1];exact KM h2 (Ln (Mj hs))
theorem zT{l:List Int}(hl:Tr l){i:Nat}(h:i<l.length):Tr (l.drop i):=by
 intro n hn;rw[LL]at hn
 have e:cf (l.drop i) n=cf l (i+n):=by unfold cf;simp[List.getD]
 rw[e];exact hl _ (by omega)
def ue(C:Addr):Sp:=λvs H Q _=>∃(a l r:Addr) (ns:List Int) (l1 l2 r1 r2:Int),vs=[.ref a,.ref l,.ref r]/\H a=some (.lst (ns.map V.int))/\RA C H l l1 l2/\RA C H r r1 r2/\Tr ns/\ns≠[]/\ns.length<=12/\AllB 1000 ns/\0<l2/\0<r1/\0<r2/\Bits 1400 l1/\Bits 1400 l2/\Bits 2900 r1/\Bits 2900 r2 /\
 ∀m s0 s1:Int,0<m->s0*l2=l1*m->s1*r2=r1*m->0<s1->AllB 60000 (bO m s0 s1 ns)->mkL H Q (bO m s0 s1 ns)
theorem CT(F:Fun K "stretched" "stretched" o6 f fd)(T:Txt K mg)(R:RCI K mg C)(sJ:Cal P w K mg base 2 "shared" ["row"] (ox K) Gs FZ)(HY:Cal P w K mg base 2 "added" ["first","second"] (me K gP) J6 Ja)(sL:Cal P w K mg base 1 "multiplied" ["first","second"] j7 Gu Ga)(iG:Cal P w K mg base 1 "poly" ["row"] (gW K) rW rS):FnOk P w K mg base CX0 3 f fd ["row","low","reach"] (ue C):=by
 refine F.ok fV (λvs H Q E h=>?_) (λcdv A outer s H vs Q E hr h=>?_)
 ·obtain⟨a,l,r,ns,l1,l2,r1,r2,rfl,_⟩:=h;rfl
 ·obtain⟨a,l,r,ns,l1,l2,r1,r2,rfl,hA,⟨dl,hL⟩,⟨dr,hR⟩,hT,hne,hln,hbn,hl2,hr1,hr2,bl1,bl2,br1,br2,k⟩:=h
  refine⟨_,(af (aj 3 fV (ah il (ah aD (aH (K:=K) rfl (pv 1) rfl) (aH (K:=K) rfl (pv 2) rfl)) (ak sJ hr (aa (bh (aa (aH (K:=K) rfl (pv 1) rfl) (aa (aH (K:=K) rfl (pv 2) rfl) ad))) ad))))
   (af (aj 4 fV (ah aD (aH (K:=K) rfl (pv 1) rfl) (ah il (pv 3) (aH (K:=K) rfl (pv 1) rfl))))
   (af (aj 5 fV (ah aD (aH (K:=K) rfl (pv 2) rfl) (ah il (pv 3) (aH (K:=K) rfl (pv 2) rfl))))
   (af (aj 6 fV (bh ad))
   (af (aj 7 fV ac)
   (af (cj PassesOwn.never rfl (mR rfl T.reversed_ (aa (pv 0) ad)) (bH 8 fV)
     (af (aj 6 fV (ak HY hr (aa (ak sL hr (aa (pv 6) (aa (bh (aa (pv 4) (aa (pv 5) ad))) ad))) (aa (ak iG hr (aa (bh (aa (ah aD (pv 8) (pv 7)) ad)) ad)) ad))))
       (ai (aj 7 fV (ah aD (pv 7) (pv 3))))))
   (ai (ax (pv 6))))))))),?_⟩
  obtain⟨l',r',pl',pr',pg,el,er,em,e1,e2,pm⟩:=Hi hl2 hr2 (g:=aK [l2,r2]) (by show Nat.gcd (Nat.gcd 0 l2.natAbs) r2.natAbs=_;rw[Nat.gcd_zero_left]);have bg:Bits 9000 ((aK [l2,r2]:Nat):Int):=Bits.mono (j:=1400) (bl2.of_le (by rw[Lp];exact Nat.le_of_dvd (by omega) (by show Nat.gcd (Nat.gcd 0 l2.natAbs) r2.natAbs∣_;rw[Nat.gcd_zero_left];exact LZ _ _))) (by decide)
  have bl':Bits 1400 l':=bl2.of_le (by
   rw[el,Lj]
   exact Mt _ (by omega))
  have br':Bits 2900 r':=br2.of_le (by
   rw[er,Lj]
   exact Mt _ (by omega))
  refine aA ⟨_,rfl,l,C,dl,_,_,rfl,hL,R.cl,R.nB,bT _ _,_,rfl,r,C,dr,_,_,rfl,hR,R.cl,R.nB,bT _ _,(ae ⟨⟨bl2.mono,br2.mono⟩,?_⟩)⟩;refine⟨_,rfl,l,C,dl,_,_,rfl,hL,R.cl,R.nB,bT _ _,_,rfl,r,C,dr,_,_,rfl,hR,R.cl,R.nB,bT _ _,by show 2<=sizeLine;decide,λp0 hp0=>?_⟩;have s0':=Same.upd_new (o:=.lst [V.int l2,V.int r2]) hp0;refine⟨p0,[l2,r2],rfl,SqL.of ay,(ae ⟨⟨pg,bg⟩,?_⟩)⟩;generalize upd H p0 (.lst [V.int l2,V.int r2])=H0 at s0' ⊢
  dsimp only
  rw[em];refine aA ⟨_,rfl,l,C,dl,_,_,rfl,s0' _ _ hL,R.cl,R.nT,cK _ _,_,rfl,_,rfl,l,C,dl,_,_,rfl,s0' _ _ hL,R.cl,R.nB,bT _ _,(ae ⟨⟨hl2,bl2.mono⟩,?_⟩)⟩;dsimp only
  rw[e1];refine(ae ⟨⟨bl1.mono,br'.mono⟩,?_⟩);refine aA ⟨_,rfl,r,C,dr,_,_,rfl,s0' _ _ hR,R.cl,R.nT,cK _ _,_,rfl,_,rfl,r,C,dr,_,_,rfl,s0' _ _ hR,R.cl,R.nB,bT _ _,(ae ⟨⟨hr2,br2.mono⟩,?_⟩)⟩;dsimp only
  rw[e2];refine(ae ⟨⟨br1.mono,bl'.mono⟩,?_⟩);have q0:l1*r'*l2=l1*(l2*r'):=by grind
  have q1:r1*l'*r2=r1*(l2*r'):=by
   calc r1*l'*r2=r1*l'*(((aK [l2,r2]:Nat):Int)*r'):=by rw[<- er]
    _=r1*((((aK [l2,r2]:Nat):Int)*l')*r'):=by grind
    _=r1*(l2*r'):=by rw[<- el]
  have q2:0<r1*l':=KG hr1 pl';have bm:Bits 4300 (l2*r'):=bl2.mul br';have bs0:Bits 4300 (l1*r'):=bl1.mul br';have bs1:Bits 4300 (r1*l'):=br1.mul bl';dsimp only
  generalize l2*r'=m at *
  generalize l1*r'=s0 at *
  generalize r1*l'=s1 at *
  have sb:∀{l:List Int},AllB 1000 l->l.length<=12->AllB 60000 (bO m s0 s1 l):=λ{l} h hl=>(tO bm bs0 bs1 h).mono (by omega)
  refine aA ⟨KJ _,λp1 hp1=>?_⟩;have s1':=s0'.then_new (o:=.lst []) hp1;have h1:upd H0 p1 (.lst []) p1=some (.lst []):=ay;have f1:H p1=none:=s0'.free hp1;generalize upd H0 p1 (.lst [])=H1 at s1' h1 ⊢
  refine aA ?_;have hl:(ns.map V.int).length=ns.length:=KF _;refine⟨_,rfl,a,_,rfl,SqL.of (s1' _ _ hA),nC (K:=K) (a:=a) (xs:=ns.map V.int) (λi σ' H'=>∃(p:Addr) (z:Option V),σ'=[some (.ref a),some (.ref l),some (.ref r),some (.int m),some (.int s0),some (.int s1),some (.ref p),some (.int (m^i)),z]/\Same H H'/\H p=none/\H' p=some (.lst ((bO m s0 s1 (ns.drop (ns.length-i))).map V.int))) ⟨p1,none,by rw[LI];rfl,s1',f1,by rw[LM,MM];exact h1⟩ ?_ ?_ ?_⟩
  ·rintro i σ' H' _ ⟨p,z,rfl,sm,_⟩;exact SqL.of (sm _ _ hA)
  ·rintro i x σ' H2 hi hx ⟨p,z,rfl,s2,fp,e2'⟩;rw[hl]at hi hx;obtain⟨c,ec,rfl,hc,_⟩:=fJ hx;have bc:=hbn c hc;have hd:=yr hi ec;have len:(ns.drop (ns.length-i)).length=i:=by rw[LL];omega
   have hbd:AllB 1000 (ns.drop (ns.length-i)):=λx hx=>hbn x (ML hx)
   have aF:=sb hbd (by omega);have lF:(bO m s0 s1 (ns.drop (ns.length-i))).length=i:=by rw[iO,len]
   have bP:Bits 60000 (m^i):=(gN bm i).mono (by omega)
   have eF:gP (am (bO m s0 s1 (ns.drop (ns.length-i))) [s0,s1]) (trim [c*m^i])=bO m s0 s1 (ns.drop (ns.length-(i+1))):=by
    have hT':Tr (bO m s0 s1 (ns.drop (ns.length-(i+1)))):=zN q2 (by rw[hd];simp) (zT hT (by omega));rw[hd]at hT' ⊢
    have hT2:Tr (mb (-s0) s1 (c*m^i) (bO m s0 s1 (ns.drop (ns.length-i)))):=by have:bO m s0 s1 (c::ns.drop (ns.length-i))=mb (-s0) s1 (c*m^(ns.drop (ns.length-i)).length) (bO m s0 s1 (ns.drop (ns.length-i))):=rfl;rw[this,len]at hT';exact hT'
    show _=mb (-s0) s1 (c*m^(ns.drop (ns.length-i)).length) (bO m s0 s1 (ns.drop (ns.length-i)));rw[len];by_cases hi0:i=0
    ·subst hi0;have e0:bO m s0 s1 (ns.drop (ns.length-0))=[]:=by rw[LM,MM];rfl
     rw[e0]at hT2 ⊢;refine kY (fb _) hT2 λk=>?_
     unfold gP;rw[fM,k9,aW,fM,K4];show 0+_=_;rw[Lw];rfl
    ·have hn':bO m s0 s1 (ns.drop (ns.length-i))≠[]:=λz=>by rw[z]at lF;exact hi0 lF.symm
     have:=An (a := -s0) (b:=s1) (c:=c*m^i) hn' hT2;rw[Int.neg_neg]at this;exact this
   show b8 (fB _ (dW 6)) _ _ _ _
   have bs:AllB 4300 [s0,s1]:=λx hx=>by
    simp only[KS,LV,or_false]at hx;rcases hx with rfl |rfl
    ·exact bs0
    ·exact bs1
   generalize bO m s0 s1 (ns.drop (ns.length-i))=Fs at *
   refine aA ⟨_,rfl,_,rfl,_,rfl,by show 2<=sizeLine;decide,λp3 hp3=>?_⟩;have s3:=s2.then_new (o:=.lst ([s0,s1].map V.int)) hp3;have e3:upd H2 p3 (.lst ([s0,s1].map V.int)) p=some (.lst (Fs.map V.int)):=(Same.upd_new hp3) _ _ e2';have h3:upd H2 p3 (.lst ([s0,s1].map V.int)) p3=some (.lst ([s0,s1].map V.int)):=ay;refine⟨p,p3,Fs,[s0,s1],rfl,e3,h3,by omega,by show 2<=1000000;decide,aF.mono,bs.mono,λp4 H4 s4 hp4 e4=>?_⟩;have t4:=s3.trans s4;refine⟨_,rfl,_,rfl,(ae ⟨⟨bc.mono,bP.mono⟩,by show 1<=sizeLine;decide,λp5 hp5=>?_⟩)⟩;have s5:=t4.then_new (o:=.lst ([c*m^i].map V.int)) hp5;have e5:upd H4 p5 (.lst ([c*m^i].map V.int)) p4=some (.lst ((am Fs [s0,s1]).map V.int)):=(Same.upd_new hp5) _ _ e4;have h5:upd H4 p5 (.lst ([c*m^i].map V.int)) p5=some (.lst ([c*m^i].map V.int)):=ay;refine⟨p5,[c*m^i],rfl,SqL.of h5,λp6 H6 s6 hp6 e6=>?_⟩;have t6:=s5.trans s6;refine⟨p4,p6,am Fs [s0,s1],trim [c*m^i],rfl,SqL.of (s6 _ _ e5),SqL.of e6,?_,?_,λp7 H7 s7 hp7 e7=>?_⟩
   ·have:(am Fs [s0,s1]).length<=1000:=by
     unfold am;split
     ·exact KJ _
     ·rw[KF,LY];show _+2-1<=_;omega
    omega
   ·have:=rF [c*m^i];have:(trim [c*m^i]).length<=1:=this;omega
   rw[eF]at e7;refine bG ⟨_,rfl,_,rfl,(ae ⟨⟨bP.mono,bm.mono⟩,?_⟩)⟩;refine⟨p7,some (.int c),?_,t6.trans s7,t6.free hp7,e7⟩;rw[K5];rfl
  ·rintro σ' H' ⟨p,z,rfl,sm,fp,e⟩;rw[hl,LX,Ma]at e;exact⟨_,rfl,k m s0 s1 pm q0 q1 q2 (sb hbn hln) p H' sm fp e⟩
def uf:Sp:=λvs H Q _=>∃(a:Addr) (ns:List Int),vs=[.ref a]/\H a=some (.lst (ns.map V.int))/\ns.length<=1000/\AllB 500000 ns/\mkL H Q (cp ns)
theorem CU(F:Fun K "spread" "spread" o7 f fd)(T:Txt K mg):FnOk P w K mg base CX0 1 f fd ["row"] uf:=by
 refine F.ok ki (λvs H Q E h=>?_) (λcdv A outer s H vs Q E hr h=>?_)
 ·obtain⟨a,ns,rfl,_⟩:=h;rfl
 ·obtain⟨a,ns,rfl,hA,hn,hb,k⟩:=h;have big:=sizeLine_eq
  refine⟨_,(af (aj 1 ki (bh ad))
   (af (aj 2 ki ac)
   (af (cj PassesOwn.never rfl (mR rfl T.reversed_ (aa (pv 0) ad)) (bH 3 ki)
     (af (f8 (gE (pv 1) (aa (ah aD (pv 2) (pv 3)) ad)))
       (ai (aj 2 ki (ah aD ac (pv 2))))))
   (af (f8 (Cu PySem.F.plainAttrs_list PySem.F.slot_list_reverse PySem.F.type_list_reverse EL (pv 1)))
   (ai (ax (pv 1))))))),?_⟩
  refine aA ⟨KJ _,λp1 hp1=>?_⟩;have s1':=Same.upd_new (o:=.lst []) hp1;have h1:upd H p1 (.lst []) p1=some (.lst []):=ay;generalize upd H p1 (.lst [])=H1 at s1' h1 ⊢
  refine aA ?_;have hl:(ns.map V.int).length=ns.length:=KF _;refine⟨_,rfl,a,_,rfl,SqL.of (s1' _ _ hA),nC (K:=K) (a:=a) (xs:=ns.map V.int) (λi σ' H'=>∃z:Option V,σ'=[some (.ref a),some (.ref p1),some (.int (2^i)),z]/\Same H H'/\H' p1=some (.lst ((cp (ns.drop (ns.length-i))).reverse.map V.int))) ⟨none,rfl,s1',by rw[LM,MM];exact h1⟩ ?_ ?_ ?_⟩
  ·rintro i σ' H' _ ⟨z,rfl,sm,_⟩;exact SqL.of (sm _ _ hA)
  ·rintro i x σ' H2 hi hx ⟨z,rfl,s2,h2⟩;rw[hl]at hi hx;obtain⟨c,ec,rfl,hc,_⟩:=fJ hx;have hd:=yr hi ec;have len:(ns.drop (ns.length-i)).length=i:=by rw[LL];omega
   show b8 (lK _) _ _ _ _;refine ie ⟨_,rfl,.inl ⟨rfl,_,SqL.of h2⟩,_,rfl,_,rfl,(ae ⟨⟨(ku (n:=i) (k:=1001) (by omega)).mono,(hb c hc).mono⟩,p1,_,_,rfl,rfl,h2,by rw[KF,List.length_reverse,lO,len];omega,?_⟩)⟩;refine bG ⟨_,rfl,(ae ⟨⟨lD,(ku (n:=i) (k:=1001) (by omega)).mono⟩,?_⟩)⟩;refine⟨some (.int c),?_,fh s2 hp1,?_⟩
   ·show[some (V.ref a),some (V.ref p1),some (V.int (2*2^i)),some (V.int c)]=_;rw[K5,K8]
   ·rw[ay,hd,EW];show some (HO.lst (((cp (ns.drop (ns.length-i))).reverse++[2^i*c]).map V.int))=some (HO.lst ((2^(ns.drop (ns.length-i)).length*c::cp (ns.drop (ns.length-i))).reverse.map V.int));rw[List.reverse_cons,len]
  ·rintro σ' H2 ⟨z,rfl,s2,h2⟩;rw[hl,LX,Ma]at h2;dsimp only
   refine ie ⟨_,rfl,.inl ⟨rfl,_,SqL.of h2⟩,p1,_,rfl,rfl,h2,?_⟩;refine⟨_,rfl,k p1 _ (fh s2 hp1) hp1 ?_⟩;rw[ay,<- List.map_reverse,List.reverse_reverse]
noncomputable def dE(m:List Int)(j:Nat):List Int:=m.take (m.length-1-j)++suf (m.drop (m.length-1-j))
theorem q8:∀(i:Nat) (m:List Int),dR i m=m.take i++suf (m.drop i)
 |0,m=>by rw[List.take_zero,Ma];rfl
 |i+1,[]=>rfl
 |i+1,c::m=>by show c::dR i m=c::(m.take i++suf (m.drop i));rw[q8 i m]
theorem FG(m:List Int)(j:Nat):(dE m j).length=m.length:=by unfold dE;rw[Lb,iM,<- Lb,List.take_append_drop]
theorem FD(m:List Int):dE m 0=m:=by
 unfold dE;rw[LM];cases hd:m.drop (m.length-1)with
 |nil =>have:m.length-1=m.length\/True:=.inr trivial;have h1:m.length<=m.length-1:=List.drop_eq_nil_iff.mp hd;have:m=[]:=L8 (by omega);subst this;rfl
 |cons c r =>have hl:=congrArg List.length hd;rw[LL,Lr]at hl;have:r=[]:=L8 (by omega);subst this;show _++[c+0]=_;rw[LH,<- hd,List.take_append_drop]
theorem FH(m:List Int){i:Nat}(h:i+1<=m.length):dE m (m.length-1-i)=dR i m:=by
 unfold dE;rw[q8];have:m.length-1-(m.length-1-i)=i:=by omega
 rw[this]
theorem FE(m:List Int){j:Nat}(h:j+2<=m.length):(dE m j).set (m.length-2-j) (cf (dE m j) (m.length-2-j)+cf (dE m j) (m.length-1-j))=dE m (j+1):=by
 have e1:m.length-1-(j+1)=m.length-2-j:=by omega
 have e2:m.length-1-j=m.length-2-j+1:=by omega
 have hk:m.length-2-j<m.length:=by omega
 unfold dE;rw[e1,e2];generalize m.length-2-j=k at hk e2
 have hd:m.drop k=m[k]::m.drop (k+1):=MF hk;have ht:m.take (k+1)=m.take k++[m[k]]:=by rw[LQ,List.getElem?_eq_getElem hk];rfl
 rw[hd,ht];have lt:(m.take k).length=k:=by rw[LG];omega
 have c1:cf (m.take k++[m[k]]++suf (m.drop (k+1))) k=m[k]:=by rw[ME,lc (by omega),lt,LX];rfl
 have c2:cf (m.take k++[m[k]]++suf (m.drop (k+1))) (k+1)=(suf (m.drop (k+1))).headD 0:=by
  rw[lc (by rw[Lb,lt];exact KH _),Lb,lt];show cf _ (k+1-(k+1))=_;rw[LX];cases suf (m.drop (k+1))with
  |nil=>rfl
  |cons _ _=>rfl
 rw[c1,c2];show _=m.take k++((m[k]+(suf (m.drop (k+1))).headD 0)::suf (m.drop (k+1)));rw[ME,List.set_append_right _ _ (by omega),lt,LX];rfl
theorem tL{M:Nat}:∀{l:List Int},(∀x∈l,x.natAbs<=M)->∀x∈suf l,x.natAbs<=l.length*M
 | [],_,x,hx=>nomatch hx
 |v::l,h,x,hx=>by
  have ih:=tL (l:=l) λx hx=>h x (Ll _ hx)
  have hv:=h v (Ls ..)
  have hh:((suf l).headD 0).natAbs<=l.length*M:=by
   cases hs:suf l with
   |nil=>show(0:Int).natAbs<=_;exact KJ _
   |cons g r=>exact ih g (by rw[hs];exact Ls ..)
  rw[Lr,Nat.add_mul,Nat.one_mul];rcases KS.mp hx with e |e
  ·subst e;exact KZ (Int.natAbs_add_le _ _) (KZ (MI hv hh) (L3 (Nat.add_comm _ _)))
  ·exact KZ (ih x e) (Nat.le_add_right _ _)
theorem Cw{i k:Nat}{m:List Int}(h:AllB i m)(hl:m.length<=16):AllB (i+4) (dR k m):=by
 rw[q8];refine AllB.app (λx hx=>(h x (List.mem_of_mem_take hx)).mono (by omega)) λx hx=>?_
 have h1:=tL (M:=2^i-1) (l:=m.drop k) (λy hy=>by have:y.natAbs<2^i:=h y (ML hy);omega) x hx;have h2:(m.drop k).length*(2^i-1)<=16*(2^i-1):=Lx _ (by rw[LL];omega);have h3:0<2^i:=Nat.pow_pos (by decide);show x.natAbs<2^(i+4);have h4:2^(i+4)=2^i*16:=by rw[Nat.pow_add]
 omega
theorem xg{i:Nat}{m:List Int}(h:AllB i m)(hl:m.length<=16):∀n,AllB (i+4*n) (fj n m)
 |0=>h
 |n+1=>by have:=Cw (k:=n) (xg h hl n) (by rw[mW];exact hl);exact this.mono (by omega)
theorem EQ{i:Nat}{m:List Int}(h:AllB i m)(hl:m.length<=12):AllB (i+44) (kK m):=(xg h (by omega) _).mono (by omega)
theorem tV{i:Nat}:∀{m:List Int},AllB i m->m.length<=12->AllB (i+13) (cp m)
 | [],_,_=>AllB.nil
 |v::m,h,hl=>by
  have ih:=tV (m:=m) (λx hx=>h x (Ll _ hx)) (by rw[Lr]at hl;omega);intro x hx;rcases KS.mp hx with e |e
  ·subst e;have:=(ku (n:=m.length) (k:=13) (by rw[Lr]at hl;omega)).mul (h v (Ls ..));exact this.mono (by omega)
  ·exact ih x e
def uF:Sp:=λvs H Q _=>∃(a:Addr) (ns:List Int),vs=[.ref a]/\H a=some (.lst (ns.map V.int))/\1<=ns.length/\ns.length<=1000/\mkL H Q (kK ns)
theorem oM(l:List Int)(k:Nat)(v:Int):(l.map V.int).set k (.int v)=(l.set k v).map V.int:=by rw[List.map_set]
theorem y3{l:List Int}{k:Nat}{j:Int}(e:j=(k:Int))(h:k<l.length):atI (l.map V.int) j=some (.int (cf l k)):=by subst e;refine gO ?_;rw[List.getElem?_map,List.getElem?_eq_getElem h];show some (V.int l[k])=_;rw[sj (List.getElem?_eq_getElem h)]
theorem Dm(F:Fun K "moved" "moved" pG f fd)(T:Txt K mg)(iH:Cal P w K mg base 1 "degree" ["row"] md yh x8):FnOk P w K mg base CX0 2 f fd ["row"] uF:=by
 refine F.ok mB (λvs H Q E h=>?_) (λcdv A outer s H vs Q E hr h=>?_)
 ·obtain⟨a,ns,rfl,_⟩:=h;rfl
 ·obtain⟨a,ns,rfl,hA,hn1,hn,k⟩:=h;have big:=sizeLine_eq
  refine⟨_,(af (aj 1 mB (eO (lf (K:=K) rfl) (by rfl) T.list_ PyProof.Rows.boot_list (aa (pv 0) ad)))
   (af (cj PassesOwn.never rfl (ik rfl T.range_ (aa (ak iH hr (aa (pv 0) ad)) ad)) (bH 2 mB)
     (ai (cj PassesOwn.never rfl (wn rfl T.range_ (aa (ah bB (ak iH hr (aa (pv 0) ad)) ac) (aa (ah bB (pv 2) ac) (aa (ck ci ac) ad)))) (bH 3 mB)
       (ai (jj (ah bj (aN K (pv 1) (pv 3)) (aN K (pv 1) (ah bj (pv 3) ac))) (jq (pv 1) (pv 3) iU))))))
   (ai (ax (pv 1))))),?_⟩
  refine aA ⟨_,rfl,a,_,rfl,.inl (SqL.of hA),λp hp=>?_⟩;have s1':=Same.upd_new (o:=.lst (ns.map V.int)) hp;have h1:upd H p (.lst (ns.map V.int)) p=some (.lst (ns.map V.int)):=ay;generalize upd H p (.lst (ns.map V.int))=H1 at s1' h1 ⊢
  have hl:(ns.map V.int).length=ns.length:=KF _;have ed:((ns.map V.int).length:Int)-1=((ns.length-1:Nat):Int):=by rw[hl];omega
  refine⟨_,rfl,a,_,rfl,s1' _ _ hA,_,rfl,(by rw[ed];omega),(by rw[ed];omega),?_⟩;rw[ed];refine nD (lo:=0) (n:=ns.length-1) (λi σ' H'=>∃z2 z3:Option V,σ'=[some (.ref a),some (.ref p),z2,z3]/\Same H H'/\H' p=some (.lst ((fj i ns).map V.int))) ⟨none,none,rfl,s1',h1⟩ ?_ ?_
  ·rintro i σ' H2 hi ⟨z2,z3,rfl,s2,h2⟩;have lm:(fj i ns).length=ns.length:=mW _ _;generalize hM:fj i ns=M at h2 lm
   obtain⟨r,er⟩:∃r,ns.length=r+2:=⟨ns.length-2,by omega⟩;have er1:ns.length-1=r+1:=by rw[er];rfl
   have er2:ns.length-2=r:=by rw[er];rfl
   have hr':r+2<=100000:=by rw[<- er];omega
   rw[er1]at hi;refine⟨_,rfl,a,_,rfl,s2 _ _ hA,(ae ⟨_,rfl,(ae ⟨_,rfl,(r:Int),(i:Int)-1,?_,⟨by omega,by omega,by omega,by omega⟩,?_⟩)⟩)⟩
   ·rw[ed,er1];have e1:((r+1:Nat):Int)-1=(r:Int):=by omega
    have e2:(0:Int)+(i:Int)-1=(i:Int)-1:=by omega
    dsimp only
    rw[e1,e2]
   have en:((r:Int)-((i:Int)-1)).toNat=r+1-i:=by omega
   rw[en];refine xW (λj σ' H'=>∃z3:Option V,σ'=[some (.ref a),some (.ref p),some (.int (0+(i:Int))),z3]/\Same H H'/\H' p=some (.lst ((dE M j).map V.int))) ⟨z3,rfl,s2,by rw[FD];exact h2⟩ ?_ ?_
   ·rintro j σ' H3 hj ⟨z3,rfl,s3,h3⟩;have hj':j<=r:=by omega
    have lh:(dE M j).length=r+2:=by rw[FG,lm,er]
    have hs:=FE M (j:=j) (by rw[lm,er];omega);rw[lm,er1,er2]at hs;have k1:(r:Int)+(j:Int) * -1=((r-j:Nat):Int):=by omega
    have k2:(r:Int)+(j:Int) * -1+1=((r+1-j:Nat):Int):=by omega
    refine⟨_,rfl,_,rfl,p,_,_,_,rfl,rfl,SqL.of h3,y3 k1 (by omega),_,rfl,_,rfl,(ae ⟨p,_,_,_,rfl,rfl,SqL.of h3,y3 k2 (by omega),(ae ⟨_,rfl,_,rfl,p,_,_,r-j,rfl,rfl,h3,?_,?_⟩)⟩)⟩
    ·exact jv k1 (by rw[KF];omega)
    refine⟨_,rfl,fh s3 hp,?_⟩;rw[ay,oM,hs]
   ·rintro σ' H3 ⟨z3,rfl,s3,h3⟩;refine⟨_,_,rfl,s3,?_⟩
    have:dE M (r+1-i)=fj (i+1) ns:=by rw[<- er1,<- lm,FH M (by rw[lm,er];omega),<- hM];rfl
    rw[<- this];exact h3
  ·rintro σ' H2 ⟨z2,z3,rfl,s2,h2⟩;exact⟨_,rfl,k p H2 s2 hp h2⟩
structure RootB(ns:List Int)(ε:Int)(up:Int->Int->Prop):Prop where
 e1:ε=1\/ε = -1
 r1:∀p c,0<p->p<=c->up p c->sg (hv p c ns) = -ε
 r2:∀p c,0<p->p<=c->¬up p c->sg (hv p c ns)=ε\/sg (hv p c ns)=0
 r3:∀p c p' c',0<p->p<=c->0<p'->p'<=c'->¬up p c->p*c'<p'*c->sg (hv p' c' ns)=ε
 sc:∀p c,0<c->(up (2*p) (2*c)↔up p c)
 top:¬up 1 1
theorem Fy(p c:Int)(l:List Int):sg (hv (2*p) (2*c) l)=sg (hv p c l):=by rw[ni];exact d9 (Mj (by decide))
def uL:Sp:=λvs H Q _=>∃(a:Addr) (ns:List Int) (e:Int) (n:Nat) (ε:Int) (up:Int->Int->Prop),vs=[.ref a,.int e,.int n]/\H a=some (.lst (ns.map V.int))/\1<=ns.length/\ns.length<=12/\AllB 60000 ns/\n<=4000/\RootB ns ε up/\e=sg (hv 1 1 ns) /\
 ∀(p:Addr) (H':Hp) (pl:Nat),Same H H'->H p=none->H' p=some (.tup [.int pl,.int (2^n)])->pl<2^n->(pl=0\/up pl (2^n))->¬up ((pl:Int)+1) (2^n)->Q (.ref p) H'
theorem Dr(F:Fun K "halved" "halved" pK f fd)(T:Txt K mg)(HH:Cal P w K mg base 1 "spread" ["row"] uf JI ID)(iF:Cal P w K mg base 1 "whole_sign" ["value"] j6 rV rR)(HN:Cal P w K mg base 2 "moved" ["row"] uF JU IQ):FnOk P w K mg base CX0 3 f fd ["row","end","steps"] uL:=by
 refine F.ok dL (λvs H Q E h=>?_) (λcdv A outer s H vs Q E hr h=>?_)
 ·obtain⟨a,ns,e,n,ε,up,rfl,_⟩:=h;rfl
 ·obtain⟨a,ns,e,n,ε,up,rfl,hA,h1n,hln,hbn,hn,hB,he,k⟩:=h
  refine⟨_,(af (aj 3 dL ac)
   (af (aj 4 dL ac)
   (af (aj 5 dL (pv 1))
   (af (aj 6 dL (pv 0))
   (af (cj PassesOwn.never rfl (ik rfl T.range_ (aa (pv 2) ad)) (bH 7 dL)
     (af (aj 3 dL (ah aD ac (pv 3)))
       (af (aj 4 dL (ah aD ac (pv 4)))
       (af (aj 6 dL (ak HH hr (aa (pv 6) ad)))
       (af (aj 8 dL (ak iF hr (aa (cQ (G6 (K:=K) rfl rfl) (by rfl) T.sum_ PyProof.Rows.boot_sum (aa (pv 6) ad)) ad)))
       (ai (aM (PW.pt (fY (aE ga (pv 8) ac) (gC (aE ga (pv 8) (pv 5)))))
         (af (aj 3 dL (ah bj (pv 3) ac))
           (ai (aj 6 dL (ak HN hr (aa (pv 6) ad)))))
         (ai (aj 5 dL (pv 8))))))))))
   (ai (ax (bJ (aa (pv 3) (aa (pv 4) ad)))))))))),?_⟩
  refine aA ?_;refine aA ?_;refine aA ⟨_,rfl,?_⟩;refine aA ⟨_,rfl,?_⟩;refine⟨_,rfl,n,rfl,by omega,by omega,nD (lo:=0) (n:=n) (λi σ' H'=>∃(p:Addr) (pl:Nat) (L:List Int) (z7 z8:Option V),σ'=[some (.ref a),some (.int e),some (.int n),some (.int pl),some (.int (2^i)),some (.int (sg (hv ((pl:Int)+1) (2^i) ns))),some (.ref p),z7,z8]/\Same H H'/\H' p=some (.lst (L.map V.int))/\L.length=ns.length/\AllB (60000+60*i) L/\(∀p q:Int,2^i*hv p q L=hv (pl*q+p) (2^i*q) ns)/\pl<2^i/\(pl=0\/up pl (2^i))/\¬up ((pl:Int)+1) (2^i)) ⟨a,0,ns,none,none,by rw[he];rfl,Same.refl _,hA,rfl,hbn,λp q=>by rw[LI,K4,K4];show _=hv (0*q+p) q ns;rw[Lc,Lw],by decide,.inl rfl,by rw[LI];exact hB.top⟩ ?_ ?_⟩
  ·rintro i σ' H1 hi ⟨p,pl,L,z7,z8,rfl,s1,h1,lL,bL,hval,hpl,hup,hnup⟩;show b8 (fB _ (dW 3)) _ _ _ _;have b2i:Bits 4002 ((2:Int)^i):=ku (by omega);have p2i:=jk i;have cpl:(pl:Int)<2^i:=by rw[ij];exact Int.ofNat_lt.mpr hpl
   have bpl:Bits 4002 (pl:Int):=b2i.of_le (by rw[ij];omega);refine aA ⟨_,rfl,(ae ⟨⟨lD,bpl.mono⟩,?_⟩)⟩;refine aA ⟨_,rfl,(ae ⟨⟨lD,b2i.mono⟩,?_⟩)⟩;refine aA ⟨_,rfl,p,L,rfl,h1,by omega,bL.mono (by omega),λp2 H2 s2 hp2 e2=>?_⟩;have t2:=s1.trans s2;have lS:(cp L).length=ns.length:=by rw[lO,lL]
   have bS:AllB (60000+60*i+13) (cp L):=tV bL (by omega);have e2i:(2:Int)*2^i=2^(i+1):=by rw[K5,K8]
   have vS:∀p q:Int,2^(i+1)*hv p q (cp L)=hv (((2*pl:Nat):Int)*q+p) (2^(i+1)*q) ns:=λp q=>by
    have h3:=hval p (2*q);rw[<- xK]at h3;have h4:(2:Int)^(i+1)*hv p q (cp L)=2^i*(2*hv p q (cp L)):=by rw[K5];grind
    rw[h4,h3]
    have h5:(pl:Int)*(2*q)+p=((2*pl:Nat):Int)*q+p:=by
     have:((2*pl:Nat):Int)=2*(pl:Int):=by omega
     rw[this];grind
    have h6:(2:Int)^i*(2*q)=2^(i+1)*q:=by rw[K5];grind
    rw[h5,h6]
   refine aA ⟨_,rfl,p2,cp L,rfl,SqL.of e2,_,rfl,?_⟩;have p2i1:=jk (i+1)
   have ethere:sg (cp L).sum=sg (hv (((2*pl:Nat):Int)+1) (2^(i+1)) ns):=by have h3:=vS 1 1;rw[Le,Le]at h3;rw[<- xI,<- h3,d9 p2i1]
   have c2pl:(((2*pl:Nat):Int)+1)<=2^(i+1):=by rw[<- e2i];omega
   have hold:sg (hv ((pl:Int)+1) (2^i) ns)=sg (hv (2*((pl:Int)+1)) (2^(i+1)) ns):=by rw[<- e2i,Fy]
   have plc:(pl:Int)+1<=2^i:=by omega
   generalize hth:sg (cp L).sum=th at ethere
   show jY _ _ _ _ _ _;have epl:(2:Int)*(pl:Int)=((2*pl:Nat):Int):=by omega
   have n2i:2^(i+1)=2*2^i:=by rw[Nat.pow_succ,Nat.mul_comm]
   refine dN (λσ' H'=>σ'=[some (.ref a),some (.int e),some (.int n),some (.int (2*(pl:Int))),some (.int (2*2^i)),some (.int (sg (hv ((pl:Int)+1) (2^i) ns))),some (.ref p2),some (.int (0+(i:Int))),some (.int th)]/\H2=H') ⟨by rw[<- hth];rfl,rfl⟩ ?_;rintro σ' H' ⟨rfl,rfl⟩;by_cases hu:up (((2*pl:Nat):Int)+1) (2^(i+1))
   ·
    have r1:=hB.r1 _ _ (by omega) c2pl hu;rw[<- ethere]at r1;have r2:=hB.r2 _ _ (by omega) plc hnup;have n0:th≠0:=by rcases hB.e1 with z |z<;>omega
    have n1:th≠sg (hv ((pl:Int)+1) (2^i) ns):=by rcases hB.e1 with z |z<;>rcases r2 with y |y<;>omega
    refine fW (fX ⟨_,rfl,(ae ⟨_,rfl,cX (λ_=>?_) (λh0=>absurd h0 n0)⟩)⟩);refine⟨_,rfl,_,rfl,(ae ⟨_,rfl,cX (λ_=>?_) (λh0=>absurd h0 n1)⟩)⟩;refine aA ⟨_,rfl,(ae ?_)⟩;refine bG ⟨_,rfl,p2,cp L,rfl,e2,by omega,by omega,λp3 H3 s3 hp3 e3=>?_⟩;refine⟨p3,2*pl+1,kK (cp L),some (.int (0+(i:Int))),some (.int th),?_,t2.trans s3,e3,by rw[xh,lS],(EQ bS (by omega)).mono (by omega),λp q=>?_,by omega,.inr ?_,?_⟩
    ·have q1:(2:Int)*(pl:Int)+1=((2*pl+1:Nat):Int):=by omega
     have q2:((2*pl+1:Nat):Int)+1=2*((pl:Int)+1):=by omega
     rw[q2,<- hold,<- q1,<- e2i];rfl
    ·rw[Fz,vS]
     have:((2*pl:Nat):Int)*q+(p+q)=((2*pl+1:Nat):Int)*q+p:=by
      have:((2*pl+1:Nat):Int)=((2*pl:Nat):Int)+1:=by omega
      rw[this];grind
     rw[this]
    ·exact hu
    ·have q2:((2*pl+1:Nat):Int)+1=2*((pl:Int)+1):=by omega
     rw[q2,<- e2i,hB.sc _ _ p2i];exact hnup
   ·
    have r2:=hB.r2 _ _ (by omega) c2pl hu;rw[<- ethere]at r2
    have r3:=hB.r3 _ _ ((pl:Int)+1) (2^i) (by omega) c2pl (by omega) plc hu (by
     have h7:(((2*pl:Nat):Int)+1)*2^i<(2*(pl:Int)+2)*2^i:=Lo (by omega) p2i;have h8:((pl:Int)+1)*2^(i+1)=(2*(pl:Int)+2)*2^i:=by rw[K5];grind
     omega)
    have low:∃(p:Addr) (q:Nat) (L':List Int) (z7 z8:Option V),[some (V.ref a),some (V.int e),some (V.int n),some (V.int (2*(pl:Int))),some (V.int (2*2^i)),some (V.int th),some (V.ref p2),some (V.int (0+(i:Int))),some (V.int th)]=[some (.ref a),some (.int e),some (.int n),some (.int q),some (.int (2^(i+1))),some (.int (sg (hv ((q:Int)+1) (2^(i+1)) ns))),some (.ref p),z7,z8]/\Same H H2/\H2 p=some (.lst (L'.map V.int))/\L'.length=ns.length/\AllB (60000+60*(i+1)) L'/\(∀p q':Int,2^(i+1)*hv p q' L'=hv (q*q'+p) (2^(i+1)*q') ns)/\q<2^(i+1)/\(q=0\/up q (2^(i+1)))/\¬up ((q:Int)+1) (2^(i+1)):=by
     refine⟨p2,2*pl,cp L,some (.int (0+(i:Int))),some (.int th),by rw[e2i,epl,ethere],t2,e2,lS,bS.mono (by omega),vS,by omega,?_,hu⟩;rcases hup with z |z
     ·exact .inl (by omega)
     ·refine .inr ?_;rw[<- epl,<- e2i,hB.sc _ _ p2i];exact z
    by_cases n0:th=0
    ·refine fW (fX ⟨_,rfl,(ae ⟨_,rfl,cX (λh0=>absurd n0 h0) (λ_=>?_)⟩)⟩);exact bU (bG ⟨_,rfl,low⟩)
    ·have n1:th=sg (hv ((pl:Int)+1) (2^i) ns):=by
      rcases r2 with z |z
      ·rw[z,r3]
      ·exact absurd z n0
     refine fW (fX ⟨_,rfl,(ae ⟨_,rfl,cX (λ_=>?_) (λh0=>absurd h0 n0)⟩)⟩);refine⟨_,rfl,_,rfl,(ae ⟨_,rfl,cX (λh0=>absurd n1 h0) (λ_=>?_)⟩)⟩;exact bG ⟨_,rfl,low⟩
  ·rintro σ' H1 ⟨p,pl,L,z7,z8,rfl,s1,h1,lL,bL,hval,hpl,hup,hnup⟩;dsimp only
   refine aL ⟨_,rfl,_,rfl,by show 2<=sizeLine;decide,λp' hp'=>?_⟩;exact k p' _ pl (s1.then_new hp') (s1.free hp') ay hpl hup hnup
structure RootU(ns:List Int)(l1 l2 h1 h2 ε:Int)(Up:Int->Int->Prop):Prop where
 e1:ε=1\/ε = -1
 r1:∀x1 x2,0<x2->l1*x2<x1*l2->x1*h2<=h1*x2->Up x1 x2->sg (hv x1 x2 ns) = -ε
 r2:∀x1 x2,0<x2->l1*x2<x1*l2->x1*h2<=h1*x2->¬Up x1 x2->sg (hv x1 x2 ns)=ε\/sg (hv x1 x2 ns)=0
 r3:∀x1 x2 y1 y2,0<x2->0<y2->l1*x2<x1*l2->y1*h2<=h1*y2->¬Up x1 x2->x1*y2<y1*x2->sg (hv y1 y2 ns)=ε
 sc:∀x1 x2 y1 y2,0<x2->0<y2->x1*y2=y1*x2->Up x1 x2->Up y1 y2
 low:Up l1 l2
 top:¬Up h1 h2
structure EndsG(k:Nat)(l1 l2 h1 h2:Int):Prop where
 l2p:0<l2
 h2p:0<h2
 bl1:Bits k l1
 bl2:Bits k l2
 bh1:Bits k h1
 bh2:Bits k h2
 lt:l1*h2<h1*l2
 gl:Nat.gcd l1.natAbs l2.natAbs=1
 gh:Nat.gcd h1.natAbs h2.natAbs=1
theorem EndsG.mono{j k:Nat}{l1 l2 h1 h2:Int}(e:EndsG j l1 l2 h1 h2)(h:j<=k:=by decide):EndsG k l1 l2 h1 h2:=⟨e.l2p,e.h2p,e.bl1.mono h,e.bl2.mono h,e.bh1.mono h,e.bh2.mono h,e.lt,e.gl,e.gh⟩
structure NarP(l1 l2 h1 h2 w1 w2:Int)(Up:Int->Int->Prop)(kb:Nat)(n pl:Nat)(x1 x2 y1 y2:Int):Prop where
 ends:EndsG kb x1 x2 y1 y2
 ux:Up x1 x2
 uy:¬Up y1 y2
 lo:l1*x2<=x1*l2
 hi:y1*h2<=h1*y2
 wide:(y1*x2-x1*y2)*w2<=w1*(x2*y2)
 pls:pl<2^n
 ex:x1*(l2*h2*2^n)=(l1*h2*2^n+(h1*l2-l1*h2)*pl)*x2
 ey:y1*(l2*h2*2^n)=(l1*h2*2^n+(h1*l2-l1*h2)*(pl+1))*y2
 big:∀j:Nat,j<n->w1*(h2*l2)*2^j<(h1*l2-l1*h2)*w2
 fit:(h1*l2-l1*h2)*w2<=w1*(h2*l2)*2^n
theorem AU{x1 x2 y1 y2:Int}(hx:0<x2)(hy:0<y2)(e:x1*y2=y1*x2)(l:List Int):sg (hv x1 x2 l)=sg (hv y1 y2 l):=by
 have h1:=ni y2 x1 x2 l;have h2:=ni x2 y1 y2 l;have e1:y2*x1=x2*y1:=by rw[K8 y2,e,K8]
 rw[e1,K8 y2 x2]at h1;rw[h1]at h2;have h3:=congrArg sg h2;rw[d9 (Mj hy),d9 (Mj hx)]at h3;exact h3
theorem nU{a b c:Int}(hc:0<c)(h:a*c=b*c):a=b:=Int.eq_of_mul_eq_mul_right (Ln hc) h
theorem nS{a b c:Int}(hc:0<c)(h:a*c<=b*c):a<=b:=MU h hc
theorem ld{a b c:Int}(hc:0<c)(h:a*c<b*c):a<b:=LS h (KI hc)
theorem y8{l1 l2 h1 h2 r1 r2 x1 x2 pc pl:Int}(hr:0<r2)(er:r1*(h2*l2)=(h1*l2-l1*h2)*r2)(e:x1*(l2*r2*pc)=(l1*r2*pc+r1*l2*pl)*x2):x1*(l2*h2*pc)=(l1*h2*pc+(h1*l2-l1*h2)*pl)*x2:=by
 refine nU hr ?_
 calc x1*(l2*h2*pc)*r2=(x1*(l2*r2*pc))*h2:=by grind
  _=(l1*r2*pc+r1*l2*pl)*x2*h2:=by rw[e]
  _=(l1*h2*pc*r2+(r1*(h2*l2))*pl)*x2:=by grind
  _=(l1*h2*pc*r2+((h1*l2-l1*h2)*r2)*pl)*x2:=by rw[er]
  _=(l1*h2*pc+(h1*l2-l1*h2)*pl)*x2*r2:=by grind
theorem wS{l1 l2 h1 h2 w1 w2 x1 x2 y1 y2 pc pl:Int}(hl:0<l2)(hh:0<h2)(hx:0<x2)(hy:0<y2)(hpc:0<pc)(hp0:0<=pl)(hp1:pl+1<=pc)(hD:0<h1*l2-l1*h2)(ex:x1*(l2*h2*pc)=(l1*h2*pc+(h1*l2-l1*h2)*pl)*x2)(ey:y1*(l2*h2*pc)=(l1*h2*pc+(h1*l2-l1*h2)*(pl+1))*y2)(fit:(h1*l2-l1*h2)*w2<=w1*(h2*l2)*pc):x1*y2<y1*x2/\l1*x2<=x1*l2/\y1*h2<=h1*y2/\(y1*x2-x1*y2)*w2<=w1*(x2*y2):=by
 have hlh:0<l2*h2:=KG hl hh;have hM:0<l2*h2*pc:=KG hlh hpc;have hxy:0<x2*y2:=KG hx hy
 have hd:(y1*x2-x1*y2)*(l2*h2*pc)=(h1*l2-l1*h2)*(x2*y2):=by
  calc (y1*x2-x1*y2)*(l2*h2*pc)=(y1*(l2*h2*pc))*x2-(x1*(l2*h2*pc))*y2:=by grind
   _=((l1*h2*pc+(h1*l2-l1*h2)*(pl+1))*y2)*x2-((l1*h2*pc+(h1*l2-l1*h2)*pl)*x2)*y2:=by rw[ex,ey]
   _=(h1*l2-l1*h2)*(x2*y2):=by grind
 have hi:y1*h2<=h1*y2:=by
  refine nS (c:=l2*pc) (KG hl hpc) ?_;have e1:y1*h2*(l2*pc)=y1*(l2*h2*pc):=by grind
  have e2:h1*y2*(l2*pc)=(l1*h2*pc+(h1*l2-l1*h2)*pc)*y2:=by grind
  rw[e1,ey,e2];refine KT ?_ (KI hy);have:=MS hp1 (KI hD);omega
 generalize h1*l2-l1*h2=D at *
 refine⟨?_,?_,hi,?_⟩
 ·have h3:0<(y1*x2-x1*y2)*(l2*h2*pc):=by rw[hd];exact KG hD hxy
  have h4:0<y1*x2-x1*y2:=ld hM (by rw[Lc];exact h3);omega
 ·refine nS (c:=h2*pc) (KG hh hpc) ?_;have e1:x1*l2*(h2*pc)=x1*(l2*h2*pc):=by grind
  have e2:l1*x2*(h2*pc)=l1*h2*pc*x2:=by grind
  rw[e1,ex,e2,Int.add_mul];have:0<=D*pl*x2:=KN (KN (KI hD) hp0) (KI hx);omega
 ·refine nS hM ?_;have e1:(y1*x2-x1*y2)*w2*(l2*h2*pc)=((y1*x2-x1*y2)*(l2*h2*pc))*w2:=by grind
  have e2:w1*(x2*y2)*(l2*h2*pc)=w1*(h2*l2)*pc*(x2*y2):=by grind
  have e3:D*(x2*y2)*w2=D*w2*(x2*y2):=by grind
  rw[e1,hd,e2,e3];exact KT fit (KI hxy)
def uE(C:Addr):Sp:=λvs H Q _=>∃(a l h wd:Addr) (ns:List Int) (l1 l2 h1 h2 w1 w2:Int) (k kw:Nat) (ε:Int) (Up:Int->Int->Prop),vs=[.ref a,.ref l,.ref h,.ref wd]/\H a=some (.lst (ns.map V.int))/\Tr ns/\ns≠[]/\ns.length<=12/\AllB 1000 ns/\RA C H l l1 l2/\RA C H h h1 h2/\RA C H wd w1 w2/\EndsG k l1 l2 h1 h2/\0<w1/\0<w2/\Bits kw w1/\Bits kw w2/\k<=1400/\2*k+kw<=3900/\5*k+kw<=8900/\RootU ns l1 l2 h1 h2 ε Up /\
 ∀(p x y:Addr) (H':Hp) (n pl:Nat) (x1 x2 y1 y2:Int),Same H H'->H p=none->H' p=some (.tup [.ref x,.ref y])->RA C H' x x1 x2->RA C H' y y1 y2->NarP l1 l2 h1 h2 w1 w2 Up (5*k+kw+4) n pl x1 x2 y1 y2->Q (.ref p) H'
theorem Dk(F:Fun K "narrowed" "narrowed" pE f fd)(T:Txt K mg)(R:RCI K mg C)(Iu:MCal P w K mg base 4 C "minus" ["self","other"] (uG C) Kz JD)(HQ:Cal P w K mg base 1 "halvings" ["reach","width"] (uK C) JW IS)(HR:Cal P w K mg base 3 "halved" ["row","end","steps"] uL JX IT)(HG:Cal P w K mg base 3 "stretched" ["row","low","reach"] (ue C) JH IC)(d6:Cal P w K mg base 2 "sign_at" ["row","ratio"] (gY C) kW kS)(zl:Cal P w K mg base 5 "along" ["low","reach","place","pieces"] (uU C) J3 IZ):FnOk P w K mg base CX0 6 f fd ["row","low","high","width"] (uE C):=by
 obtain⟨HB,EO,Hk⟩:=Iu;refine F.ok mz (λvs H Q E h=>?_) (λcdv A outer s H vs Q E hr h=>?_)
 ·obtain⟨a,l,h,wd,ns,l1,l2,h1,h2,w1,w2,k,kw,ε,Up,rfl,_⟩:=h;rfl
 ·obtain⟨a,l,h,wd,ns,l1,l2,h1,h2,w1,w2,kb,kw,ε,Up,rfl,hA,hT,hne,hln,hbn,hl,hh,hw,en,hw1,hw2,bw1,bw2,hk1,hk2,hk3,hU,k⟩:=h
  refine⟨_,(af (aj 4 mz (dA (pv 2) R.cl EO HB (hr.mono) Hk .nil b9 (aa (pv 1) ad)))
   (af (aj 5 mz (ak HQ hr (aa (pv 4) (aa (pv 3) ad))))
   (af (aM (aE bN (pv 5) ac)
     (ai (ax (bJ (aa (pv 1) (aa (pv 2) ad)))))
     aS)
   (af (aj 6 mz (ak HR hr (aa (ak HG hr (aa (pv 0) (aa (pv 1) (aa (pv 4) ad)))) (aa (ak d6 hr (aa (pv 0) (aa (pv 2) ad))) (aa (pv 5) ad)))))
   (ai (ax (bJ (aa (ak zl hr (aa (pv 1) (aa (pv 4) (aa (aq K (pv 6) ac) (aa (aq K (pv 6) ac) ad))))) (aa (ak zl hr (aa (pv 1) (aa (pv 4) (aa (ah bj (aq K (pv 6) ac) ac) (aa (aq K (pv 6) ac) ad))))) ad))))))))),?_⟩
  obtain⟨dl,hl'⟩:=id hl;obtain⟨dh,hh'⟩:=id hh;obtain⟨l2p,h2p,bl1,bl2,bh1,bh2,lt,_,_⟩:=id en;refine aA ⟨_,rfl,h,dh,_,rfl,hh',dF _ _ wP.1 wP.2,_,rfl,h,l,h1,h2,l1,l2,kb,kb,rfl,hh,hl,bh1.mono (by omega),bh2,bl1.mono (by omega),bl2,by omega,h2p,l2p,λr H1 s1 fr hr1=>?_⟩;have d0:h2*l2≠0:=Ln (KG h2p l2p);have er:=mK (t:=h1*l2-l1*h2) d0;have r2p:0<rb (h1*l2-l1*h2) (h2*l2):=cR d0;have br1:Bits (2*kb+1) (rt (h1*l2-l1*h2) (h2*l2)):=ib d0 (Bits.sub ((bh1.mul bl2).mono (by omega)) ((bl1.mul bh2).mono (by omega)));have br2:Bits (2*kb+1) (rb (h1*l2-l1*h2) (h2*l2)):=ig d0 ((bh2.mul bl2).mono (by omega));generalize rt (h1*l2-l1*h2) (h2*l2)=r1 at *
  generalize rb (h1*l2-l1*h2) (h2*l2)=r2 at *
  have hD:0<h1*l2-l1*h2:=by omega
  have hhl:0<h2*l2:=KG h2p l2p;have r1p:0<r1:=ld hhl (by rw[Lc,er];exact KG hD r2p);have hA1:=s1 _ _ hA;have hl1:=hl.same s1;have hh1:=hh.same s1;refine aA ⟨_,rfl,_,rfl,r,wd,r1,r2,w1,w2,2*kb+1,kw,rfl,hr1,hw.same s1,r2p,hw1,br1,br2.mono (by omega),bw1.mono (by omega),bw2,by omega,λn hn hle hmin=>?_⟩
  have fit:(h1*l2-l1*h2)*w2<=w1*(h2*l2)*2^n:=by
   refine nS r2p ?_
   calc (h1*l2-l1*h2)*w2*r2=((h1*l2-l1*h2)*r2)*w2:=by grind
    _=r1*(h2*l2)*w2:=by rw[er]
    _=r1*w2*(h2*l2):=by grind
    _<=w1*r2*2^n*(h2*l2):=KT hle (KI hhl)
    _=w1*(h2*l2)*2^n*r2:=by grind
  have bigg:∀j:Nat,j<n->w1*(h2*l2)*2^j<(h1*l2-l1*h2)*w2:=λj hj=>by
   refine ld r2p ?_
   calc w1*(h2*l2)*2^j*r2=w1*r2*2^j*(h2*l2):=by grind
    _<r1*w2*(h2*l2):=Lo (hmin j hj) hhl
    _=r1*(h2*l2)*w2:=by grind
    _=(h1*l2-l1*h2)*r2*w2:=by rw[er]
    _=(h1*l2-l1*h2)*w2*r2:=by grind
  refine aU ⟨_,rfl,(ae ⟨_,rfl,aG (λh0=>?_) (λ_=>?_)⟩)⟩
  ·obtain rfl:n=0:=by have:(n:Int)=0:=h0;omega
   refine aL ⟨_,rfl,_,rfl,by show 2<=sizeLine;decide,λp hp=>?_⟩;have sp:=Same.upd_new (o:=.tup [V.ref l,V.ref h]) hp;have ex:l1*(l2*h2*2^0)=(l1*h2*2^0+(h1*l2-l1*h2)*((0:Nat):Int))*l2:=by rw[LI];show _=(_+_*0)*_;grind
   have ey:h1*(l2*h2*2^0)=(l1*h2*2^0+(h1*l2-l1*h2)*(((0:Nat):Int)+1))*h2:=by rw[LI];show _=(_+_*(0+1))*_;grind
   have nf:=wS (w1:=w1) (w2:=w2) (pc:=2^0) l2p h2p l2p h2p (jk 0) (K6 0) (by decide) hD ex ey fit;exact k p l h _ 0 0 l1 l2 h1 h2 (s1.then_new hp) (s1.free hp) ay (hl1.same sp) (hh1.same sp) ⟨en.mono (by omega),hU.low,hU.top,K6 _,K6 _,nf.2.2.2,by decide,ex,ey,bigg,fit⟩
  refine aA ⟨_,rfl,_,rfl,_,rfl,a,l,r,ns,l1,l2,r1,r2,rfl,hA1,hl1,hr1,hT,hne,hln,hbn,l2p,r1p,r2p,bl1.mono hk1,bl2.mono hk1,br1.mono (by omega),br2.mono (by omega),λm s0 s1' pm e0 e1 hs1 bS p2 H2 s2 hp2 eq2=>?_⟩;have t2:=s1.trans s2;refine⟨_,rfl,_,rfl,a,h,ns,h1,h2,⟨rfl,t2 _ _ hA,hh.same t2,by omega,hbn.mono,bh1.mono (by omega),bh2.mono (by omega)⟩,λH3 s3=>?_⟩;have t3:=t2.trans s3;have lp:0<l2*r2:=KG l2p r2p
  have top:(s0+s1')*h2=h1*m:=by
   refine nU lp ?_
   calc (s0+s1')*h2*(l2*r2)=((s0*l2)*r2+(s1'*r2)*l2)*h2:=by grind
    _=(l1*m*r2+r1*m*l2)*h2:=by rw[e0,e1]
    _=m*(l1*r2*h2+r1*(h2*l2)):=by grind
    _=m*(l1*r2*h2+(h1*l2-l1*h2)*r2):=by rw[er]
    _=h1*m*(l2*r2):=by grind
  have pt:∀p c:Int,0<p->p<=c->0<m*c/\l1*(m*c)<(s0*c+s1'*p)*l2/\(s0*c+s1'*p)*h2<=h1*(m*c):=λp c hp hc=>by
   refine⟨KG pm (by omega),?_,?_⟩
   ·have:(s0*c+s1'*p)*l2=l1*(m*c)+s1'*p*l2:=by
     calc (s0*c+s1'*p)*l2=(s0*l2)*c+s1'*p*l2:=by grind
      _=l1*m*c+s1'*p*l2:=by rw[e0]
      _=l1*(m*c)+s1'*p*l2:=by grind
    rw[this];have:=KG (KG hs1 hp) l2p;omega
   ·have h3:s1'*p<=s1'*c:=MS hc (KI hs1);have h4:(s0*c+s1'*p)*h2<=(s0*c+s1'*c)*h2:=KT (by omega) (KI h2p)
    have h5:(s0*c+s1'*c)*h2=h1*(m*c):=by
     calc (s0*c+s1'*c)*h2=((s0+s1')*h2)*c:=by grind
      _=h1*m*c:=by rw[top]
      _=h1*(m*c):=by grind
    omega
  have vs:∀p c:Int,sg (hv p c (bO m s0 s1' ns))=sg (hv (s0*c+s1'*p) (m*c) ns):=λp c=>by rw[<- xJ,d9 pm]
  have hB:RootB (bO m s0 s1' ns) ε (λp c=>Up (s0*c+s1'*p) (m*c)):=by
   refine⟨hU.e1,λp c hp hc hu=>?_,λp c hp hc hu=>?_,λp c p' c' hp hc hp' hc' hu hlt=>?_,λp c hc=>?_,λhu=>?_⟩
   ·rw[vs];obtain⟨q1,q2,q3⟩:=pt p c hp hc;exact hU.r1 _ _ q1 q2 q3 hu
   ·rw[vs];obtain⟨q1,q2,q3⟩:=pt p c hp hc;exact hU.r2 _ _ q1 q2 q3 hu
   ·rw[vs];obtain⟨q1,q2,q3⟩:=pt p c hp hc;obtain⟨q1',q2',q3'⟩:=pt p' c' hp' hc';refine hU.r3 _ _ _ _ q1 q1' q2 q3' hu ?_;have h3:s1'*m*(p*c')<s1'*m*(p'*c):=MV hlt (KG hs1 pm);have e3:(s0*c+s1'*p)*(m*c')=s0*c*(m*c')+s1'*m*(p*c'):=by grind
    have e4:(s0*c'+s1'*p')*(m*c)=s0*c*(m*c')+s1'*m*(p'*c):=by grind
    omega
   ·have g1:0<m*c:=KG pm hc;have g2:0<m*(2*c):=KG pm (by omega);constructor
    ·exact hU.sc _ _ _ _ g2 g1 (by grind)
    ·exact hU.sc _ _ _ _ g1 g2 (by grind)
   ·refine hU.top (hU.sc _ _ _ _ (by rw[Le];exact pm) h2p ?_ hu);rw[Le,Le,Le];exact top
  have lstr:=iO m s0 s1' ns;have hn1:1<=ns.length:=KL.mpr hne;refine⟨_,rfl,p2,bO m s0 s1' ns,_,n,ε,_,rfl,s3 _ _ eq2,by omega,by omega,bS,by omega,hB,?_,λp4 H4 pl s4 hp4 e4 hpl hup hnup=>?_⟩
  ·rw[vs];refine AU h2p (by rw[Le];exact pm) ?_ ns;rw[Le,Le,Le];exact top.symm
  have t4:=t3.trans s4;have u4:=(s2.trans s3).trans s4;have b2n:Bits (n+1) ((2:Int)^n):=ku (by omega);have cpl:(pl:Int)<2^n:=by rw[ij];exact Int.ofNat_lt.mpr hpl
  have bpl:Bits (n+1) (pl:Int):=b2n.of_le (by rw[ij];omega);have bpl1:Bits (n+1) ((pl:Int)+1):=b2n.of_le (by rw[ij];omega);have p2n:=jk n;refine aL ⟨_,rfl,_,rfl,(au (SqT.of e4) rfl rfl (au (SqT.of e4) rfl rfl ⟨l,r,l1,l2,r1,r2,pl,2^n,kb,2*kb+1,n+1,rfl,hl.same t4,hr1.same u4,l2p,r2p,p2n,bl1,bl2,br1,br2,bpl,b2n,by omega,λx H5 x1 x2 s5 hx hRx x2p ex bx1 bx2 gx=>?_⟩))⟩;have e5:=s5 _ _ e4;have t5:=t4.trans s5;have u5:=u4.trans s5;refine⟨_,rfl,_,rfl,(au (SqT.of e5) rfl rfl (ae (au (SqT.of e5) rfl rfl ⟨l,r,l1,l2,r1,r2,pl+1,2^n,kb,2*kb+1,n+1,rfl,hl.same t5,hr1.same u5,l2p,r2p,p2n,bl1,bl2,br1,br2,bpl1,b2n,by omega,λy H6 y1 y2 s6 hy hRy y2p ey by1 by2 gy=>?_⟩)))⟩;refine⟨by show 2<=sizeLine;decide,λp hp=>?_⟩;have sp:=Same.upd_new (o:=.tup [V.ref x,V.ref y]) hp;have t6:=t5.trans s6;have ex':=y8 r2p er ex;have ey':=y8 r2p er ey;have nf:=wS (w1:=w1) (w2:=w2) l2p h2p x2p y2p p2n (show(0:Int)<=(pl:Int) by omega) (by omega) hD ex' ey' fit
  have cross:∀(q z1 z2:Int),z1*(l2*r2*2^n)=(l1*r2*2^n+r1*l2*q)*z2->(s0*2^n+s1'*q)*z2=z1*(m*2^n):=λq z1 z2 ez=>by
   refine nU lp ?_
   calc (s0*2^n+s1'*q)*z2*(l2*r2)=((s0*l2)*r2*2^n+(s1'*r2)*l2*q)*z2:=by grind
    _=(l1*m*r2*2^n+r1*m*l2*q)*z2:=by rw[e0,e1]
    _=m*((l1*r2*2^n+r1*l2*q)*z2):=by grind
    _=m*(z1*(l2*r2*2^n)):=by rw[ez]
    _=z1*(m*2^n)*(l2*r2):=by grind
  have hm2:0<m*2^n:=KG pm p2n;refine k p x y _ n pl x1 x2 y1 y2 (t6.then_new hp) (t6.free hp) ay ((hRx.same s6).same sp) (hRy.same sp) ⟨⟨x2p,y2p,bx1.mono (by omega),bx2.mono (by omega),by1.mono (by omega),by2.mono (by omega),nf.1,gx,gy⟩,?_,?_,nf.2.1,nf.2.2.1,nf.2.2.2,hpl,ex',ey',bigg,fit⟩
  ·rcases hup with z |z
   ·refine hU.sc _ _ _ _ l2p x2p ?_ hU.low;rw[z]at ex';refine nU (KG h2p p2n) ?_
    calc l1*x2*(h2*2^n)=(l1*h2*2^n+(h1*l2-l1*h2)*((0:Nat):Int))*x2:=by show _=(_+_*0)*_;grind
     _=x1*(l2*h2*2^n):=ex'.symm
     _=x1*l2*(h2*2^n):=by grind
   ·exact hU.sc _ _ _ _ hm2 x2p (cross _ _ _ ex) z
  ·intro hu;exact hnup (hU.sc _ _ _ _ y2p hm2 (cross _ _ _ ey).symm hu)
structure NCI(K:PySem.W.Frag)(mg:Str->Option Value)(CN:Addr):Prop where
 cl:Cls K CN
 nP:NoAttr K CN "poly"
 nL:NoAttr K CN "low"
 nH:NoAttr K CN "high"
 mg:mg "Number"=some (.ref CN)
 ha:PySem.W.findIn K (.ref CN) "__class__"=some (some (.builtin "object.__class__"))
 hn:PySem.W.specialIn K (.builtin "object.__class__") "__get__"=some (some (.builtin "getset_descriptor.__get__"))
 ht:PySem.W.takesIn K (.builtin "object.__class__")=some true
 hm:PySem.W.mroIn K CN (.type "object")=some true
noncomputable def gL(p l h:Addr):List (Str×V):=cv "high" (.ref h) (cv "low" (.ref l) (cv "poly" (.ref p) []))
theorem Co:¬(("poly":Str)="high"):=by decide +kernel
theorem Cj:¬(("poly":Str)="low"):=by decide +kernel
theorem E8:¬(("low":Str)="high"):=by decide +kernel
theorem dX(p l h:Addr):(gL p l h).lookup ("high":Str)=some (.ref h):=by unfold gL;rw[dS,if_pos rfl]
theorem fK(p l h:Addr):(gL p l h).lookup ("low":Str)=some (.ref l):=by unfold gL;rw[dS,if_neg E8,dS,if_pos rfl]
theorem c9(p l h:Addr):(gL p l h).lookup ("poly":Str)=some (.ref p):=by unfold gL;rw[dS,if_neg Co,dS,if_neg Cj,dS,if_pos rfl]
def NA(CN:Addr)(H:Hp)(x p l h:Addr):Prop:=∃dx,H x=some (.ins CN dx (gL p l h))
theorem NA.same{CN:Addr}{H H':Hp}{x p l h:Addr}(n:NA CN H x p l h)(s:Same H H'):NA CN H' x p l h:=let⟨dx,e⟩:=n;⟨dx,s _ _ e⟩
def lX(CN:Addr):Sp:=λvs H Q _=>∃(x dx r l h:Addr) (ns:List V),vs=[.ref x,.ref r,.ref l,.ref h]/\H x=some (.ins CN dx [])/\H r=some (.lst ns)/\∀p,H p=none->Q .non (upd (upd H p (.lst ns)) x (.ins CN dx (gL p l h)))
theorem Eo(F:Fun K "__init__" "Number.__init__" qT f fd)(T:Txt K mg)(RN:NCI K mg CN):FnOk P w K mg base CX0 1 f fd ["self","row","low","high"] (lX CN):=by
 refine F.ok BA (λvs H Q E h=>?_) (λcdv A outer s H vs Q E hr h=>?_)
 ·obtain⟨x,dx,r,l,h,ns,rfl,_⟩:=h;rfl
 ·obtain⟨x,dx,r,l,h,ns,rfl,hx,hR,k⟩:=h
  refine⟨_,(af (kt (pv 0) (eO (lf (K:=K) rfl) (by rfl) T.list_ PyProof.Rows.boot_list (aa (pv 1) ad)) rfl)
   (af (kt (pv 0) (pv 2) rfl)
   (ai (kt (pv 0) (pv 3) rfl)))),?_⟩
  refine⟨_,rfl,r,_,rfl,.inl (SqL.of hR),λp hp=>?_⟩;have npx:x≠p:=aX hx hp;refine⟨_,rfl,x,CN,dx,_,rfl,by rw[upd_ne npx];exact hx,RN.cl,RN.nP,by show 0<1000;decide,?_⟩;refine⟨_,rfl,_,rfl,x,CN,dx,_,rfl,ay,RN.cl,RN.nL,by show 1<1000;decide,?_⟩;refine⟨_,rfl,_,rfl,x,CN,dx,_,rfl,ay,RN.cl,RN.nH,by show 2<1000;decide,?_⟩;show Q .non (upd (upd (upd (upd H p _) x _) x _) x _);rw[lC,lC];exact k p hp
theorem cH:(¬("against":Str)="bottom")/\¬("against":Str)="top":=⟨by decide +kernel,by decide +kernel⟩
theorem b1k{k:Nat}(h:1<=k):Bits k (1:Int):=Bits.mono (j:=1) (by show(1:Int).natAbs<2^1;decide) h
theorem yn{b:Int}(hb:0<b):dv 1 b=1:=by unfold dv;rw[if_neg (by omega)];show((Nat.gcd 1 b.natAbs:Nat):Int)=1;rw[Nat.gcd_one_left];rfl
theorem vH{b:Int}(hb:0<b):rt 1 b=1:=by have h:=km (t:=1) (b:=b) (by omega);rw[yn hb,K4]at h;exact h
theorem vQ{b:Int}(hb:0<b):rb 1 b=b:=by have h:=je (t:=1) (b:=b) (by omega);rw[yn hb,K4]at h;exact h
theorem E4{CN:Addr}{H3:Hp}{q:Addr->Hp->Prop}{E:XK}{r l h:Addr}{ns:List V}(e3:H3 r=some (.lst ns))(k:∀(x p:Addr) (H':Hp),Same H3 H'->H3 x=none->NA CN H' x p l h->H' p=some (.lst ns)->H3 p=none->q x H'):∀x dx:Addr,H3 x=none->H3 dx=none->dx≠x->lX CN (.ref x::([.ref r,.ref l,.ref h]++[])) (upd (upd H3 dx (.own x)) x (.ins CN dx [])) (λv H2=>v=.non/\q x H2) E:=λx dx nx ndx ne=>by
 have npx:r≠x:=aX e3 nx;have npd:r≠dx:=aX e3 ndx;refine⟨x,dx,r,l,h,_,rfl,ay,by rw[upd_ne npx,upd_ne npd];exact e3,λq hq=>⟨rfl,?_⟩⟩;have nqx:q≠x:=λz=>by rw[z,ay]at hq;cases hq
 have nqd:q≠dx:=λz=>by rw[z,upd_ne ne,ay]at hq;cases hq
 have hq3:H3 q=none:=by rw[upd_ne nqx,upd_ne nqd]at hq;exact hq
 refine k x q _ (λc o ec=>?_) nx ⟨dx,ay⟩ (by rw[upd_ne nqx,ay]) hq3;have ncx:c≠x:=aX ec nx;have ncd:c≠dx:=aX ec ndx;have e4:upd (upd H3 dx (.own x)) x (.ins CN dx []) c=some o:=by rw[upd_ne ncx,upd_ne ncd];exact ec
 rw[upd_ne ncx,upd_ne (aX e4 hq)];exact e4
theorem yt{xs ys:List Int}{x y:Nat}(hx:AllB x xs)(hy:AllB y ys):∀i,AllB (x+i*(y+1)) (aV xs ys i).1/\AllB (x+i*(y+1)) (aV xs ys i).2
 |0=>by rw[Nat.zero_mul];exact⟨AllB.zeros,hx⟩
 |i+1=>by
  obtain⟨h1,h2⟩:=yt hx hy i;have e:x+(i+1)*(y+1)=x+i*(y+1)+y+1:=by rw[Nat.succ_mul];omega
  have hs:Bits y (((RM.cf ys (ys.length-1)).natAbs:Nat):Int):=sD (hy.cf _);rw[e];show AllB _ (dG ys (aV xs ys i) _).1/\AllB _ (dG ys (aV xs ys i) _).2;unfold dG;dsimp only
  constructor
  ·intro v hv;rcases List.mem_or_eq_of_mem_set hv with h |rfl
   ·obtain⟨u,hu,rfl⟩:=LO.mp h;exact(hs.mul (h1 u hu)).mono (by omega)
   ·exact(kf (h2.cf _)).mono (by omega)
  ·refine AllB.of_cf λn=>?_
   rw[nR];by_cases hn:n<(scL (((RM.cf ys (ys.length-1)).natAbs:Nat):Int) (aV xs ys i).2).length-1
   ·rw[if_pos hn,bK]
    have m1:Bits (x+i*(y+1)+y) ((((RM.cf ys (ys.length-1)).natAbs:Nat):Int)*RM.cf (aV xs ys i).2 n):=by have:=hs.mul (h2.cf n);rwa [Nat.add_comm]at this
    refine m1.sub ?_;by_cases hp:(xs.length+1-ys.length-1-i)<=n
    ·rw[if_pos hp];exact(kf (h2.cf _)).mul (hy.cf _)
    ·rw[if_neg hp];exact Bits.zero
   ·rw[if_neg hn];exact Bits.zero
theorem mq{n:Nat}{l:List Int}(h:AllB n l):AllB n (aB l):=by
 intro y hy;obtain⟨x,hx,rfl⟩:=LO.mp hy;obtain⟨d,hd⟩:=jx hx;by_cases hg:(aK l:Int)=0
 ·rw[hg,Int.ediv_zero];exact Bits.zero
 ·have e:x/(aK l:Int)=d:=by rw[hd];exact Int.mul_ediv_cancel_left d hg
  rw[e];refine(h x hx).of_le ?_;rw[hd,Lj];exact Mt _ (Mg.mpr hg)
theorem oH(l:List Int):(aB l).length=l.length:=KF _
theorem vF(n:Nat)(o:List Int):Run n [] o:=by cases n with |zero=>rfl |succ n=>exact .inl rfl
theorem vK:∀(n:Nat) (one other:List Int),(bA n one other).length<=n
 |0,_,_=>KH _
 |n+1,one,other=>by
  show(if one=[]then[]else one::bA n other (nxt one other)).length<=n+1;split
  ·exact KJ _
  ·have:=vK n other (nxt one other);rw[Lr];omega
theorem Ax{n:Nat}{xs:List Int}(h:AllB n xs)(hl:xs.length<=9):AllB (n+4) (slopeL xs):=by intro x hx;obtain⟨k,hk,rfl⟩:=LO.mp hx;have hk':k<xs.length-1:=MC.mp hk;have b1:Bits 4 ((k:Int)+1):=MO (show((k:Int)+1).natAbs<=8 by omega) (by decide);exact(b1.mul (h.cf (k+1))).mono (by omega)
theorem Au(xs:List Int):(slopeL xs).length=xs.length-1:=by unfold slopeL;rw[KF,LY]
theorem wk{n:Nat}{l:List Int}(h:AllB n l):AllB n (aO l):=by
 unfold aO bQ;split
 ·intro y hy;obtain⟨x,hx,rfl⟩:=LO.mp hy;exact(mq h x hx).neg
 ·exact mq h
theorem vc{i j:Nat}{a b:List Int}{n:Nat}(ha:AllB i a)(hb:AllB j b):∀m,Bits (i+j+m) (sm a b n m)
 |0=>Bits.zero
 |m+1=>by
  rw[sm];refine(vc ha hb m).add ?_;unfold tm;split
  ·exact((ha.cf m).mul (hb.cf _)).mono (by omega)
  ·exact Bits.zero
theorem rB{i j k:Nat}{a b:List Int}(ha:AllB i a)(hb:AllB j b)(hk:i+j+a.length<=k):AllB k (am a b):=AllB.of_cf λn=>by rw[aW];exact(vc ha hb a.length).mono hk
theorem mV{c:Int}{l:List Int}(h:l≠[]):(am [c] l).length=l.length:=by unfold am;rw[if_neg (λz=>z.elim (λy=>nomatch y) h),KF,LY];show 1+l.length-1=l.length;omega
def oA:Sp:=λvs H Q _=>∃(a b:Addr) (xs ys:List Int) (n:Nat),vs=[.ref b,.ref a]/\H a=some (.lst (xs.map V.int))/\H b=some (.lst (ys.map V.int))/\ys≠[]/\AllB n xs/\AllB n ys/\(xs.length+2)*(n+1)<=1000000/\ys.length<=1000000/\∀H',Same H H'->Q (.bl (decide (aQ xs ys=[]))) H'
theorem Ds(F:Fun K "divides" "divides" pL f fd)(T:Txt K mg)(lu:Cal P w K mg base 2 "divided" ["first","second"] ma yg x6):FnOk P w K mg base CX0 3 f fd ["divisor","row"] oA:=by
 refine F.ok A9 (λvs H Q E h=>?_) (λcdv A outer s H vs Q E hr h=>?_)
 ·obtain⟨a,b,xs,ys,n,rfl,_⟩:=h;rfl
 ·obtain⟨a,b,xs,ys,nb,rfl,hA,hB,hy,bx,by',hsz,hyn,k⟩:=h;have hu:=hr.units;refine⟨_,(ai (ax (bR (kF (K:=K) rfl hu) (aq K (ak lu hr (aa (pv 1) (aa (pv 0) ad))) ac) (bh ad)))),?_⟩;refine aL ⟨_,rfl,_,rfl,a,b,xs,ys,nb,rfl,hA,hB,hy,bx,by',hsz,hyn,λt q r H1 sm1 ht hq hr' _ _ _ et eq er=>?_⟩;refine⟨t,_,_,_,rfl,rfl,SqT.of et,rfl,KJ _,λp hp=>?_⟩;exact⟨r,p,_,[],rfl,rfl,SqL.of (by rw[upd_ne (aX er hp)];exact er),SqL.of ay,k _ (sm1.then_new hp)⟩
def Chg(ns:List Int)(x1 x2 y1 y2:Int):Prop:=x1*y2<y1*x2/\sg (hv x1 x2 ns)≠0/\sg (hv y1 y2 ns)≠sg (hv x1 x2 ns)
def oB(C:Addr):Sp:=λvs H Q _=>∃(a x y:Addr) (ns:List Int) (x1 x2 y1 y2:Int),vs=[.ref a,.ref x,.ref y]/\H a=some (.lst (ns.map V.int))/\RA C H x x1 x2/\RA C H y y1 y2/\0<x2/\0<y2/\ns.length<=20/\AllB 1000 ns/\Bits 1000 x1/\Bits 1000 x2/\Bits 1000 y1/\Bits 1000 y2/\∀(r:Bool) (H':Hp),Same H H'->(r=true↔Chg ns x1 x2 y1 y2)->Q (.bl r) H'
theorem eh(c:Int):(sg c<0↔c<0)/\(0<=sg c↔0<=c)/\(sg c<=0↔c<=0):=by unfold sg;split<;>(try split)<;>omega
theorem DA(F:Fun K "changes_on" "changes_on" pT f fd)(T:Txt K mg)(R:RCI K mg C)(d6:Cal P w K mg base 2 "sign_at" ["row","ratio"] (gY C) kW kS)(fz:MCal P w K mg base 2 C "against" ["self","other"] (g6 C) kX kT):FnOk P w K mg base CX0 3 f fd ["polynomial","low","high"] (oB C):=by
 obtain⟨df,cZ,db⟩:=fz;refine F.ok vy (λvs H Q E h=>?_) (λcdv A outer s H vs Q E hr h=>?_)
 ·obtain⟨a,x,y,ns,x1,x2,y1,y2,rfl,_⟩:=h;rfl
 ·obtain⟨a,x,y,ns,x1,x2,y1,y2,rfl,hA,hx,hy,x2p,y2p,nl,nb,bx1,bx2,by1,by2,k⟩:=h;obtain⟨dx,hx'⟩:=id hx
  refine⟨_,(af (aj 3 vy (ak d6 hr (aa (pv 0) (aa (pv 1) ad))))
   (ai (ax (eQ (bR cr (dA (pv 1) R.cl cZ df (hr.mono) db .nil b9 (aa (pv 2) ad)) ac) (eQ (bR ga (pv 3) ac) (eN (bR ga (ak d6 hr (aa (pv 0) (aa (pv 2) ad))) (pv 3)))))))),?_⟩
  refine aA ⟨_,rfl,_,rfl,a,x,ns,x1,x2,⟨rfl,hA,hx,nl,nb.mono,bx1.mono,bx2.mono⟩,λH1 s1=>?_⟩;have hx1:=s1 _ _ hx';have s_lt:sg (x1*y2-y1*x2)<0↔x1*y2<y1*x2:=by rw[(eh _).1];omega
  refine aL (eH ⟨_,rfl,x,dx,_,rfl,hx1,dF _ _ cH.1 cH.2,_,rfl,x,y,x1,x2,y1,y2,rfl,hx.same s1,hy.same s1,bx1.mono,bx2.mono,by1.mono,by2.mono,(ae ⟨_,rfl,aG (λh1=>?_) (λh1=>?_)⟩)⟩)
  ·refine eH ⟨_,rfl,(ae ⟨_,rfl,cX (λh2=>?_) (λh2=>?_)⟩)⟩
   ·refine⟨_,rfl,_,rfl,a,y,ns,y1,y2,⟨rfl,s1 _ _ hA,hy.same s1,nl,nb.mono,by1.mono,by2.mono⟩,λH2 s2=>⟨_,rfl,(ae (k _ H2 (s1.trans s2) ?_))⟩⟩;refine⟨λz=>⟨s_lt.mp h1,h2,λe=>?_⟩,λz=>?_⟩
    ·rw[decide_eq_true e]at z;cases z
    ·rw[decide_eq_false z.2.2];rfl
   ·exact k false H1 s1 ⟨λz=>Bool.noConfusion z,λz=>absurd h2 z.2.1⟩
  ·exact k false H1 s1 ⟨λz=>Bool.noConfusion z,λz=>absurd (s_lt.mpr z.1) h1⟩
def dZ(l1 l2 h1 h2 x1 x2 y1 y2:Int):Prop:=l1*x2<=x1*l2/\y1*h2<=h1*y2
def lU(C CN:Addr):Sp:=λvs H Q _=>∃(o x y q l h:Addr) (l1 l2 h1 h2 x1 x2 y1 y2:Int),vs=[.ref o,.ref x,.ref y]/\NA CN H o q l h/\RA C H l l1 l2/\RA C H h h1 h2/\RA C H x x1 x2/\RA C H y y1 y2/\(∀c∈[l1,l2,h1,h2,x1,x2,y1,y2],Bits 1000 c)/\∀r:Bool,(r=true↔dZ l1 l2 h1 h2 x1 x2 y1 y2)->Q (.bl r) H
theorem Do(F:Fun K "lies_in" "lies_in" pI f fd)(T:Txt K mg)(R:RCI K mg C)(RN:NCI K mg CN)(fz:MCal P w K mg base 2 C "against" ["self","other"] (g6 C) kX kT):FnOk P w K mg base CX0 3 f fd ["one","low","high"] (lU C CN):=by
 obtain⟨df,cZ,db⟩:=fz;refine F.ok A8 (λvs H Q E h=>?_) (λcdv A outer s H vs Q E hr h=>?_)
 ·obtain⟨o,x,y,q,l,h,l1,l2,h1,h2,x1,x2,y1,y2,rfl,_⟩:=h;rfl
 ·obtain⟨o,x,y,q,l,h,l1,l2,h1,h2,x1,x2,y1,y2,rfl,⟨dO,hO⟩,hl,hh,hx,hy,hb,k⟩:=h;obtain⟨dx,hx'⟩:=id hx;obtain⟨dy,hy'⟩:=id hy;have b:∀{c:Int},c∈[l1,l2,h1,h2,x1,x2,y1,y2]->Bits 100000 c:=λh=>(hb _ h).mono
  refine⟨_,(ai (ax (eQ (bR kE (dA (pv 1) R.cl cZ df (hr.mono) db .nil b9 (aa (aH (K:=K) rfl (pv 0) rfl) ad)) ac) (eN (bR gF (dA (pv 2) R.cl cZ df (hr.mono) db .nil b9 (aa (aH (K:=K) rfl (pv 0) rfl) ad)) ac))))),?_⟩;have g1:0<=sg (x1*l2-l1*x2)↔l1*x2<=x1*l2:=by rw[(eh _).2.1];omega
  have g2:sg (y1*h2-h1*y2)<=0↔y1*h2<=h1*y2:=by rw[(eh _).2.2];omega
  refine aL (eH ⟨_,rfl,x,dx,_,rfl,hx',dF _ _ cH.1 cH.2,_,rfl,o,CN,dO,_,_,rfl,hO,RN.cl,RN.nL,fK _ _ _,x,l,x1,x2,l1,l2,rfl,hx,hl,b (by simp),b (by simp),b (by simp),b (by simp),(ae ⟨_,rfl,aG (λz1=>?_) (λz1=>?_)⟩)⟩)
  ·refine⟨_,rfl,y,dy,_,rfl,hy',dF _ _ cH.1 cH.2,_,rfl,o,CN,dO,_,_,rfl,hO,RN.cl,RN.nH,dX _ _ _,y,h,y1,y2,h1,h2,rfl,hy,hh,b (by simp),b (by simp),b (by simp),b (by simp),(ae (k _ ?_))⟩;rw[decide_eq_true_iff];exact⟨λz=>⟨g1.mp z1,g2.mp z⟩,λz=>g2.mpr z.2⟩
  ·exact k false ⟨λz=>Bool.noConfusion z,λz=>absurd (g1.mpr z.1) z1⟩
structure LkN(C CN:Addr)(H:Hp)(o q:Addr)(ns:List Int)(l1 l2 h1 h2:Int):Prop where
 na:∃l h,NA CN H o q l h/\RA C H l l1 l2/\RA C H h h1 h2
 row:H q=some (.lst (ns.map V.int))
 len:ns.length<=20
 bits:AllB 1000 ns
 b1:Bits 1000 l1
 b2:Bits 1000 l2
 b3:Bits 1000 h1
 b4:Bits 1000 h2
theorem LkN.same{C CN:Addr}{H H':Hp}{o q:Addr}{ns:List Int}{l1 l2 h1 h2:Int}(n:LkN C CN H o q ns l1 l2 h1 h2)(s:Same H H'):LkN C CN H' o q ns l1 l2 h1 h2:=by obtain⟨l,h,a,b,c⟩:=n.na;exact⟨⟨l,h,a.same s,b.same s,c.same s⟩,s _ _ n.row,n.len,n.bits,n.b1,n.b2,n.b3,n.b4⟩
structure PEnd(C:Addr)(H:Hp)(x:Addr)(x1 x2:Int):Prop where
 ra:RA C H x x1 x2
 pos:0<x2
 b1:Bits 1000 x1
 b2:Bits 1000 x2
theorem PEnd.same{C:Addr}{H H':Hp}{x:Addr}{x1 x2:Int}(n:PEnd C H x x1 x2)(s:Same H H'):PEnd C H' x x1 x2:=⟨n.ra.same s,n.pos,n.b1,n.b2⟩
def uj(C CN:Addr):Sp:=λvs H Q _=>∃(o x y q:Addr) (ns:List Int) (l1 l2 h1 h2 x1 x2 y1 y2:Int),vs=[.ref o,.ref x,.ref y]/\LkN C CN H o q ns l1 l2 h1 h2/\PEnd C H x x1 x2/\PEnd C H y y1 y2/\∀(r:Bool) (H':Hp),Same H H'->(r=true↔dZ l1 l2 h1 h2 x1 x2 y1 y2/\Chg ns x1 x2 y1 y2)->Q (.bl r) H'
theorem Da(F:Fun K "shows_in" "shows_in" pi f fd)(T:Txt K mg)(R:RCI K mg C)(RN:NCI K mg CN)(sM:Cal P w K mg base 3 "lies_in" ["one","low","high"] (lU C CN) Gv Gb)(sN:Cal P w K mg base 3 "changes_on" ["polynomial","low","high"] (oB C) Gx Gd):FnOk P w K mg base CX0 4 f fd ["one","low","high"] (uj C CN):=by
 refine F.ok A6 (λvs H Q E h=>?_) (λcdv A outer s H vs Q E hr h=>?_)
 ·obtain⟨o,x,y,q,ns,l1,l2,h1,h2,x1,x2,y1,y2,rfl,_⟩:=h;rfl
 ·obtain⟨o,x,y,q,ns,l1,l2,h1,h2,x1,x2,y1,y2,rfl,hN,hx,hy,k⟩:=h;obtain⟨l,h,na,rl,rh⟩:=hN.na;obtain⟨dO,hO⟩:=id na;refine⟨_,(ai (ax (eQ (ak sM hr (aa (pv 0) (aa (pv 1) (aa (pv 2) ad)))) (eN (ak sN hr (aa (aH (K:=K) rfl (pv 0) rfl) (aa (pv 1) (aa (pv 2) ad)))))))),?_⟩;refine aL (eH ⟨_,rfl,_,rfl,_,rfl,o,x,y,q,l,h,l1,l2,h1,h2,x1,x2,y1,y2,rfl,na,rl,rh,hx.ra,hy.ra,?_,λr hr=>⟨_,rfl,?_⟩⟩)
  ·intro c hc;simp only[KS,LV,or_false]at hc;rcases hc with rfl |rfl |rfl |rfl |rfl |rfl |rfl |rfl<;>first |exact hN.b1 |exact hN.b2 |exact hN.b3 |exact hN.b4 |exact hx.b1 |exact hx.b2 |exact hy.b1 |exact hy.b2
  ·cases r with
   |false=>exact bU (k false H (Same.refl _) ⟨λz=>Bool.noConfusion z,λz=>hr.mpr z.1⟩)
   |true =>refine dm ⟨_,rfl,o,CN,dO,_,_,rfl,hO,RN.cl,RN.nP,c9 _ _ _,_,rfl,_,rfl,q,x,y,ns,x1,x2,y1,y2,rfl,hN.row,hx.ra,hy.ra,hx.pos,hy.pos,hN.len,hN.bits,hx.b1,hx.b2,hy.b1,hy.b2,λr' H' s' hr'=>k r' H' s' ?_⟩;rw[hr'];exact⟨λz=>⟨hr.mp rfl,z⟩,λz=>z.2⟩
def ul(C CN:Addr):Sp:=λvs H Q _=>∃(o o' p g x y q q':Addr) (w:Str) (ns ns' gs:List Int) (l1 l2 h1 h2 k1 k2 j1 j2 x1 x2 y1 y2:Int),vs=[.ref o,.ref o',.ref p]/\H p=some (.tup [.str w,.ref g,.ref x,.ref y])/\LkN C CN H o q ns l1 l2 h1 h2/\LkN C CN H o' q' ns' k1 k2 j1 j2/\PEnd C H x x1 x2/\PEnd C H y y1 y2/\H g=some (.lst (gs.map V.int))/\gs.length<=20/\AllB 1000 gs/\∀(r:Bool) (H':Hp),Same H H'->(r=true↔2<=gs.length/\Chg gs x1 x2 y1 y2/\(aQ ns gs=[]/\dZ l1 l2 h1 h2 x1 x2 y1 y2)/\aQ ns' gs=[]/\dZ k1 k2 j1 j2 x1 x2 y1 y2)->Q (.bl r) H'
theorem Db(F:Fun K "shows_alike" "shows_alike" pj f fd)(T:Txt K mg)(R:RCI K mg C)(RN:NCI K mg CN)(iH:Cal P w K mg base 1 "degree" ["row"] md yh x8)(sN:Cal P w K mg base 3 "changes_on" ["polynomial","low","high"] (oB C) Gx Gd)(HS:Cal P w K mg base 3 "divides" ["divisor","row"] oA JY IU)(sM:Cal P w K mg base 3 "lies_in" ["one","low","high"] (lU C CN) Gv Gb):FnOk P w K mg base CX0 5 f fd ["first","second","paper"] (ul C CN):=by
 refine F.ok vw (λvs H Q E h=>?_) (λcdv A outer s H vs Q E hr h=>?_)
 ·obtain⟨o,o',p,g,x,y,q,q',w,ns,ns',gs,l1,l2,h1,h2,k1,k2,j1,j2,x1,x2,y1,y2,rfl,_⟩:=h;rfl
 ·obtain⟨o,o',p,g,x,y,q,q',w,ns,ns',gs,l1,l2,h1,h2,k1,k2,j1,j2,x1,x2,y1,y2,rfl,hp,hN,hN',hx,hy,hg,gl,gb,k⟩:=h
  refine⟨_,(af (aj 3 vw (aq K (pv 2) ac))
   (af (aM (PW.pt (du (aE cr (ak iH hr (aa (pv 3) ad)) ac) (fe (cF (cw (ak sN hr (aa (pv 3) (aa (aq K (pv 2) ac) (aa (aq K (pv 2) ac) ad)))))))))
     (ai (ax cq))
     aS)
   (ai (ax (cQ (Hh (K:=K) rfl rfl) (by rfl) T.all_ PyProof.Rows.boot_all (aa (f9 (own:=["one"]) (fr:=["shared_part","paper"]) (js:=[3,2]) (by walk_at "comp_ok") rfl (wm (K:=K) rfl (bJ (aa (pv 0) (aa (pv 1) ad)))) (λ_ _ _ _=>(eK (i:=0) (show List.Nodup (["one","shared_part","paper"]:List Str)from by decide +kernel) rfl (Or.inl rfl))) (λ_ _ _ _=>(eQ (ak HS hr (aa (pv 1) (aa (aH (K:=K) rfl (pv 0) rfl) ad))) (eN (ak sM hr (aa (pv 0) (aa (aq K (pv 2) ac) (aa (aq K (pv 2) ac) ad)))))))) ad)))))),?_⟩
  refine aA (au (SqT.of hp) rfl rfl ?_);refine aU (dM ⟨_,rfl,g,_,rfl,hg,_,_,rfl,rfl,_,rfl,aG (λz0=>?_) (λz0=>?_)⟩)
  ·have z0':((gs.map V.int).length:Int)-1<1:=z0;rw[KF]at z0';exact dm (aL (k false H (Same.refl _) ⟨λz=>Bool.noConfusion z,λz=>absurd z.1 (by omega)⟩))
  have z0':¬((gs.map V.int).length:Int)-1<1:=z0;rw[KF]at z0';have g2:2<=gs.length:=by omega
  have gn:gs≠[]:=λz=>by rw[z]at g2;exact absurd g2 (by decide)
  refine cI ⟨_,rfl,(au (SqT.of hp) rfl rfl (au (SqT.of hp) rfl rfl ⟨g,x,y,gs,x1,x2,y1,y2,rfl,hg,hx.ra,hy.ra,hx.pos,hy.pos,gl,gb,hx.b1,hx.b2,hy.b1,hy.b2,λr H1 s1 hr1=>⟨_,rfl,?_⟩⟩))⟩;cases r with
  |false=>exact dm (aL (k false H1 s1 ⟨λz=>Bool.noConfusion z,λz=>hr1.mpr z.2.1⟩))
  |true =>
   refine bU ?_;have c1:=hr1.mp rfl
   have each:∀{o q:Addr} {ns:List Int} {l1 l2 h1 h2:Int} {H':Hp} {Q':VK},LkN C CN H o q ns l1 l2 h1 h2->Same H H'->(∀(r:Bool) (H'':Hp),Same H' H''->(r=true↔aQ ns gs=[]/\dZ l1 l2 h1 h2 x1 x2 y1 y2)->Q' (.bl r) H'')->ol (lM oA [] E0 (gw (fS 1) (gw (oj K (fS 0) "poly") jX))) (lM (lU C CN) [] E0 (gw (fS 0) (gw (tOp (jf K) (fS 2) (tC (V.int 2))) (gw (tOp (jf K) (fS 2) (tC (V.int 3))) jX)))) [some (.ref o),some (.ref g),some (.ref p)] H' Q':=λ{o q ns l1 l2 h1 h2 H' Q'} N sm kk=>by
    obtain⟨l,h,na,rl,rh⟩:=N.na;obtain⟨dO,hO⟩:=id na;refine eH ⟨_,rfl,_,rfl,o,CN,dO,_,_,rfl,sm _ _ hO,RN.cl,RN.nP,c9 _ _ _,q,g,ns,gs,1000,rfl,sm _ _ N.row,sm _ _ hg,gn,N.bits,gb,by have:=N.len;have:(ns.length+2)*(1000+1)<=22*1001:=Lx _ (by omega);omega,by omega,λH2 s2=>⟨_,rfl,aG (λz=>?_) (λz=>?_)⟩⟩
    ·have t2:=sm.trans s2;have hp2:=t2 _ _ hp;refine⟨_,rfl,(au (SqT.of hp2) rfl rfl (au (SqT.of hp2) rfl rfl ⟨o,x,y,q,l,h,l1,l2,h1,h2,x1,x2,y1,y2,rfl,na.same t2,rl.same t2,rh.same t2,hx.ra.same t2,hy.ra.same t2,?_,λr hr=>kk r H2 s2 ?_⟩))⟩
     ·intro c hc;simp only[KS,LV,or_false]at hc;rcases hc with rfl |rfl |rfl |rfl |rfl |rfl |rfl |rfl<;>first |exact N.b1 |exact N.b2 |exact N.b3 |exact N.b4 |exact hx.b1 |exact hx.b2 |exact hy.b1 |exact hy.b2
     ·rw[hr];exact⟨λy=>⟨z,y⟩,λy=>y.2⟩
    ·exact kk false H2 s2 ⟨λy=>Bool.noConfusion y,λy=>absurd y.1 z⟩
   refine aL ⟨_,rfl,_,rfl,by show 2<=sizeLine;decide,λpt hpt=>?_⟩;have s2:=s1.then_new (o:=.tup [.ref o,.ref o']) hpt;have e2:upd H1 pt (.tup [.ref o,.ref o']) pt=some (.tup [.ref o,.ref o']):=ay;generalize upd H1 pt (.tup [.ref o,.ref o'])=H2 at s2 e2 ⊢
   refine⟨pt,rfl,⟨_,SqT.of e2⟩,GX (K:=K) (a:=pt) (xs:=[.ref o,.ref o']) (λi ys σ' H'=>∃(z0:Option V) (bs:List Bool),σ'=[z0,some (.ref g),some (.ref p)]/\ys=bs.map V.bl/\bs.length=i/\Same H H'/\H' pt=some (.tup [.ref o,.ref o'])/\(∀b,bs[0]?=some b->(b=true↔aQ ns gs=[]/\dZ l1 l2 h1 h2 x1 x2 y1 y2))/\(∀b,bs[1]?=some b->(b=true↔aQ ns' gs=[]/\dZ k1 k2 j1 j2 x1 x2 y1 y2))) (by show 2<=sizeLine;decide) ⟨none,[],rfl,rfl,rfl,s2,e2,λb h=>(nomatch h),λb h=>(nomatch h)⟩ ?_ ?_ ?_⟩
   ·rintro i ys σ' H' _ ⟨z0,bs,rfl,rfl,rfl,_,et,_⟩;exact⟨SqT.of et,by rw[KF];exact KH _⟩
   ·rintro i xv ys σ' H' hi ⟨z0,bs,rfl,rfl,hl,sm,et,hb0,hb1⟩;have hlt:=(List.getElem?_eq_some_iff.mp hi).1;have hlt':i<2:=hlt;rcases(show i=0\/i=1 by omega)with rfl |rfl
    ·cases hi;have bn:bs=[]:=Lv.mp hl;subst bn;refine each hN sm λr H'' s' hr=>⟨_,[r],rfl,rfl,rfl,sm.trans s',s' _ _ et,λb h=>?_,λb h=>(nomatch h)⟩
     cases h;exact hr
    ·cases hi
     obtain⟨b0,eb⟩:∃b0,bs=[b0]:=by
      cases bs with
      |nil=>cases hl
      |cons b t =>have:t=[]:=Lv.mp (by simpa using hl);exact⟨b,by rw[this]⟩
     subst eb;refine each hN' sm λr H'' s' hr=>⟨_,[b0,r],rfl,rfl,rfl,sm.trans s',s' _ _ et,λb h=>hb0 b h,λb h=>?_⟩
     cases h;exact hr
   ·rintro ys σ' H' pl ⟨z0,bs,rfl,rfl,hl,sm,et,hb0,hb1⟩ hpl
    obtain⟨b0,b1,eb⟩:∃b0 b1,bs=[b0,b1]:=by
     have hl2:bs.length=2:=hl
     match bs,hl2 with
     | [b0,b1],_=>exact⟨b0,b1,rfl⟩
    subst eb;refine⟨pl,[b0,b1],rfl,SqL.of ay,k _ _ (sm.then_new hpl) ?_⟩;have q0:=hb0 b0 rfl;have q1:=hb1 b1 rfl;show(b0&&(b1&&true))=true↔_;rw[Bool.and_true,Mo,q0,q1];exact⟨λz=>⟨g2,c1,z.1,z.2⟩,λz=>⟨z.2.2.1,z.2.2.2⟩⟩
def Iz(ns ns' gs:List Int)(l1 l2 h1 h2 k1 k2 j1 j2 x1 x2 y1 y2:Int):Prop:=2<=gs.length/\Chg gs x1 x2 y1 y2/\(aQ ns gs=[]/\dZ l1 l2 h1 h2 x1 x2 y1 y2)/\aQ ns' gs=[]/\dZ k1 k2 j1 j2 x1 x2 y1 y2
def jP(ns ns':List Int)(l1 l2 h1 h2 k1 k2 j1 j2 x1 x2 y1 y2 x1' x2' y1' y2':Int)(wd:Str):Prop:=(dZ l1 l2 h1 h2 x1 x2 y1 y2/\Chg ns x1 x2 y1 y2)/\(dZ k1 k2 j1 j2 x1' x2' y1' y2'/\Chg ns' x1' x2' y1' y2')/\(wd=("under":Str)->y1*x2'<=x1'*y2)/\(wd=("over":Str)->y1'*x2<=x1*y2')
def cT(C CN:Addr):Sp:=λvs H Q _=>∃(o o' p q q':Addr) (ns ns':List Int) (l1 l2 h1 h2 k1 k2 j1 j2:Int),vs=[.ref o,.ref o',.ref p]/\LkN C CN H o q ns l1 l2 h1 h2/\LkN C CN H o' q' ns' k1 k2 j1 j2 /\
 ((∃(g x y:Addr) (gs:List Int) (x1 x2 y1 y2:Int),H p=some (.tup [.str ("alike":Str),.ref g,.ref x,.ref y])/\PEnd C H x x1 x2/\PEnd C H y y1 y2/\H g=some (.lst (gs.map V.int))/\gs.length<=20/\AllB 1000 gs/\∀(r:Bool) (H':Hp),Same H H'->(r=true↔Iz ns ns' gs l1 l2 h1 h2 k1 k2 j1 j2 x1 x2 y1 y2)->Q (.bl r) H') \/
  ∃(wd:Str) (x y x' y':Addr) (x1 x2 y1 y2 x1' x2' y1' y2':Int),(wd=("under":Str)\/wd=("over":Str))/\H p=some (.tup [.str wd,.ref x,.ref y,.ref x',.ref y'])/\PEnd C H x x1 x2/\PEnd C H y y1 y2/\PEnd C H x' x1' x2'/\PEnd C H y' y1' y2'/\∀(r:Bool) (H':Hp),Same H H'->(r=true↔jP ns ns' l1 l2 h1 h2 k1 k2 j1 j2 x1 x2 y1 y2 x1' x2' y1' y2' wd)->Q (.bl r) H')
theorem n6:¬(("under":Str)=("alike":Str))/\¬(("over":Str)=("alike":Str))/\¬(("over":Str)=("under":Str)):=⟨by decide +kernel,by decide +kernel,by decide +kernel⟩
theorem CQ(F:Fun K "takes" "takes" o4 f fd)(T:Txt K mg)(R:RCI K mg C)(RN:NCI K mg CN)(HK:Cal P w K mg base 5 "shows_alike" ["first","second","paper"] (ul C CN) JN II)(zg:Cal P w K mg base 4 "shows_in" ["one","low","high"] (uj C CN) JM IH)(fz:MCal P w K mg base 2 C "against" ["self","other"] (g6 C) kX kT):FnOk P w K mg base CX0 6 f fd ["first","second","paper"] (cT C CN):=by
 obtain⟨df,cZ,db⟩:=fz;refine F.ok AZ (λvs H Q E h=>?_) (λcdv A outer s H vs Q E hr h=>?_)
 ·obtain⟨o,o',p,q,q',ns,ns',l1,l2,h1,h2,k1,k2,j1,j2,rfl,_⟩:=h;rfl
 ·obtain⟨o,o',p,q,q',ns,ns',l1,l2,h1,h2,k1,k2,j1,j2,rfl,hN,hN',hP⟩:=h
  refine⟨_,(af (aM (aE rf (aq K (pv 2) ac) cO)
   (ai (ax (ak HK hr (aa (pv 0) (aa (pv 1) (aa (pv 2) ad))))))
   aS)
   (af (aM (cF (PW.pt (fY (cw (ak zg hr (aa (pv 0) (aa (aq K (pv 2) ac) (aa (aq K (pv 2) ac) ad))))) (gC (cw (ak zg hr (aa (pv 1) (aa (aq K (pv 2) ac) (aa (aq K (pv 2) ac) ad)))))))))
     (ai (ax cq))
     aS)
   (af (aM (aE rf (aq K (pv 2) ac) cO)
     (ai (ax (bR gF (dA (aq K (pv 2) ac) R.cl cZ df (hr.mono) db .nil b9 (aa (aq K (pv 2) ac) ad)) ac)))
     aS)
   (ai (ax (eQ (bR rf (aq K (pv 2) ac) cO) (eN (bR gF (dA (aq K (pv 2) ac) R.cl cZ df (hr.mono) db .nil b9 (aa (aq K (pv 2) ac) ad)) ac)))))))),?_⟩
  rcases hP with⟨g,x,y,gs,x1,x2,y1,y2,hp,hx,hy,hg,gl,gb,k⟩ |⟨wd,x,y,x',y',x1,x2,y1,y2,x1',x2',y1',y2',hw,hp,hx,hy,hx',hy',k⟩
  ·refine aU (au (SqT.of hp) rfl rfl ⟨rfl,_,rfl,aG (λ_=>?_) (λz=>absurd rfl z)⟩);exact aL ⟨_,rfl,_,rfl,_,rfl,o,o',p,g,x,y,q,q',_,ns,ns',gs,l1,l2,h1,h2,k1,k2,j1,j2,x1,x2,y1,y2,rfl,hp,hN,hN',hx,hy,hg,gl,gb,k⟩
  ·have na:¬V.str wd=V.str ("alike":Str):=λz=>by
    injection z with z
    rcases hw with rfl |rfl
    ·exact n6.1 z
    ·exact n6.2.1 z
   refine aU (au (SqT.of hp) rfl rfl ⟨rfl,_,rfl,aG (λz=>absurd z na) (λ_=>?_)⟩);have refuse:∀(H':Hp),Same H H'->¬jP ns ns' l1 l2 h1 h2 k1 k2 j1 j2 x1 x2 y1 y2 x1' x2' y1' y2' wd->Q (.bl false) H':=λH' sm n=>k false H' sm ⟨λz=>Bool.noConfusion z,λz=>absurd z n⟩
   refine aU (cI (fX ⟨_,rfl,(au (SqT.of hp) rfl rfl (au (SqT.of hp) rfl rfl ⟨o,x,y,q,ns,l1,l2,h1,h2,x1,x2,y1,y2,rfl,hN,hx,hy,λr H1 s1 hr1=>⟨_,rfl,?_⟩⟩))⟩));cases r with
   |false=>exact bU (dm (aL (refuse H1 s1 λz=>Bool.noConfusion (hr1.mpr z.1))))
   |true =>
   refine dm ?_;have hp1:=s1 _ _ hp;refine⟨_,rfl,(au (SqT.of hp1) rfl rfl (au (SqT.of hp1) rfl rfl ⟨o',x',y',q',ns',k1,k2,j1,j2,x1',x2',y1',y2',rfl,hN'.same s1,hx'.same s1,hy'.same s1,λr H2 s2 hr2=>⟨_,rfl,?_⟩⟩))⟩;have t2:=s1.trans s2;cases r with
   |false=>exact dm (aL (refuse H2 t2 λz=>Bool.noConfusion (hr2.mpr z.2.1)))
   |true =>
   refine bU ?_;have c1:=hr1.mp rfl;have c2:=hr2.mp rfl;have hp2:=t2 _ _ hp;obtain⟨dy,hyr⟩:=id (hy.same t2).ra;obtain⟨dy',hyr'⟩:=id (hy'.same t2).ra;refine aU (au (SqT.of hp2) rfl rfl ⟨rfl,_,rfl,aG (λz=>?_) (λz=>?_)⟩)
   ·have ew:wd=("under":Str):=by injection z
    refine aL (au (SqT.of hp2) rfl rfl ⟨y,dy,_,rfl,hyr,dF _ _ cH.1 cH.2,(au (SqT.of hp2) rfl rfl ⟨y,x',y1,y2,x1',x2',rfl,(hy.same t2).ra,(hx'.same t2).ra,hy.b1.mono,hy.b2.mono,hx'.b1.mono,hx'.b2.mono,(ae (k _ H2 t2 ⟨λzz=>⟨c1,c2,λ_=>?_,λe=>?_⟩,λzz=>decide_eq_true ((eh _).2.2.mpr ?_)⟩))⟩)⟩)
    ·have:=(eh _).2.2.mp (of_decide_eq_true zz);omega
    ·rw[ew]at e;exact absurd e.symm n6.2.2
    ·have:=zz.2.2.1 ew;omega
   ·have nw:¬wd=("under":Str):=λe=>z (by rw[e])
    have ew:wd=("over":Str):=hw.resolve_left nw;refine aL (eH (au (SqT.of hp2) rfl rfl ⟨rfl,_,rfl,aG (λz2=>?_) (λz2=>absurd (by rw[ew]) z2)⟩));refine(au (SqT.of hp2) rfl rfl ⟨y',dy',_,rfl,hyr',dF _ _ cH.1 cH.2,(au (SqT.of hp2) rfl rfl ⟨y',x,y1',y2',x1,x2,rfl,(hy'.same t2).ra,(hx.same t2).ra,hy'.b1.mono,hy'.b2.mono,hx.b1.mono,hx.b2.mono,(ae (k _ H2 t2 ⟨λzz=>⟨c1,c2,λe=>absurd e nw,λ_=>?_⟩,λzz=>decide_eq_true ((eh _).2.2.mpr ?_)⟩))⟩)⟩)
    ·have:=(eh _).2.2.mp (of_decide_eq_true zz);omega
    ·have:=zz.2.2.2 ew;omega
def NU(kb:Nat)(C CN:Addr)(H:Hp)(x:Addr)(ns:List Int)(l1 l2 h1 h2 ε:Int)(Up:Int->Int->Prop):Prop:=∃q l h,NA CN H x q l h/\H q=some (.lst (ns.map V.int))/\RA C H l l1 l2/\RA C H h h1 h2/\EndsG kb l1 l2 h1 h2/\RootU ns l1 l2 h1 h2 ε Up
theorem NU.same{kb:Nat}{C CN:Addr}{H H':Hp}{x:Addr}{ns:List Int}{l1 l2 h1 h2 ε:Int}{Up:Int->Int->Prop}(n:NU kb C CN H x ns l1 l2 h1 h2 ε Up)(s:Same H H'):NU kb C CN H' x ns l1 l2 h1 h2 ε Up:=let⟨q,l,h,a,e,c,d,en⟩:=n;⟨q,l,h,a.same s,s _ _ e,c.same s,d.same s,en⟩
structure Nrw(C CN:Addr)(H:Hp)(vs:List V)(x wd:Addr)(ns:List Int)(l1 l2 h1 h2 ε:Int)(Up:Int->Int->Prop)(w1 w2:Int)(kb kw:Nat):Prop where
 vs:vs=[.ref x,.ref wd]
 nu:NU kb C CN H x ns l1 l2 h1 h2 ε Up
 tr:Tr ns
 ne:ns≠[]
 len:ns.length<=12
 bits:AllB 1000 ns
 wd:RA C H wd w1 w2
 w1p:0<w1
 w2p:0<w2
 b1:Bits kw w1
 b2:Bits kw w2
 k1:kb<=1400
 k2:2*kb+kw<=3900
 k3:5*kb+kw<=8900
def gX(C CN:Addr):Sp:=λvs H Q _=>∃(x wd:Addr) (ns:List Int) (l1 l2 h1 h2 ε:Int) (Up:Int->Int->Prop) (w1 w2:Int) (kb kw:Nat),Nrw C CN H vs x wd ns l1 l2 h1 h2 ε Up w1 w2 kb kw /\
 ∀(p y z:Addr) (H':Hp) (n pl:Nat) (x1 x2 y1 y2:Int),Same H H'->H p=none->H' p=some (.tup [.ref y,.ref z])->RA C H' y x1 x2->RA C H' z y1 y2->NarP l1 l2 h1 h2 w1 w2 Up (5*kb+kw+4) n pl x1 x2 y1 y2->Q (.ref p) H'
theorem CV(F:Fun K "span_of" "span_of" o8 f fd)(T:Txt K mg)(R:RCI K mg C)(RN:NCI K mg CN)(HM:Cal P w K mg base 6 "narrowed" ["row","low","high","width"] (uE C) JT IP):FnOk P w K mg base CX0 7 f fd ["one","width"] (gX C CN):=by
 refine F.ok A1 (λvs H Q E h=>?_) (λcdv A outer s H vs Q E hr h=>?_)
 ·obtain⟨x,wd,ns,l1,l2,h1,h2,ε,Up,w1,w2,kb,kw,hn,_⟩:=h;rw[hn.vs];rfl
 ·obtain⟨x,wd,ns,l1,l2,h1,h2,ε,Up,w1,w2,kb,kw,⟨rfl,⟨q,l,h,⟨dx,hx⟩,hq,hl,hh,en,ru⟩,tr,ne,len,bs,hw,p1,p2,b1,b2,k1,k2,k3⟩,k⟩:=h;refine⟨_,(ai (ax (ak HM hr (aa (aH (K:=K) rfl (pv 0) rfl) (aa (aH (K:=K) rfl (pv 0) rfl) (aa (aH (K:=K) rfl (pv 0) rfl) (aa (pv 1) ad))))))),?_⟩;exact aL ⟨_,rfl,x,CN,dx,_,_,rfl,hx,RN.cl,RN.nP,c9 _ _ _,_,rfl,x,CN,dx,_,_,rfl,hx,RN.cl,RN.nL,fK _ _ _,_,rfl,x,CN,dx,_,_,rfl,hx,RN.cl,RN.nH,dX _ _ _,_,rfl,q,l,h,wd,ns,l1,l2,h1,h2,w1,w2,kb,kw,ε,Up,rfl,hq,tr,ne,len,bs,hl,hh,hw,en,p1,p2,b1,b2,k1,k2,k3,ru,k⟩
theorem tU{t n t' n':Int}:∀{ls:List (List Int)},(∀l∈ls,ao l t n=ao l t' n')->spr t n ls=spr t' n' ls
 | [],_=>rfl
 |l::ls,h=>by show -ao l t n*spr t n ls = -ao l t' n'*spr t' n' ls;rw[h l (Ls ..),tU λx hx=>h x (Ll _ hx)]
theorem tT{t n:Int}:∀{ls:List (List Int)},(∀l∈ls,ao l t n≠0)->spr t n ls=1\/spr t n ls = -1
 | [],_=>.inl rfl
 |l::ls,h=>by
  have h1:=h l (Ls ..);have h2:=tT (ls:=ls) λx hx=>h x (Ll _ hx)
  show -ao l t n*spr t n ls=1 \/ -ao l t n*spr t n ls = -1;rcases cV l t n with z |z |z
  ·rw[z];omega
  ·exact absurd z h1
  ·rw[z];omega
theorem mj{l:List Int}(hl:Spt l){t n t' n':Int}(hn:0<n)(hn':0<n')(h:t*n'<=t'*n)(hs:0<ao l t' n'):0<ao l t n:=by
 rcases LU 0 (ao l t n)with z |z
 ·exact z
 ·exfalso;rcases MA h with y |y
  ·have:=d8 hl hn hn' y z;omega
  ·rw[fU l hn hn' y]at z;omega
theorem vf{l:List Int}(hl:Spt l){l1 l2 h1 h2 x1 x2:Int}(l2p:0<l2)(h2p:0<h2)(x2p:0<x2)(lt:l1*h2<h1*l2)(hno:¬(0<ao l l1 l2/\ao l h1 h2<=0))(hx:l1*x2<x1*l2)(hx':x1*h2<=h1*x2):ao l x1 x2=ao l h1 h2/\ao l h1 h2≠0:=by
 rcases LU 0 (ao l l1 l2)with z |z
 ·have h3:0<ao l h1 h2:=by
   rcases LU 0 (ao l h1 h2)with y |y
   ·exact y
   ·exact absurd ⟨z,y⟩ hno
  have h4:=mj hl x2p h2p hx' h3;rcases cV l x1 x2 with y |y |y<;>rcases cV l h1 h2 with w |w |w<;>omega
 ·have e1:=d8 hl l2p x2p hx z;have e2:=d8 hl l2p h2p lt z;omega
theorem BK{fs pre post:List (List Int)}{s:List Int}{c l1 l2 h1 h2:Int}(hF:∀f∈fs,iE f)(hc:c≠0)(hsp:bY fs=pre++s::post)(l2p:0<l2)(h2p:0<h2)(lt:l1*h2<h1*l2)(hno:∀x∈pre++post,¬(0<ao x l1 l2/\ao x h1 h2<=0)) :
 ∃ε:Int,(ε=1\/ε = -1)/\∀x1 x2,0<x2->l1*x2<x1*l2->x1*h2<=h1*x2->sg (hv x1 x2 (am [c] (cN [1] (fs.map aJ)))) = -ε*ao s x1 x2:=by
 have hS:∀x∈bY fs,Spt x:=λx hx=>fT hF hx
 have ho:∀x∈pre++post,Spt x:=λx hx=>hS x (by rw[hsp];simp at hx ⊢;rcases hx with h |h<;>simp[h])
 have hu:=tT (t:=h1) (n:=h2) (ls:=pre++post) λy hy=>(vf (ho y hy) l2p h2p h2p lt (hno y hy) lt (K6 _)).2
 have hsg:sg c=1\/sg c = -1:=by
  rcases LC hc with z |z
  ·right;unfold sg;rw[if_pos z]
  ·left;unfold sg;rw[if_neg (by omega),if_pos z]
 refine⟨sg c*spr h1 h2 (pre++post),?_,λx1 x2 x2p a b=>?_⟩
 ·rcases hsg with z |z<;>rcases hu with y |y<;>rw[z,y]<;>decide
 ·rw[wc x2p hF,hsp,lN];show sg c*(spr x1 x2 pre*(-ao s x1 x2*spr x1 x2 post))=_;have e:spr x1 x2 (pre++post)=spr h1 h2 (pre++post):=tU λy hy=>(vf (ho y hy) l2p h2p x2p lt (hno y hy) a b).1
  rw[<- e,lN];grind
structure NSg(kb:Nat)(C CN:Addr)(H:Hp)(x:Addr)(ns:List Int)(l1 l2 h1 h2 ε:Int)(s:List Int):Prop where
 nu:NU kb C CN H x ns l1 l2 h1 h2 ε (λt n=>0<ao s t n)
 spt:Spt s
 sgn:∀x1 x2,0<x2->l1*x2<x1*l2->x1*h2<=h1*x2->sg (hv x1 x2 ns) = -ε*ao s x1 x2
theorem NSg.same{kb:Nat}{C CN:Addr}{H H':Hp}{x:Addr}{ns:List Int}{l1 l2 h1 h2 ε:Int}{s:List Int}(n:NSg kb C CN H x ns l1 l2 h1 h2 ε s)(sm:Same H H'):NSg kb C CN H' x ns l1 l2 h1 h2 ε s:=⟨n.nu.same sm,n.spt,n.sgn⟩
def oC(C CN:Addr):Sp:=λvs H Q _=>∃(x:Addr) (ns:List Int) (l1 l2 h1 h2 ε τ:Int) (s:List Int),vs=[.ref x,.int (-ε*τ)]/\NSg 2000 C CN H x ns l1 l2 h1 h2 ε s/\ns.length<=20/\AllB 1000 ns/\(τ=0\/τ=1\/τ = -1/\ao s h1 h2 = -1)/\∀H',Same H H'->Q (.int τ) H'
theorem DC(F:Fun K "beside" "beside" pV f fd)(T:Txt K mg)(R:RCI K mg C)(RN:NCI K mg CN)(d6:Cal P w K mg base 2 "sign_at" ["row","ratio"] (gY C) kW kS):FnOk P w K mg base CX0 3 f fd ["one","sign"] (oC C CN):=by
 refine F.ok Bg (λvs H Q E h=>?_) (λcdv A outer s H vs Q E hr h=>?_)
 ·obtain⟨x,ns,l1,l2,h1,h2,ε,τ,s,rfl,_⟩:=h;rfl
 ·obtain⟨x,ns,l1,l2,h1,h2,ε,τ,sp,rfl,hN,nl,nb,hτ,k⟩:=h;obtain⟨q,l,h,⟨dx,hx⟩,hq,hl,hh,en,ru⟩:=id hN.nu
  refine⟨_,(af (aM (aE bN (pv 1) ac)
   (ai (ax ac))
   aS)
   (af (aM (aE bN (pv 1) (ak d6 hr (aa (aH (K:=K) rfl (pv 0) rfl) (aa (aH (K:=K) rfl (pv 0) rfl) ad))))
     (ai (ax (ck ci ac)))
     aS)
   (ai (ax ac)))),?_⟩
  have e1:=ru.e1;have hs:=hN.sgn h1 h2 en.h2p en.lt (K6 _);have htop:ao sp h1 h2<=0:=Li.mp ru.top;have hc:=cV sp h1 h2;refine aU ⟨_,rfl,(ae ⟨_,rfl,aG (λh0=>?_) (λh0=>?_)⟩)⟩
  ·have h0' : -ε*τ=0:=h0;have e:τ=0:=by rcases e1 with rfl |rfl<;>omega
   subst e;exact k H (Same.refl _)
  have h0':¬ -ε*τ=0:=h0;refine aU ⟨_,rfl,_,rfl,x,CN,dx,_,_,rfl,hx,RN.cl,RN.nP,c9 _ _ _,_,rfl,x,CN,dx,_,_,rfl,hx,RN.cl,RN.nH,dX _ _ _,q,h,ns,h1,h2,⟨rfl,hq,hh,nl,nb.mono,en.bh1.mono,en.bh2.mono⟩,λH1 s1=>(ae ⟨_,rfl,aG (λhe=>?_) (λhne=>?_)⟩)⟩
  ·have he' : -ε*τ=sg (hv h1 h2 ns):=he;rw[hs]at he'
   have e:τ = -1:=by
    rcases hτ with rfl |rfl |⟨rfl,_⟩
    ·exact absurd (KO _) h0'
    ·rcases e1 with rfl |rfl<;>omega
    ·rfl
   subst e;exact aL ⟨_,rfl,k H1 s1⟩
  ·have hne':¬ -ε*τ=sg (hv h1 h2 ns):=hne;rw[hs]at hne'
   have e:τ=1:=by
    rcases hτ with rfl |rfl |⟨rfl,z⟩
    ·exact absurd (KO _) h0'
    ·rfl
    ·rw[z]at hne';exact absurd rfl hne'
   subst e;exact aL (k H1 s1)
def uX(C CN:Addr):Sp:=λvs H Q _=>∃(x r:Addr) (ns:List Int) (l1 l2 h1 h2 ε u d:Int) (s:List Int),vs=[.ref x,.ref r]/\NSg 2000 C CN H x ns l1 l2 h1 h2 ε s/\ns.length<=20/\AllB 1000 ns/\RA C H r u d/\0<d/\Bits 3000 u/\Bits 3000 d/\∀H',Same H H'->Q (.int (ao s u d)) H'
theorem DG(F:Fun K "against" "against" pY f fd)(T:Txt K mg)(R:RCI K mg C)(RN:NCI K mg CN)(fz:MCal P w K mg base 2 C "against" ["self","other"] (g6 C) kX kT)(sO:Cal P w K mg base 3 "beside" ["one","sign"] (oC C CN) Gy Ge)(d6:Cal P w K mg base 2 "sign_at" ["row","ratio"] (gY C) kW kS):FnOk P w K mg base CX0 4 f fd ["one","ratio"] (uX C CN):=by
 obtain⟨df,cZ,db⟩:=fz;refine F.ok Bi (λvs H Q E h=>?_) (λcdv A outer s H vs Q E hr h=>?_)
 ·obtain⟨x,r,ns,l1,l2,h1,h2,ε,u,d,s,rfl,_⟩:=h;rfl
 ·obtain⟨x,r,ns,l1,l2,h1,h2,ε,u,d,sp,rfl,hN,nl,nb,hR,hd,bu,bd,k⟩:=h;obtain⟨q,l,h,⟨dx,hx⟩,hq,hl,hh,en,ru⟩:=id hN.nu;obtain⟨dr,hr'⟩:=id hR
  refine⟨_,(af (aM (aE gF (dA (pv 1) R.cl cZ df (hr.mono) db .nil b9 (aa (aH (K:=K) rfl (pv 0) rfl) ad)) ac)
   (ai (ax ac))
   aS)
   (af (aM (aE ca (dA (pv 1) R.cl cZ df (hr.mono) db .nil b9 (aa (aH (K:=K) rfl (pv 0) rfl) ad)) ac)
     (ai (ax (ck ci ac)))
     aS)
   (ai (ax (ak sO hr (aa (pv 0) (aa (ak d6 hr (aa (aH (K:=K) rfl (pv 0) rfl) (aa (pv 1) ad))) ad))))))),?_⟩
  have htop:ao sp h1 h2<=0:=Li.mp ru.top;have sgp:∀c:Int,sg c>0↔0<c:=λc=>by unfold sg;split<;>(try split)<;>constructor<;>intro z<;>omega
  refine aU ⟨_,rfl,r,dr,_,rfl,hr',dF _ _ cH.1 cH.2,_,rfl,x,CN,dx,_,_,rfl,hx,RN.cl,RN.nL,fK _ _ _,r,l,u,d,l1,l2,rfl,hR,hl,bu.mono,bd.mono,en.bl1.mono,en.bl2.mono,(ae ⟨_,rfl,aG (λh0=>?_) (λh0=>?_)⟩)⟩
  ·have h3:u*l2<=l1*d:=Li.mp λz=>by have:=(sgp (u*l2-l1*d)).mpr (by omega);have h0':sg (u*l2-l1*d)<=0:=h0;omega
   have h4:=mj hN.spt hd en.l2p h3 ru.low;have e:ao sp u d=1:=by rcases cV sp u d with z |z |z<;>omega
   rw[e]at k;exact aL (k H (Same.refl _))
  have h3:l1*d<u*l2:=Ly.mp λz=>h0 (show sg (u*l2-l1*d)<=0 from Li.mp λy=>by have:=(sgp (u*l2-l1*d)).mp y;omega)
  refine aU ⟨_,rfl,r,dr,_,rfl,hr',dF _ _ cH.1 cH.2,_,rfl,x,CN,dx,_,_,rfl,hx,RN.cl,RN.nH,dX _ _ _,r,h,u,d,h1,h2,rfl,hR,hh,bu.mono,bd.mono,en.bh1.mono,en.bh2.mono,(ae ⟨_,rfl,aG (λh0'=>?_) (λh0'=>?_)⟩)⟩
  ·have h4:=(sgp (u*h2-h1*d)).mp h0';have e:=d8 hN.spt en.h2p hd (show h1*d<u*h2 by omega) htop;rw[e]at k;exact aL ⟨_,rfl,k H (Same.refl _)⟩
  have h4:u*h2<=h1*d:=Li.mp λz=>h0' ((sgp (u*h2-h1*d)).mpr (by omega))
  have hs:=hN.sgn u d hd h3 h4;refine aL ⟨_,rfl,_,rfl,x,CN,dx,_,_,rfl,hx,RN.cl,RN.nP,c9 _ _ _,_,rfl,q,r,ns,u,d,⟨rfl,hq,hR,nl,nb.mono,bu.mono,bd.mono⟩,λH1 s1=>?_⟩;rw[hs];refine⟨x,ns,l1,l2,h1,h2,ε,ao sp u d,sp,rfl,hN.same s1,nl,nb,?_,λH2 s2=>k H2 (s1.trans s2)⟩;rcases cV sp u d with z |z |z
  ·exact .inr (.inl z)
  ·exact .inl z
  ·refine .inr (.inr ⟨z,?_⟩);rcases MA h4 with y |y
   ·exact d8 hN.spt hd en.h2p y (by omega)
   ·rw[<- fU sp hd en.h2p y];exact z
structure WOk(u v w d:Int):Prop where
 bu:Bits 20 u
 bv:Bits 20 v
 w1:0<w
 w12:w<=12
 d2:2<=d
 d35:d<=35
 ns:NSq d
theorem WOk.bw{u v w d:Int}(h:WOk u v w d):Bits 4 w:=by show w.natAbs<2^4;have:=h.w1;have:=h.w12;omega
theorem WOk.bd{u v w d:Int}(h:WOk u v w d):Bits 6 d:=by show d.natAbs<2^6;have:=h.d2;have:=h.d35;omega
noncomputable def aP(u v w d:Int):List Int:=if v=0 then aO [-u,w]else aO [u*u-d*v*v,-2*u*w,w*w]
theorem fG{u v w d:Int}(hd:0<d):aP u v w d=aJ [u,d*v*v,w]:=by
 unfold aP;show _=aO (aI u (d*v*v) w);unfold aI;by_cases hv:v=0
 ·subst hv;rw[if_pos rfl,if_pos (by omega)]
 ·have he:d*v*v≠0:=KM (KM (by omega) hv) hv;rw[if_neg hv,if_neg he];have : -2*u*w = -2*w*u:=by grind
  rw[this]
theorem y9{k:Nat}{x:Int}(h:Bits k x):x.natAbs<2^k:=h
theorem kU{u v w d:Int}(hW:WOk u v w d):FacG [u,d*v*v,w]:=by
 have h1:=y9 hW.bu;have h2:=y9 hW.bv;have e1:(2:Nat)^20=1048576:=rfl;have hvv:(v*v).natAbs<=1048576*1048576:=by rw[Lj];exact MG (by omega) (by omega)
 have hd:(d*(v*v)).natAbs<=35*(1048576*1048576):=by rw[Lj];exact MG (by have:=hW.d2;have:=hW.d35;omega) hvv
 have e2:d*v*v=d*(v*v):=KQ _ _ _;have hn:=rg hW.ns v;rw[e2]at hn ⊢;exact⟨u,d*(v*v),w,rfl,by omega,by omega,by omega,by omega,by have:=hW.w1;omega,by have:=hW.w12;omega,hn⟩
theorem gG{one other:List Int}{x y:Nat}(b1:AllB x one)(b2:AllB y other):Tr (nxt one other)/\(nxt one other).length<=other.length-1/\AllB (x+bz one other*(y+1)) (nxt one other):=by
 by_cases ho:other=[]
 ·subst ho;have e:nxt one []=[]:=by unfold nxt rst;rw[if_pos rfl];rfl
  rw[e];exact⟨λn hn=>by simp at hn,KJ _,AllB.nil⟩
 ·have rb:AllB (x+bz one other*(y+1)) (aQ one other):=((yt b1 b2 (bz one other)).2).trim;refine⟨gT (fb _),?_,?_⟩
  ·unfold nxt rst;rw[if_neg ho,iN (gr _ _),oH,cP];have:=iy (a:=one) ho;omega
  ·unfold nxt rst;rw[if_neg ho,iN (gr _ _)];refine mq λv hv=>?_
   obtain⟨u,hu,rfl⟩:=LO.mp hv;have:=(rb u hu).neg
   rwa [show -1*u = -u by omega]
theorem jZ{n:Nat}{one other:List Int}{x y:Nat}(t1:Tr one)(t2:Tr other)(b1:AllB x one)(b2:AllB y other)(l1:one.length<=9)(l2:other.length<=9)(hx:x<=1000)(hy:y<=1000)(h:Run n other (nxt one other)/\∀xs∈bA n other (nxt one other),xs.length<=20/\AllB 1000 xs):Run (n+1) one other/\∀xs∈bA (n+1) one other,xs.length<=20/\AllB 1000 xs:=by
 by_cases ho:one=[]
 ·subst ho;exact⟨vF _ _,λxs hx=>by rw[ic]at hx;exact nomatch hx⟩
 ·refine⟨.inr ⟨⟨t1,t2,1000,b1.mono hx,b2.mono hy,by omega,by omega⟩,h.1⟩,λxs hm=>?_⟩
  have e:bA (n+1) one other=one::bA n other (nxt one other):=by show(if one=[]then[]else one::bA n other (nxt one other))=_;rw[if_neg ho]
  rw[e]at hm;rcases KS.mp hm with rfl |hm
  ·exact⟨by omega,b1.mono hx⟩
  ·exact h.2 xs hm
theorem BD{p F:List Int}(hp:Tr p)(p2:2<=p.length)(pl:p.length<=3)(pb:AllB 48 p)(tF:Tr F)(lF:F.length<=9)(bF:AllB 125 F):Run 14 p F/\∀xs∈bA 14 p F,xs.length<=20/\AllB 1000 xs:=by
 obtain⟨t2,l2,b2⟩:=gG pb bF
 obtain⟨B2,hB2,b2',B3,b3',hB3,B4,b4',hB4,l3,l4⟩:∃B2,B2<=1000/\AllB B2 (nxt p F)/\∃B3,AllB B3 (nxt F (nxt p F))/\B3<=1000/\∃B4,AllB B4 (nxt (nxt p F) (nxt F (nxt p F)))/\B4<=1000/\(nxt F (nxt p F)).length<=9/\(nxt (nxt p F) (nxt F (nxt p F))).length<=1:=by
  rcases Nat.lt_or_ge p.length F.length with z |z
  ·have e0:bz p F=0:=by unfold bz;omega
   have nF:F≠[]:=λy=>by subst y;simp at z
   have len2:(nxt p F).length=p.length:=by unfold nxt rst;rw[if_neg nF,iN (gr _ _),oH,cP];unfold aQ;rw[e0];show(trim p).length=_;rw[lH hp]
   rw[e0,Nat.zero_mul]at b2;obtain⟨t3,l3,b3⟩:=gG bF b2;obtain⟨t4,l4,b4⟩:=gG b2 b3;have d3:bz F (nxt p F)<=10-p.length:=by unfold bz;omega
   have m3:=Lx 49 d3;by_cases q:(nxt F (nxt p F)).length=2
   ·have p3:p.length=3:=by omega
    rw[p3]at m3;have d4:bz (nxt p F) (nxt F (nxt p F))=2:=by unfold bz;omega
    rw[d4]at b4;exact⟨48,by omega,b2,_,b3,by omega,_,b4,by omega,by omega,by omega⟩
   ·have e4:nxt (nxt p F) (nxt F (nxt p F))=[]:=Lv.mp (by omega);refine⟨48,by omega,b2,_,b3,?_,0,by rw[e4];exact AllB.nil,by omega,by omega,by rw[e4];exact KJ _⟩;have:(10-p.length)*49<=8*49:=Lx 49 (by omega);omega
  ·by_cases nF:F=[]
   ·subst nF;have e2:nxt p []=[]:=by unfold nxt rst;rw[if_pos rfl];rfl
    have e3:nxt [] ([]:List Int)=[]:=by unfold nxt rst;rw[if_pos rfl];rfl
    rw[e2,e3,e3];exact⟨0,by omega,AllB.nil,0,AllB.nil,by omega,0,AllB.nil,by omega,KJ _,KJ _⟩
   ·have fl:=KL.mpr nF;have d2:bz p F<=3:=by unfold bz;omega
    have m2:=Lx 126 d2;have b2:=b2.mono (k:=426) (by omega);obtain⟨t3,l3,b3⟩:=gG bF b2;obtain⟨t4,l4,b4⟩:=gG b2 b3;have e4:nxt (nxt p F) (nxt F (nxt p F))=[]:=Lv.mp (by omega);rw[e4];by_cases q:(nxt p F).length=2
    ·have d3:bz F (nxt p F)<=2:=by unfold bz;omega
     have m3:=Lx 427 d3;exact⟨426,by omega,b2,_,b3,by omega,0,AllB.nil,by omega,by omega,KJ _⟩
    ·have e3:nxt F (nxt p F)=[]:=Lv.mp (by omega);rw[e3];exact⟨426,by omega,b2,0,AllB.nil,by omega,0,AllB.nil,by omega,KJ _,KJ _⟩
 obtain⟨t3,l3',_⟩:=gG bF b2';obtain⟨t4,l4',_⟩:=gG b2' b3';obtain⟨t5,l5,_⟩:=gG b3' b4';have e5:nxt (nxt F (nxt p F)) (nxt (nxt p F) (nxt F (nxt p F)))=[]:=Lv.mp (by omega);refine jZ hp tF pb bF (by omega) lF (by omega) (by omega) (jZ tF t2 bF b2' lF (by omega) (by omega) hB2 (jZ t2 t3 b2' b3' (by omega) l3 hB2 hB3 (jZ t3 t4 b3' b4' l3 (by omega) hB3 hB4 ?_)));rw[e5];exact jZ t4 (λn hn=>by simp at hn) b4' (AllB.nil (k:=0)) (by omega) (KJ _) hB4 (by omega) ⟨vF _ _,λxs hx=>by rw[ic]at hx;exact nomatch hx⟩
theorem fk{u v w d:Int}(hW:WOk u v w d):Pln (aP u v w d)/\2<=(aP u v w d).length/\(aP u v w d).length<=3/\AllB 48 (aP u v w d):=by
 have hw:=hW.w1;have hP:=rT (kU hW);rw[<- fG (by have:=hW.d2;omega)]at hP;refine⟨hP.pln,hP.two,?_,?_⟩
 ·unfold aP;split<;>rw[RM.plain_len]<;>simp
 ·have bw:=hW.bw;unfold aP;split
  ·refine wk ?_;intro x hx;rcases KS.mp hx with rfl |hx
   ·exact hW.bu.neg.mono
   ·rw[KP.mp hx];exact bw.mono
  ·refine wk ?_;intro x hx;have b2:Bits 2 (-2:Int):=by show(-2:Int).natAbs<2^2;decide
   rcases KS.mp hx with rfl |hx
   ·have q1:Bits 47 (u*u):=(hW.bu.mul hW.bu).mono;have q2:Bits 47 (d*v*v):=((hW.bd.mul hW.bv).mul hW.bv).mono;exact q1.sub q2
   ·rcases KS.mp hx with rfl |hx
    ·exact((b2.mul hW.bu).mul bw).mono
    ·rw[KP.mp hx];exact(bw.mul bw).mono
def SdN(C CN:Addr)(H:Hp)(x:Addr)(u v w d l1 l2 h1 h2:Int):Prop:=∃q l h,NA CN H x q l h/\H q=some (.lst ((aP u v w d).map V.int))/\RA C H l l1 l2/\RA C H h h1 h2/\EndsG 40 l1 l2 h1 h2/\OneS [[u,d*v*v,w]] [u,d*v*v,w] [u,d*v*v,w,ar v] l1 l2 h1 h2
def uh(C CN:Addr):Sp:=λvs H Q _=>∃(a x:Addr) (q:List Int) (u v w d l1 l2 h1 h2:Int),vs=[.ref a,.ref x]/\H a=some (.lst (q.map V.int))/\Tr q/\q.length<=8/\AllB 71 q/\WOk u v w d/\SdN C CN H x u v w d l1 l2 h1 h2/\∀H',Same H H'->Q (.int (sgq (hpA u v w d q).1 (hpA u v w d q).2.1 d)) H'
theorem CZ(F:Fun K "side" "side" ph f fd)(T:Txt K mg)(R:RCI K mg C)(RN:NCI K mg CN)(d6:Cal P w K mg base 2 "sign_at" ["row","ratio"] (gY C) kW kS)(HU:Cal P w K mg base 4 "count" ["row","low","high"] (uO C) JZ IV)(HL:Cal P w K mg base 34 "row_from" ["first","second"] uq JQ IL)(sL:Cal P w K mg base 1 "multiplied" ["first","second"] j7 Gu Ga)(HI:Cal P w K mg base 1 "slope" ["row"] (sp1 slopeL) JK IF):FnOk P w K mg base CX0 36 f fd ["row","one"] (uh C CN):=by
 refine F.ok A5 (λvs H Q E h=>?_) (λcdv A outer s H vs Q E hr h=>?_)
 ·obtain⟨a,x,q,u,v,w,d,l1,l2,h1,h2,rfl,_⟩:=h;rfl
 ·obtain⟨a,x,q,u,v,w,d,l1,l2,h1,h2,rfl,hA,tq,lq,bq,hW,hN,k⟩:=h;obtain⟨po,l,h,⟨dx,hx⟩,hpo,hl,hh,en,hO⟩:=hN;obtain⟨pP,p2,p3,pb⟩:=fk hW;have eL:aP u v w d=aJ [u,d*v*v,w]:=fG (by have:=hW.d2;omega)
  refine⟨_,(af (aM (aE bN (ak d6 hr (aa (aH (K:=K) rfl (pv 1) rfl) (aa (aH (K:=K) rfl (pv 1) rfl) ad))) ac)
   (ai (ax (ak d6 hr (aa (pv 0) (aa (aH (K:=K) rfl (pv 1) rfl) ad)))))
   aS)
   (ai (ax (ak HU hr (aa (ak HL hr (aa (aH (K:=K) rfl (pv 1) rfl) (aa (ak sL hr (aa (ak HI hr (aa (aH (K:=K) rfl (pv 1) rfl) ad)) (aa (pv 0) ad))) ad))) (aa (aH (K:=K) rfl (pv 1) rfl) (aa (aH (K:=K) rfl (pv 1) rfl) ad))))))),?_⟩
  refine aU ⟨_,rfl,x,CN,dx,_,_,rfl,hx,RN.cl,RN.nP,c9 _ _ _,_,rfl,x,CN,dx,_,_,rfl,hx,RN.cl,RN.nH,dX _ _ _,po,h,aP u v w d,h1,h2,⟨rfl,hpo,hh,by omega,pb.mono,en.bh1.mono,en.bh2.mono⟩,λH1 s1=>(ae ⟨_,rfl,aG (λh0=>?_) (λh0=>?_)⟩)⟩
  ·have h0':sg (hv h1 h2 (aP u v w d))=0:=h0;rw[eL]at h0';refine aL ⟨_,rfl,_,rfl,x,CN,dx,_,_,rfl,s1 _ _ hx,RN.cl,RN.nH,dX _ _ _,a,h,q,h1,h2,⟨rfl,s1 _ _ hA,hh.same s1,by omega,bq.mono,en.bh1.mono,en.bh2.mono⟩,λH2 s2=>?_⟩;rw[zY hW.ns hW.w1 hO q h0'];exact k H2 (s1.trans s2)
  ·have h0':¬sg (hv h1 h2 (aP u v w d))=0:=h0;have hx1:=s1 _ _ hx;have hpo1:=s1 _ _ hpo;have bs:AllB 52 (slopeL (aP u v w d)):=Ax pb (by omega);have lS:=Au (aP u v w d);have bF:AllB 125 (am (slopeL (aP u v w d)) q):=rB bs bq (by omega);have tF:Tr (am (slopeL (aP u v w d)) q):=gU (og pP.tr) tq
   have lF:(am (slopeL (aP u v w d)) q).length<=9:=by
    by_cases hq:q=[]
    ·subst hq;have e:am (slopeL (aP u v w d)) []=[]:=by unfold am;rw[if_pos (.inr rfl)]
     rw[e];exact KJ _
    ·rw[cs (λz=>by have:=congrArg List.length z;rw[lS]at this;simp at this;omega) hq,lS];omega
   obtain⟨hrun,hrows⟩:=BD (F:=aB (am (slopeL (aP u v w d)) q)) pP.tr p2 p3 pb (gT tF) (by rw[oH];exact lF) (mq bF);have eP:aB (aP u v w d)=aP u v w d:=mr (.inr pP.prim);have tar:=zZ hW.ns hW.w1 hO tq (N:=14) (by omega) (by rw[<- eL];exact h0');rw[<- eL]at tar;refine aL ⟨_,rfl,x,CN,dx,_,_,rfl,hx1,RN.cl,RN.nP,c9 _ _ _,_,rfl,x,CN,dx,_,_,rfl,hx1,RN.cl,RN.nP,c9 _ _ _,po,_,rfl,hpo1,by omega,pb.mono,λp1 H2 s2 hp1 e1=>?_⟩;refine⟨_,rfl,p1,a,_,q,rfl,e1,s2 _ _ (s1 _ _ hA),by omega,by omega,bs.mono,bq.mono,λp4 H3 s3 hp4 e4=>?_⟩;have t3:=s2.trans s3;refine⟨po,p4,_,_,14,rfl,t3 _ _ hpo1,e4,pP.tr,tF,by omega,by omega,by decide,by rw[eP];exact hrun,λl0 ps H4 s4 hl0 hps e5 hR=>?_⟩;have t4:=t3.trans s4;rw[eP]at hR;have hx4:=t4 _ _ hx1;refine⟨_,rfl,x,CN,dx,_,_,rfl,hx4,RN.cl,RN.nL,fK _ _ _,_,rfl,x,CN,dx,_,_,rfl,hx4,RN.cl,RN.nH,dX _ _ _,l0,l,h,ps,_,l1,l2,h1,h2,rfl,e5,hR,(hl.same s1).same t4,(hh.same s1).same t4,en.bl1.mono,en.bl2.mono,en.bh1.mono,en.bh2.mono,λxs hx=>⟨(hrows xs hx).1,(hrows xs hx).2.mono⟩,?_,λH5 s5=>?_⟩
   ·have:=vK 14 (aP u v w d) (aB (am (slopeL (aP u v w d)) q));omega
   ·rw[yO,yO];rw[show vr 0 (sgs l1 l2 (bA 14 (aP u v w d) (aB (am (slopeL (aP u v w d)) q))))-vr 0 (sgs h1 h2 (bA 14 (aP u v w d) (aB (am (slopeL (aP u v w d)) q))))=_ from tar];exact k H5 (s1.trans (t4.trans s5))
theorem NU.mono{j k:Nat}{C CN:Addr}{H:Hp}{x:Addr}{ns:List Int}{l1 l2 h1 h2 ε:Int}{Up:Int->Int->Prop}(n:NU j C CN H x ns l1 l2 h1 h2 ε Up)(h:j<=k:=by decide):NU k C CN H x ns l1 l2 h1 h2 ε Up:=let⟨q,l,hh,a,e,c,d,en,ru⟩:=n;⟨q,l,hh,a,e,c,d,en.mono h,ru⟩
theorem NSg.mono{j k:Nat}{C CN:Addr}{H:Hp}{x:Addr}{ns:List Int}{l1 l2 h1 h2 ε:Int}{s:List Int}(n:NSg j C CN H x ns l1 l2 h1 h2 ε s)(h:j<=k:=by decide):NSg k C CN H x ns l1 l2 h1 h2 ε s:=⟨n.nu.mono h,n.spt,n.sgn⟩
structure CmN(C CN:Addr)(H:Hp)(x:Addr)(u v w d l1 l2 h1 h2 ε:Int):Prop where
 ns:NSg 40 C CN H x (aP u v w d) l1 l2 h1 h2 ε [u,d*v*v,w,ar v]
 one:OneS [[u,d*v*v,w]] [u,d*v*v,w] [u,d*v*v,w,ar v] l1 l2 h1 h2
 ok:WOk u v w d
theorem CmN.same{C CN:Addr}{H H':Hp}{x:Addr}{u v w d l1 l2 h1 h2 ε:Int}(n:CmN C CN H x u v w d l1 l2 h1 h2 ε)(s:Same H H'):CmN C CN H' x u v w d l1 l2 h1 h2 ε:=⟨n.ns.same s,n.one,n.ok⟩
theorem CmN.sd{C CN:Addr}{H:Hp}{x:Addr}{u v w d l1 l2 h1 h2 ε:Int}(n:CmN C CN H x u v w d l1 l2 h1 h2 ε):SdN C CN H x u v w d l1 l2 h1 h2:=by obtain⟨q,l,h,a,e,c,d,en,ru⟩:=n.ns.nu;exact⟨q,l,h,a,e,c,d,en,n.one⟩
def gR(u v w d a b c d' r:Int):Prop:=(r = -1/\LtS [u,d*v*v,w,ar v] [a,d'*b*b,c,ar b])\/(r=1/\LtS [a,d'*b*b,c,ar b] [u,d*v*v,w,ar v])\/(r=0/\u*c=a*w/\d*v*v*c*c=d'*b*b*w*w/\ar v=ar b)
def uP(C CN:Addr):Sp:=λvs H Q _=>∃(x y:Addr) (u v w d a b c d' l1 l2 h1 h2 ε m1 m2 n1 n2 ε':Int),vs=[.ref x,.ref y]/\CmN C CN H x u v w d l1 l2 h1 h2 ε/\CmN C CN H y a b c d' m1 m2 n1 n2 ε'/\∀(r:Int) (H':Hp),Same H H'->gR u v w d a b c d' r->Q (.int r) H'
theorem Dx(F:Fun K "compare" "compare" pQ f fd)(T:Txt K mg)(R:RCI K mg C)(RN:NCI K mg CN)(zm:Cal P w K mg base 4 "against" ["one","ratio"] (uX C CN) J5 I9)(sO:Cal P w K mg base 3 "beside" ["one","sign"] (oC C CN) Gy Ge)(HJ:Cal P w K mg base 36 "side" ["row","one"] (uh C CN) JL IG):FnOk P w K mg base CX0 37 f fd ["first","second"] (uP C CN):=by
 refine F.ok Be (λvs H Q E h=>?_) (λcdv A outer s H vs Q E hr h=>?_)
 ·obtain⟨x,y,u,v,w,d,a,b,c,d',l1,l2,h1,h2,ε,m1,m2,n1,n2,ε',rfl,_⟩:=h;rfl
 ·obtain⟨x,y,u,v,w,d,a,b,c,d',l1,l2,h1,h2,ε,m1,m2,n1,n2,ε',rfl,hX,hY,k⟩:=h;obtain⟨pP,p2,p3,pb⟩:=fk hX.ok;obtain⟨qP,q2,q3,qb⟩:=fk hY.ok;obtain⟨po,l,h,⟨dy,hy⟩,hpo,hl,hh,en,ru⟩:=id hY.ns.nu;have hd:=hX.ok.ns;have hd':=hY.ok.ns;have hw:=hX.ok.w1;have hc:=hY.ok.w1;have eL:aP a b c d'=aJ [a,d'*b*b,c]:=fG (by have:=hY.ok.d2;omega)
  refine⟨_,(af (aM (aE gF (ak zm hr (aa (pv 0) (aa (aH (K:=K) rfl (pv 1) rfl) ad))) ac)
   (ai (ax (ck ci ac)))
   aS)
   (af (aM (aE ca (ak zm hr (aa (pv 0) (aa (aH (K:=K) rfl (pv 1) rfl) ad))) ac)
     (ai (ax ac))
     aS)
   (ai (ax (ck ci (ak sO hr (aa (pv 1) (aa (ak HJ hr (aa (aH (K:=K) rfl (pv 1) rfl) (aa (pv 0) ad))) ad)))))))),?_⟩
  refine aU ⟨_,rfl,_,rfl,y,CN,dy,_,_,rfl,hy,RN.cl,RN.nL,fK _ _ _,x,l,_,l1,l2,h1,h2,ε,m1,m2,_,rfl,hX.ns.mono,by omega,pb.mono,hl,en.l2p,en.bl1.mono,en.bl2.mono,λH1 s1=>(ae ⟨_,rfl,aG (λh0=>?_) (λh0=>?_)⟩)⟩
  ·exact aL ⟨_,rfl,k (-1) H1 s1 (.inl ⟨rfl,m1,m2,en.l2p,h0,hY.one.inn.1⟩)⟩
  have lo:0<ao [u,d*v*v,w,ar v] m1 m2:=Ly.mp h0;have hy1:=s1 _ _ hy;refine aU ⟨_,rfl,_,rfl,y,CN,dy,_,_,rfl,hy1,RN.cl,RN.nH,dX _ _ _,x,h,_,l1,l2,h1,h2,ε,n1,n2,_,rfl,(hX.ns.same s1).mono,by omega,pb.mono,hh.same s1,en.h2p,en.bh1.mono,en.bh2.mono,λH2 s2=>(ae ⟨_,rfl,aG (λh0'=>?_) (λh0'=>?_)⟩)⟩
  ·exact aL (k 1 H2 (s1.trans s2) (.inr (.inl ⟨rfl,n1,n2,en.h2p,hY.one.inn.2,h0'⟩)))
  have hi:ao [u,d*v*v,w,ar v] n1 n2<=0:=Li.mp h0';have t2:=s1.trans s2;have hy2:=t2 _ _ hy;refine aL ⟨_,rfl,_,rfl,y,CN,dy,_,_,rfl,hy2,RN.cl,RN.nP,c9 _ _ _,_,rfl,po,x,_,u,v,w,d,l1,l2,h1,h2,rfl,t2 _ _ hpo,qP.tr,by omega,qb.mono,hX.ok,(hX.same t2).sd,λH3 s3=>?_⟩;have t3:=t2.trans s3;obtain⟨η,hη,hr'⟩:=kN hd' hY.one;have he:η = -ε':=GI hY.ns.spt en.l2p en.h2p en.lt (by rw[<- eL];exact hY.ns.sgn) hr';have lr:=(cY en.l2p en.h2p).mpr en.lt;have lo':0<sdR [u,d*v*v,w,ar v] ((m1:Rat)/(m2:Rat)):=by rw[cn _ en.l2p];exact lo
  have hi':sdR [u,d*v*v,w,ar v] ((n1:Rat)/(n2:Rat))<=0:=by rw[cn _ en.h2p];exact hi
  have ne:=λh0=>wu (q:=aJ [a,d'*b*b,c]) hd hw lr hη lo' hi' hr' h0
  have ze:=λh0=>wt hd hd' hw hc hY.one lo hi h0
  have hcas:=iS (hpA u v w d (aJ [a,d'*b*b,c])).1 (hpA u v w d (aJ [a,d'*b*b,c])).2.1 d;rw[eL];generalize sgq (hpA u v w d (aJ [a,d'*b*b,c])).1 (hpA u v w d (aJ [a,d'*b*b,c])).2.1 d=σ at ne ze hcas ⊢
  have sp2:=hY.ns.spt
  have top:η*σ = -1->ao [a,d'*b*b,c,ar b] n1 n2 = -1:=λz=>by
   obtain⟨t,n,hn,i1,i2⟩:=(ne (λy=>by rw[y]at z;omega)).2 z
   have i3:t*n2<n1*n:=Ly.mp λy=>by have:=mj hX.ns.spt en.h2p hn y i2;omega
   exact d8 sp2 hn en.h2p i3 i1
  have em:∀r:Int,r = -(η*σ)->gR u v w d a b c d' r:=λr hr=>by
   rcases hη with z |z<;>rw[z]at hr ne<;>rcases hcas with y |y |y<;>rw[y]at hr ne
   ·exact .inl ⟨by omega,(ne (by decide)).1 (by decide)⟩
   ·exact .inr (.inr ⟨by omega,ze y⟩)
   ·exact .inr (.inl ⟨by omega,(ne (by decide)).2 (by decide)⟩)
   ·exact .inr (.inl ⟨by omega,(ne (by decide)).2 (by decide)⟩)
   ·exact .inr (.inr ⟨by omega,ze y⟩)
   ·exact .inl ⟨by omega,(ne (by decide)).1 (by decide)⟩
  have t13:η*σ=0\/η*σ=1\/η*σ = -1:=by rcases hη with z |z<;>rw[z]<;>omega
  refine⟨y,_,m1,m2,n1,n2,ε',η*σ,_,?_,(hY.ns.same t3).mono,by omega,qb.mono,?_,λH4 s4=>?_⟩
  ·have:σ = -ε'*(η*σ):=by rw[<- he];rcases hη with z |z<;>rw[z]<;>omega
   rw[<- this];rfl
  ·rcases t13 with z |z |z
   ·exact .inl z
   ·exact .inr (.inl z)
   ·exact .inr (.inr ⟨z,top z⟩)
  ·exact⟨_,rfl,k _ H4 (t3.trans s4) (em _ rfl)⟩
structure Spn(C:Addr)(H:Hp)(l1 l2 h1 h2:Int)(s:List Int)(o y:Addr)(x1 x2 y1 y2:Int):Prop where
 ho:RA C H o x1 x2
 hy:RA C H y y1 y2
 en:EndsG 500 x1 x2 y1 y2
 ux:0<ao s x1 x2
 uy:ao s y1 y2<=0
 lo:l1*x2<=x1*l2
 hi:y1*h2<=h1*y2
theorem Spn.same{C:Addr}{H H':Hp}{l1 l2 h1 h2:Int}{s:List Int}{o y:Addr}{x1 x2 y1 y2:Int}(h:Spn C H l1 l2 h1 h2 s o y x1 x2 y1 y2)(sm:Same H H'):Spn C H' l1 l2 h1 h2 s o y x1 x2 y1 y2:=⟨h.ho.same sm,h.hy.same sm,h.en,h.ux,h.uy,h.lo,h.hi⟩
def Wide(e:Nat)(x1 x2 y1 y2:Int):Prop:=(y1*x2-x1*y2)*2^e<=x2*y2
theorem iL(e:Nat):Bits (e+1) ((2:Int)^e)/\0<(2:Int)^e:=by
 have h:((2:Int)^e)=((2^e:Nat):Int):=by rw[Mb];rfl
 refine⟨?_,by rw[h];have:=Nat.two_pow_pos e;omega⟩;show Int.natAbs _<2^(e+1);rw[h,Lp];exact Nat.pow_lt_pow_right (by decide) (by omega)
theorem lP{C CN:Addr}{H:Hp}{x wd:Addr}{u v w d l1 l2 h1 h2 ε:Int}{e:Nat}{Q:VK}{E:XK}(hX:CmN C CN H x u v w d l1 l2 h1 h2 ε)(hwd:RA C H wd 1 (2^e))(he:e<=256)
 (k:∀(p o y:Addr) (H':Hp) (x1 x2 y1 y2:Int),Same H H'->H' p=some (.tup [.ref o,.ref y])->Spn C H' l1 l2 h1 h2 [u,d*v*v,w,ar v] o y x1 x2 y1 y2->Wide e x1 x2 y1 y2->Q (.ref p) H'):gX C CN [.ref x,.ref wd] H Q E:=by
 obtain⟨pP,p2,p3,pb⟩:=fk hX.ok;refine⟨x,wd,_,l1,l2,h1,h2,ε,_,1,2^e,40,e+1,⟨rfl,hX.ns.nu,pP.tr,pP.ne,by omega,pb.mono,hwd,by decide,(iL e).2,b1k (by omega),(iL e).1,by decide,by omega,by omega⟩,λp o y H' n pl x1 x2 y1 y2 s hp et ho hy nar=>?_⟩;refine k p o y H' x1 x2 y1 y2 s et ⟨ho,hy,nar.ends.mono (by omega),nar.ux,Li.mp nar.uy,nar.lo,nar.hi⟩ ?_;have:=nar.wide;rw[K4]at this;exact this
theorem n9{e:Nat}{x1 x2 y1 y2:Int}(h:Wide e x1 x2 y1 y2)(x2p:0<x2)(y2p:0<y2):(y1:Rat)/(y2:Rat)-(x1:Rat)/(x2:Rat)<=1/2^e:=by
 have hx:(0:Rat)<(x2:Rat):=Ld.mpr x2p;have hy:(0:Rat)<(y2:Rat):=Ld.mpr y2p;have hD:(0:Rat)<2^e:=Rat.pow_pos (by decide);have h':(((y1*x2-x1*y2)*2^e:Int):Rat)<=((x2*y2:Int):Rat):=Rat.intCast_le_intCast.mpr h;have e2:((2^e:Int):Rat)=2^e:=Rat.intCast_pow 2 e;simp only[K3,MK,e2]at h';have xy:=K7 hx hy;have q1:(y1:Rat)/(y2:Rat)*y2=y1:=La (by grind);have q2:(x1:Rat)/(x2:Rat)*x2=x1:=La (by grind);have q3:(1:Rat)/2^e*2^e=1:=La (by grind);generalize (y1:Rat)/(y2:Rat)=a at *
 generalize (x1:Rat)/(x2:Rat)=b at *
 generalize (1:Rat)/2^e=c at *
 generalize (2:Rat)^e=D at *
 refine Lf.mp λz=>?_
 have k1:=LD z (K7 xy hD);have k2:(a-b)*((x2:Rat)*y2*D)=((a*y2)*x2-(b*x2)*y2)*D:=by grind
 have k3:c*((x2:Rat)*y2*D)=(c*D)*(x2*y2):=by grind
 rw[k2,k3,q1,q2,q3,Rat.one_mul]at k1;exact absurd h' (LF.mpr k1)
def uo(C CN:Addr):Sp:=λvs H Q _=>∃(x y:Addr) (u v w d a b c d' l1 l2 h1 h2 ε m1 m2 n1 n2 ε':Int),vs=[.ref x,.ref y]/\CmN C CN H x u v w d l1 l2 h1 h2 ε/\CmN C CN H y a b c d' m1 m2 n1 n2 ε'/\LtS [u,d*v*v,w,ar v] [a,d'*b*b,c,ar b] /\
 ∀(p o z o' z':Addr) (H':Hp) (x1 x2 y1 y2 p1 p2 q1 q2:Int),Same H H'->H' p=some (.tup [.ref o,.ref z,.ref o',.ref z'])->Spn C H' l1 l2 h1 h2 [u,d*v*v,w,ar v] o z x1 x2 y1 y2->Spn C H' m1 m2 n1 n2 [a,d'*b*b,c,ar b] o' z' p1 p2 q1 q2->y1*p2<=p1*y2->Q (.ref p) H'
theorem De(F:Fun K "set_apart" "set_apart" px f fd)(T:Txt K mg)(R:RCI K mg C)(RN:NCI K mg CN)(d7:KCal P w K mg base 2 C "Ratio" ["self","top","bottom"] (fC C) jB jA jC [.int 1])(nW:Cal P w K mg base 7 "span_of" ["one","width"] (gX C CN) JJ IE)(fz:MCal P w K mg base 2 C "against" ["self","other"] (g6 C) kX kT)(sR:MCal P w K mg base 4 C "times" ["self","other"] (ot C) GH Gn):FnOk P w K mg base CX0 8 f fd ["less","greater"] (uo C CN):=by
 obtain⟨dg,de,c7,dd,jO,jE⟩:=d7;obtain⟨df,cZ,db⟩:=fz;obtain⟨sH,rC,sC⟩:=sR;refine F.ok g8 (λvs H Q E h=>?_) (λcdv A outer s H vs Q E hr h=>?_)
 ·obtain⟨x,y,u,v,w,d,a,b,c,d',l1,l2,h1,h2,ε,m1,m2,n1,n2,ε',rfl,_⟩:=h;rfl
 ·obtain⟨x,y,u,v,w,d,a,b,c,d',l1,l2,h1,h2,ε,m1,m2,n1,n2,ε',rfl,hX,hY,lt,k⟩:=h
  refine⟨_,(af (aj 2 g8 (fE de dg (hr.mono) rfl c7 dd .nil b9 (aa ac (aa ac ad))))
   (af (aj 3 g8 (ak nW hr (aa (pv 0) (aa (pv 2) ad))))
   (af (aj 4 g8 (ak nW hr (aa (pv 1) (aa (pv 2) ad))))
   (af (ff PassesOwn.never (aE ca (dA (aq K (pv 3) ac) R.cl cZ df (hr.mono) db .nil b9 (aa (aq K (pv 4) ac) ad)) ac)
     (af (aj 2 g8 (dA (pv 2) R.cl rC sH (hr.mono) sC .nil b9 (aa (pv 2) ad)))
       (af (aj 3 g8 (ak nW hr (aa (pv 0) (aa (pv 2) ad))))
       (ai (aj 4 g8 (ak nW hr (aa (pv 1) (aa (pv 2) ad))))))))
   (ai (ax (bJ (aa (aq K (pv 3) ac) (aa (aq K (pv 3) ac) (aa (aq K (pv 4) ac) (aa (aq K (pv 4) ac) ad))))))))))),?_⟩
  refine aA (gf (t:=1) (b:=4) (by decide) (Bits.mono (j:=3) (by show(4:Int).natAbs<2^3;decide) (by decide)) λr H1 s1 hr1 hR1=>?_);rw[vH (by decide),vQ (by decide)]at hR1;refine aA ⟨_,rfl,_,rfl,cJ ?_⟩;change gX C CN [V.ref x,V.ref r] H1 _ _;refine lP (e:=2) (hX.same s1) hR1 (by decide) λpo o z H2 x1 x2 y1 y2 s2 et sp1 w1=>?_
  refine aA ⟨_,rfl,_,rfl,cJ ?_⟩;change gX C CN [V.ref y,V.ref r] H2 _ _;refine lP (e:=2) ((hY.same s1).same s2) (hR1.same s2) (by decide) λpt o' z' H3 p1 p2 q1 q2 s3 et' sp2 w2=>?_
  refine⟨λm σ' H'=>∃(j:Nat) (r po o z pt o' z':Addr) (x1 x2 y1 y2 p1 p2 q1 q2:Int),m+j=8/\1<=j/\σ'=[some (.ref x),some (.ref y),some (.ref r),some (.ref po),some (.ref pt)]/\Same H H'/\RA C H' r 1 (2^2^j)/\H' po=some (.tup [.ref o,.ref z])/\H' pt=some (.tup [.ref o',.ref z'])/\Spn C H' l1 l2 h1 h2 [u,d*v*v,w,ar v] o z x1 x2 y1 y2/\Spn C H' m1 m2 n1 n2 [a,d'*b*b,c,ar b] o' z' p1 p2 q1 q2/\Wide (2^j) x1 x2 y1 y2/\Wide (2^j) p1 p2 q1 q2,
   ⟨7,1,r,po,o,z,pt,o',z',x1,x2,y1,y2,p1,p2,q1,q2,rfl,by decide,rfl,(s1.trans s2).trans s3,(hR1.same s2).same s3,s3 _ _ et,et',sp1.same s3,sp2,w1,w2⟩,?_⟩
  clear w1 w2 sp1 sp2 et et' s2 s3 hR1 s1;rintro m σ' H4 ⟨j,r,po,o,z,pt,o',z',x1,x2,y1,y2,p1,p2,q1,q2,hm,j1,rfl,s4,hR,et,et',sp1,sp2,w1,w2⟩;obtain⟨dz,hz⟩:=id sp1.hy
  have g:0<sg (y1*p2-p1*y2)↔p1*y2<y1*p2:=by
   have:=(eh (y1*p2-p1*y2)).2.2;constructor
   ·intro h;exact Ly.mp λq=>by have:=this.mpr (by omega);omega
   ·intro h;exact Ly.mp λq=>by have:=this.mp q;omega
  refine(au (SqT.of et) rfl rfl ⟨z,dz,_,rfl,hz,dF _ _ cH.1 cH.2,(au (SqT.of et') rfl rfl ⟨z,o',y1,y2,p1,p2,rfl,sp1.hy,sp2.ho,sp1.en.bh1.mono,sp1.en.bh2.mono,sp2.en.bl1.mono,sp2.en.bl2.mono,(ae ⟨_,rfl,aG (λhgo=>?_) (λhend=>?_)⟩)⟩)⟩)
  ·have hgo':=g.mp hgo
   have hj:j<8:=by
    refine Classical.byContradiction λhj=>?_
    have j8:j=8:=by omega
    rw[j8]at w1 w2;have:=yl (δ:=1/2^2^8) (kU hX.ok) (kU hY.ok) hX.ok.ns hY.ok.ns hX.ok.w1 hY.ok.w1 lt (by rw[cn _ sp1.en.l2p];exact sp1.ux) (by rw[cn _ sp1.en.h2p];exact sp1.uy) (by rw[cn _ sp2.en.l2p];exact sp2.ux) (by rw[cn _ sp2.en.h2p];exact sp2.uy) ((cY sp1.en.l2p sp1.en.h2p).mpr sp1.en.lt) ((cY sp2.en.l2p sp2.en.h2p).mpr sp2.en.lt) (n9 w1 sp1.en.l2p sp1.en.h2p) (n9 w2 sp2.en.l2p sp2.en.h2p) (by decide +kernel);have h2:=(cY sp2.en.l2p sp1.en.h2p).mpr hgo';exact absurd this (LF.mpr h2)
   have e8:2^(j+1)=2^j+2^j:=by rw[Nat.pow_succ];omega
   have e7:2^j<=2^7:=Mf (by decide) (by omega);have e9:(2:Int)^2^j*2^2^j=2^2^(j+1):=by rw[e8,Int.pow_add]
   obtain⟨dr,hr'⟩:=id hR;have pos:=(iL (2^j)).2;have bt:=(iL (2^j)).1;refine⟨_,λ_ _ h=>h,?_⟩;refine aA ⟨_,rfl,r,dr,_,rfl,hr',dF _ _ mS.1 mS.2,_,rfl,r,r,1,2^2^j,1,2^2^j,2^j+1,2^j+1,rfl,hR,hR,b1k (by decide),bt,b1k (by decide),bt,by omega,pos,pos,λr2 H5 s5 hr5 hR5=>?_⟩;rw[e9,K4,vH (iL _).2,vQ (iL _).2]at hR5;have t5:=s4.trans s5;refine aA ⟨_,rfl,_,rfl,cJ ?_⟩;change gX C CN [V.ref x,V.ref r2] H5 _ _;refine lP (e:=2^(j+1)) (hX.same t5) hR5 (by omega) λpo2 o2 z2 H6 x1' x2' y1' y2' s6 et6 sp6 w6=>?_
   have t6:=t5.trans s6;refine bG ⟨_,rfl,_,rfl,cJ ?_⟩;change gX C CN [V.ref y,V.ref r2] H6 _ _;refine lP (e:=2^(j+1)) (hY.same t6) (hR5.same s6) (by omega) λpt2 o2' z2' H7 p1' p2' q1' q2' s7 et7 sp7 w7=>?_
   exact⟨m-1,by omega,j+1,r2,po2,o2,z2,pt2,o2',z2',x1',x2',y1',y2',p1',p2',q1',q2',by omega,by omega,rfl,t6.trans s7,(hR5.same s6).same s7,s7 _ _ et6,et7,sp6.same s7,sp7,w6,w7⟩
  ·have hle:y1*p2<=p1*y2:=Li.mp λq=>hend (g.mpr q)
   refine(au (SqT.of et) rfl rfl (au (SqT.of et) rfl rfl (au (SqT.of et') rfl rfl (au (SqT.of et') rfl rfl ⟨by show 4<=sizeLine;decide,λp hp=>?_⟩))));have s5:=Same.upd_new (o:=.tup [V.ref o,V.ref z,V.ref o',V.ref z']) hp;exact k p o z o' z' _ x1 x2 y1 y2 p1 p2 q1 q2 (s4.trans s5) ay (sp1.same s5) (sp2.same s5) hle
theorem vN{D:di}{σ:St}{H:Hp}{u:TS}{te:TE}{i:Nat}(Pv:V->Hp->Prop)(h1:∀x H',Pv x H'->u D (σ.set i (some x)) H')(h2:(∀x H',Pv x H'->u D (σ.set i (some x)) H')->te σ H λx H1=>u D (σ.set i (some x)) H1):b8 (fB te (dW i)) u D σ H:=h2 h1
theorem vg{u e w a f c:Int}(hw:1<=w)(hc:1<=c)(h1:u*c=a*w)(h2:e*c*c=f*w*w):aJ [u,e,w]=aJ [a,f,c]:=by
 show aO (aI u e w)=aO (aI a f c)
 have hz:e=0↔f=0:=by
  have cc:c*c≠0:=KM (by omega) (by omega);have ww:w*w≠0:=KM (by omega) (by omega);rw[KQ,KQ]at h2;constructor
  ·intro z;rw[z,Lc]at h2;exact(K9.mp h2.symm).resolve_right ww
  ·intro z;rw[z,Lc]at h2;exact(K9.mp h2).resolve_right cc
 have t1:=(dJ (u:=u) (e:=e) hw).1;have t2:=(dJ (u:=a) (e:=f) hc).1;by_cases z:e=0
 ·have z':=hz.mp z
  have:scL c (aI u e w)=scL w (aI a f c):=by unfold aI;rw[if_pos z,if_pos z'];show[c * -u,c*w]=[w * -a,w*c];rw[show c * -u=w * -a by grind,K8 c w]
  rw[<- jm (c:=c) (by omega) t1,this,jm (by omega) t2]
 ·have z':¬f=0:=λy=>z (hz.mpr y)
  have:scL (c*c) (aI u e w)=scL (w*w) (aI a f c):=by
   unfold aI;rw[if_neg z,if_neg z'];show[c*c*(u*u-e),c*c*(-2*w*u),c*c*(w*w)]=[w*w*(a*a-f),w*w*(-2*c*a),w*w*(c*c)];have i1:c*c*(u*u-e)=(u*c)*(u*c)-e*c*c:=by grind
   have i2:c*c*(-2*w*u) = -2*w*c*(u*c):=by grind
   rw[i1,i2,h1,h2]
   congr 1
   ·grind
   ·congr 1
    ·grind
    ·congr 1;grind
  rw[<- jm (c:=c*c) (KM (by omega) (by omega)) t1,this,jm (KM (by omega) (by omega)) t2]
def uV(C CN:Addr):Sp:=λvs H Q _=>∃(x y:Addr) (u v w d a b c d' l1 l2 h1 h2 ε m1 m2 n1 n2 ε':Int),vs=[.ref x,.ref y]/\CmN C CN H x u v w d l1 l2 h1 h2 ε/\CmN C CN H y a b c d' m1 m2 n1 n2 ε'/\u*c=a*w/\d*v*v*c*c=d'*b*b*w*w/\ar v=ar b /\
 ∀(p g o z:Addr) (H':Hp) (x1 x2 y1 y2:Int),Same H H'->H' p=some (.tup [.str "alike",.ref g,.ref o,.ref z])->H' g=some (.lst ((aP u v w d).map V.int))->Spn C H' l1 l2 h1 h2 [u,d*v*v,w,ar v] o z x1 x2 y1 y2->Spn C H' m1 m2 n1 n2 [a,d'*b*b,c,ar b] o z x1 x2 y1 y2->Q (.ref p) H'
theorem DF(F:Fun K "alike_paper" "alike_paper" pX f fd)(T:Txt K mg)(R:RCI K mg C)(RN:NCI K mg CN)(fz:MCal P w K mg base 2 C "against" ["self","other"] (g6 C) kX kT)(HW:Cal P w K mg base 35 "common" ["first","second"] uN J1 IX):FnOk P w K mg base CX0 36 f fd ["first","second"] (uV C CN):=by
 obtain⟨df,cZ,db⟩:=fz;refine F.ok oO (λvs H Q E h=>?_) (λcdv A outer s H vs Q E hr h=>?_)
 ·obtain⟨x,y,u,v,w,d,a,b,c,d',l1,l2,h1,h2,ε,m1,m2,n1,n2,ε',rfl,_⟩:=h;rfl
 ·obtain⟨x,y,u,v,w,d,a,b,c,d',l1,l2,h1,h2,ε,m1,m2,n1,n2,ε',rfl,hX,hY,e1,e2,e3,k⟩:=h;obtain⟨pP,p2,p3,pb⟩:=fk hX.ok;obtain⟨q,l,h,⟨dx,hx⟩,hq,hl,hh,en,_⟩:=id hX.ns.nu;obtain⟨q',m,n,⟨dy,hy⟩,hq',hm,hn,en',_⟩:=id hY.ns.nu;obtain⟨dl,hl'⟩:=id hl;obtain⟨dh,hh'⟩:=id hh;have eL:aP u v w d=aJ [u,d*v*v,w]:=fG (by have:=hX.ok.d2;omega);have eL':aP a b c d'=aJ [a,d'*b*b,c]:=fG (by have:=hY.ok.d2;omega);have eq:aP a b c d'=aP u v w d:=by rw[eL,eL',vg (by have:=hX.ok.w1;omega) (by have:=hY.ok.w1;omega) e1 e2]
  rw[eq]at hq';have like:∀t n,ao [u,d*v*v,w,ar v] t n=ao [a,d'*b*b,c,ar b] t n:=λt n=>by rw[e3];exact ke hX.ok.w1 hY.ok.w1 e1 e2
  have gt:∀z:Int,0<sg z↔0<z:=λz=>by have:=(eh z).2.2;omega
  have lt0:∀z:Int,sg z<0↔z<0:=λz=>(eh z).1
  refine⟨_,(af (aj 2 oO (qZ (aE ca (dA (aH (K:=K) rfl (pv 0) rfl) R.cl cZ df (hr.mono) db .nil b9 (aa (aH (K:=K) rfl (pv 1) rfl) ad)) ac) (aH (K:=K) rfl (pv 0) rfl) (aH (K:=K) rfl (pv 1) rfl)))
   (af (aj 3 oO (qZ (aE cr (dA (aH (K:=K) rfl (pv 0) rfl) R.cl cZ df (hr.mono) db .nil b9 (aa (aH (K:=K) rfl (pv 1) rfl) ad)) ac) (aH (K:=K) rfl (pv 0) rfl) (aH (K:=K) rfl (pv 1) rfl)))
   (ai (ax (bJ (aa cO (aa (ak HW hr (aa (aH (K:=K) rfl (pv 0) rfl) (aa (aH (K:=K) rfl (pv 1) rfl) ad))) (aa (pv 2) (aa (pv 3) ad))))))))),?_⟩
  refine vN (λr H'=>∃(o:Addr) (x1 x2:Int),r=.ref o/\H=H'/\RA C H o x1 x2/\l1*x2<=x1*l2/\m1*x2<=x1*m2/\0<x2/\Bits 40 x1/\Bits 40 x2/\Nat.gcd x1.natAbs x2.natAbs=1/\0<ao [u,d*v*v,w,ar v] x1 x2) ?_ (λrest=>qV ⟨_,rfl,x,CN,dx,_,_,rfl,hx,RN.cl,RN.nL,fK _ _ _,l,dl,_,rfl,hl',dF _ _ cH.1 cH.2,_,rfl,y,CN,dy,_,_,rfl,hy,RN.cl,RN.nL,fK _ _ _,l,m,l1,l2,m1,m2,rfl,hl,hm,en.bl1.mono,en.bl2.mono,en'.bl1.mono,en'.bl2.mono,(ae ⟨_,rfl,aG (λc1=>?_) (λc1=>?_)⟩)⟩)
  rotate_left
  ·have c1':=(gt _).mp c1;exact⟨_,rfl,x,CN,dx,_,_,rfl,hx,RN.cl,RN.nL,fK _ _ _,rest _ _ ⟨l,l1,l2,rfl,rfl,hl,K6 _,by omega,en.l2p,en.bl1,en.bl2,en.gl,hX.one.inn.1⟩⟩
  ·have c1':¬0<l1*m2-m1*l2:=λz=>c1 ((gt _).mpr z)
   exact⟨_,rfl,y,CN,dy,_,_,rfl,hy,RN.cl,RN.nL,fK _ _ _,rest _ _ ⟨m,m1,m2,rfl,rfl,hm,by omega,K6 _,en'.l2p,en'.bl1,en'.bl2,en'.gl,by rw[like];exact hY.one.inn.1⟩⟩
  rintro r H1 ⟨o,x1,x2,rfl,rfl,ho,lo1,lo2,x2p,bx1,bx2,gx,ux⟩;refine vN (λr H'=>∃(z:Addr) (y1 y2:Int),r=.ref z/\H=H'/\RA C H z y1 y2/\y1*h2<=h1*y2/\y1*n2<=n1*y2/\0<y2/\Bits 40 y1/\Bits 40 y2/\Nat.gcd y1.natAbs y2.natAbs=1/\ao [u,d*v*v,w,ar v] y1 y2<=0) ?_ (λrest=>qV ⟨_,rfl,x,CN,dx,_,_,rfl,hx,RN.cl,RN.nH,dX _ _ _,h,dh,_,rfl,hh',dF _ _ cH.1 cH.2,_,rfl,y,CN,dy,_,_,rfl,hy,RN.cl,RN.nH,dX _ _ _,h,n,h1,h2,n1,n2,rfl,hh,hn,en.bh1.mono,en.bh2.mono,en'.bh1.mono,en'.bh2.mono,(ae ⟨_,rfl,aG (λc1=>?_) (λc1=>?_)⟩)⟩)
  rotate_left
  ·have c1':=(lt0 _).mp c1;exact⟨_,rfl,x,CN,dx,_,_,rfl,hx,RN.cl,RN.nH,dX _ _ _,rest _ _ ⟨h,h1,h2,rfl,rfl,hh,K6 _,by omega,en.h2p,en.bh1,en.bh2,en.gh,hX.one.inn.2⟩⟩
  ·have c1':¬h1*n2-n1*h2<0:=λz=>c1 ((lt0 _).mpr z)
   exact⟨_,rfl,y,CN,dy,_,_,rfl,hy,RN.cl,RN.nH,dX _ _ _,rest _ _ ⟨n,n1,n2,rfl,rfl,hn,by omega,K6 _,en'.h2p,en'.bh1,en'.bh2,en'.gh,by rw[like];exact hY.one.inn.2⟩⟩
  rintro r H1 ⟨z,y1,y2,rfl,rfl,hz,hi1,hi2,y2p,by1,by2,gy,uy⟩
  have ltxy:x1*y2<y1*x2:=Ly.mp λj=>by have:=mj hX.ns.spt y2p x2p j ux;omega
  have enS:EndsG 500 x1 x2 y1 y2:=⟨x2p,y2p,bx1.mono,bx2.mono,by1.mono,by2.mono,ltxy,gx,gy⟩;have pl:aO (aP u v w d)=aP u v w d:=pP.plain;have dr:aQ (aP u v w d) (aP u v w d)=[]:=Dv.rest pP.ne pP.tr (Dv.refl _)
  have run:lj 2 (aO (aP u v w d)) (aO (aP u v w d)):=by
   rw[pl];refine .inr ⟨⟨pP.tr,pP.tr,48,pb,pb,?_,by omega⟩,?_⟩
   ·have:=Lx (48+1) (show(aP u v w d).length+2<=5 by omega);omega
   ·rw[dr];exact .inl rfl
  have cm:eY 2 (aO (aP u v w d)) (aO (aP u v w d))=aP u v w d:=by rw[pl,GY pP.ne,dr];rfl
  refine aL ⟨_,rfl,x,CN,dx,_,_,rfl,hx,RN.cl,RN.nP,c9 _ _ _,_,rfl,y,CN,dy,_,_,rfl,hy,RN.cl,RN.nP,c9 _ _ _,q,q',_,_,2,rfl,hq,hq',pP.tr,pP.tr,by omega,by omega,run,λg H2 s2 hg eg=>?_⟩;rw[cm]at eg;refine⟨_,rfl,_,rfl,by show 4<=sizeLine;decide,λp hp=>?_⟩;have s3:=Same.upd_new (o:=.tup [V.str "alike",V.ref g,V.ref o,V.ref z]) hp;have t3:=s2.trans s3;exact k p g o z _ x1 x2 y1 y2 t3 ay (s3 _ _ eg) ⟨ho.same t3,hz.same t3,enS,ux,uy,lo1,hi1⟩ ⟨ho.same t3,hz.same t3,enS,by rw[<- like];exact ux,by rw[<- like];exact uy,lo2,hi2⟩
noncomputable def OPap(C:Addr)(H:Hp)(p:Addr)(ns s s':List Int)(l1 l2 h1 h2 m1 m2 n1 n2 r:Int):Prop :=
 (r=0/\∃(g o z:Addr) (x1 x2 y1 y2:Int),H p=some (.tup [.str "alike",.ref g,.ref o,.ref z])/\H g=some (.lst (ns.map V.int))/\Spn C H l1 l2 h1 h2 s o z x1 x2 y1 y2/\Spn C H m1 m2 n1 n2 s' o z x1 x2 y1 y2) \/
 (r = -1/\∃(o z o' z':Addr) (x1 x2 y1 y2 p1 p2 q1 q2:Int),H p=some (.tup [.str "under",.ref o,.ref z,.ref o',.ref z'])/\Spn C H l1 l2 h1 h2 s o z x1 x2 y1 y2/\Spn C H m1 m2 n1 n2 s' o' z' p1 p2 q1 q2/\y1*p2<=p1*y2) \/
 (r=1/\∃(o z o' z':Addr) (x1 x2 y1 y2 p1 p2 q1 q2:Int),H p=some (.tup [.str "over",.ref o,.ref z,.ref o',.ref z'])/\Spn C H l1 l2 h1 h2 s o z x1 x2 y1 y2/\Spn C H m1 m2 n1 n2 s' o' z' p1 p2 q1 q2/\q1*x2<=x1*q2)
def uA(C CN:Addr):Sp:=λvs H Q _=>∃(x y:Addr) (u v w d a b c d' l1 l2 h1 h2 ε m1 m2 n1 n2 ε':Int),vs=[.ref x,.ref y]/\CmN C CN H x u v w d l1 l2 h1 h2 ε/\CmN C CN H y a b c d' m1 m2 n1 n2 ε'/\∀(r:Int) (p:Addr) (H':Hp),Same H H'->gR u v w d a b c d' r->OPap C H' p (aP u v w d) [u,d*v*v,w,ar v] [a,d'*b*b,c,ar b] l1 l2 h1 h2 m1 m2 n1 n2 r->Q (.ref p) H'
theorem Dj(F:Fun K "order_paper" "order_paper" pD f fd)(T:Txt K mg)(R:RCI K mg C)(RN:NCI K mg CN)(HV:Cal P w K mg base 37 "compare" ["first","second"] (uP C CN) J0 IW)(HX:Cal P w K mg base 36 "alike_paper" ["first","second"] (uV C CN) J4 I0)(zh:Cal P w K mg base 8 "set_apart" ["less","greater"] (uo C CN) JO IJ):FnOk P w K mg base CX0 38 f fd ["first","second"] (uA C CN):=by
 refine F.ok my (λvs H Q E h=>?_) (λcdv A outer s H vs Q E hr h=>?_)
 ·obtain⟨x,y,u,v,w,d,a,b,c,d',l1,l2,h1,h2,ε,m1,m2,n1,n2,ε',rfl,_⟩:=h;rfl
 ·obtain⟨x,y,u,v,w,d,a,b,c,d',l1,l2,h1,h2,ε,m1,m2,n1,n2,ε',rfl,hX,hY,k⟩:=h
  refine⟨_,(af (aj 2 my (ak HV hr (aa (pv 0) (aa (pv 1) ad))))
   (af (aM (aE bN (pv 2) ac)
     (ai (ax (ak HX hr (aa (pv 0) (aa (pv 1) ad)))))
     aS)
   (af (aM (aE cr (pv 2) ac)
     (af (aj 3 my (ak zh hr (aa (pv 0) (aa (pv 1) ad))))
       (ai (ax (bJ (aa cO (aa (aq K (pv 3) ac) (aa (aq K (pv 3) ac) (aa (aq K (pv 3) ac) (aa (aq K (pv 3) ac) ad)))))))))
     aS)
   (af (aj 3 my (ak zh hr (aa (pv 1) (aa (pv 0) ad))))
   (ai (ax (bJ (aa cO (aa (aq K (pv 3) ac) (aa (aq K (pv 3) ac) (aa (aq K (pv 3) ac) (aa (aq K (pv 3) ac) ad)))))))))))),?_⟩
  refine aA ⟨_,rfl,_,rfl,x,y,u,v,w,d,a,b,c,d',l1,l2,h1,h2,ε,m1,m2,n1,n2,ε',rfl,hX,hY,λr H1 s1 hO=>?_⟩;have hX1:=hX.same s1;have hY1:=hY.same s1;refine aU ⟨_,rfl,(ae ⟨_,rfl,aG (λz=>?_) (λz0=>?_)⟩)⟩
  ·have z':r=0:=z
   obtain⟨e1,e2,e3⟩:u*c=a*w/\d*v*v*c*c=d'*b*b*w*w/\ar v=ar b:=by
    rcases hO with⟨q,_⟩ |⟨q,_⟩ |⟨_,q⟩
    ·omega
    ·omega
    ·exact q
   exact aL ⟨_,rfl,_,rfl,x,y,u,v,w,d,a,b,c,d',l1,l2,h1,h2,ε,m1,m2,n1,n2,ε',rfl,hX1,hY1,e1,e2,e3,λp g o z H2 x1 x2 y1 y2 s2 ep eg sp1 sp2=>k r p H2 (s1.trans s2) hO (.inl ⟨z',g,o,z,x1,x2,y1,y2,ep,eg,sp1,sp2⟩)⟩
  have z0':¬r=0:=z0;refine aU ⟨_,rfl,(ae ⟨_,rfl,aG (λz=>?_) (λz1=>?_)⟩)⟩
  ·have z':r<0:=z
   obtain⟨er,lt⟩:r = -1/\LtS [u,d*v*v,w,ar v] [a,d'*b*b,c,ar b]:=by
    rcases hO with q |⟨q,_⟩ |⟨q,_⟩
    ·exact q
    ·omega
    ·omega
   refine aA ⟨_,rfl,_,rfl,x,y,u,v,w,d,a,b,c,d',l1,l2,h1,h2,ε,m1,m2,n1,n2,ε',rfl,hX1,hY1,lt,λp o z o' z' H2 x1 x2 y1 y2 p1 p2 q1 q2 s2 ep sp1 sp2 le=>?_⟩;refine aL (au (SqT.of ep) rfl rfl (au (SqT.of ep) rfl rfl (au (SqT.of ep) rfl rfl (au (SqT.of ep) rfl rfl ⟨by show 5<=sizeLine;decide,λpn hpn=>?_⟩))));have s3:=Same.upd_new (o:=.tup [V.str "under",V.ref o,V.ref z,V.ref o',V.ref z']) hpn;exact k r pn _ ((s1.trans s2).trans s3) hO (.inr (.inl ⟨er,o,z,o',z',x1,x2,y1,y2,p1,p2,q1,q2,ay,sp1.same s3,sp2.same s3,le⟩))
  have z1':¬r<0:=z1
  obtain⟨er,lt⟩:r=1/\LtS [a,d'*b*b,c,ar b] [u,d*v*v,w,ar v]:=by
   rcases hO with⟨q,_⟩ |q |⟨q,_⟩
   ·omega
   ·exact q
   ·omega
  refine aA ⟨_,rfl,_,rfl,y,x,a,b,c,d',u,v,w,d,m1,m2,n1,n2,ε',l1,l2,h1,h2,ε,rfl,hY1,hX1,lt,λp o z o' z' H2 x1 x2 y1 y2 p1 p2 q1 q2 s2 ep sp1 sp2 le=>?_⟩;refine aL (au (SqT.of ep) rfl rfl (au (SqT.of ep) rfl rfl (au (SqT.of ep) rfl rfl (au (SqT.of ep) rfl rfl ⟨by show 5<=sizeLine;decide,λpn hpn=>?_⟩))));have s3:=Same.upd_new (o:=.tup [V.str "over",V.ref o',V.ref z',V.ref o,V.ref z]) hpn;exact k r pn _ ((s1.trans s2).trans s3) hO (.inr (.inr ⟨er,o',z',o,z,p1,p2,q1,q2,x1,x2,y1,y2,ay,sp2.same s3,sp1.same s3,le⟩))
theorem Ee(F:Fun K "_law_cell_at" "_law_cell_at" qK f fd)(T:Txt K mg):FnOk P w K mg base CX0 1 f fd ["_law_script","_law_k"] (iR K):=by
 refine F.ok Bu (λvs H Q E h=>?_) (λcdv A outer s H vs Q E hr h=>?_)
 ·obtain⟨a,ns,k,rfl,_⟩:=h;rfl
 ·obtain⟨a,ns,n,rfl,hS,k⟩:=h
  refine⟨_,(af (aM (aE cr (pv 1) (bM K T.len_ (aa (pv 0) ad)))
   (ai (ax (aN K (pv 0) (pv 1))))
   aS)
   (ai (ax ac))),?_⟩
  refine⟨_,rfl,_,rfl,a,_,rfl,.inl hS,_,_,rfl,rfl,_,rfl,?_⟩;refine aG (λh1=>?_) (λh1=>?_)
  ·rw[KF]at h1;have h2:n<ns.length:=by omega
   refine⟨_,rfl,_,rfl,a,_,_,_,rfl,rfl,hS,gO (v:=.int (ns.getD n 0)) ?_,k⟩;rw[List.getElem?_map,List.getElem?_eq_getElem h2];simp[List.getD,h2]
  ·rw[KF]at h1;have h2:ns.length<=n:=by omega
   have e:ns.getD n 0=0:=by simp[List.getD,List.getElem?_eq_none_iff.mpr h2]
   rw[e]at k;exact k
def TuH(H:Hp)(ps:List Addr)(xss:List (List Int)):Prop:=ps.length=xss.length/\∀(i:Nat) (p:Addr) (xs:List Int),ps[i]?=some p->xss[i]?=some xs->H p=some (.tup (xs.map V.int))
theorem TuH.nil{H:Hp}:TuH H [] []:=⟨rfl,λi p xs h=>by simp at h⟩
theorem TuH.same{H H':Hp}{ps:List Addr}{xss:List (List Int)}(h:TuH H ps xss)(s:Same H H'):TuH H' ps xss:=⟨h.1,λi p xs a b=>s _ _ (h.2 i p xs a b)⟩
theorem TuH.snoc{H:Hp}{ps:List Addr}{xss:List (List Int)}{p:Addr}{xs:List Int}(h:TuH H ps xss)(hp:H p=some (.tup (xs.map V.int))):TuH H (ps++[p]) (xss++[xs]):=by
 refine⟨by rw[Lb,Lb,h.1];rfl,λi q ys a b=>?_⟩;by_cases hi:i<ps.length
 ·rw[List.getElem?_append_left hi]at a;rw[List.getElem?_append_left (by rw[<- h.1];exact hi)]at b;exact h.2 i q ys a b
 ·rw[List.getElem?_append_right (by omega)]at a;rw[List.getElem?_append_right (by rw[<- h.1];omega),<- h.1]at b;by_cases h0:i-ps.length=0
  ·rw[h0]at a b;obtain rfl:p=q:=by simpa using a
   obtain rfl:xs=ys:=by simpa using b
   exact hp
  ·rw[List.getElem?_eq_none_iff.mpr (by simp;omega)]at a;cases a
theorem TuH.of_get{H:Hp}{ps:List Addr}{xss:List (List Int)}{i:Nat}{x:V}(h:TuH H ps xss)(hx:(ps.map V.ref)[i]?=some x):∃p xs,x=.ref p/\ps[i]?=some p/\xss[i]?=some xs/\H p=some (.tup (xs.map V.int))/\i<xss.length:=by
 rw[List.getElem?_map]at hx;cases e:ps[i]? with
 |none=>rw[e]at hx;cases hx
 |some p =>
  rw[e]at hx;have hi:i<ps.length:=(List.getElem?_eq_some_iff.mp e).1;have hi':i<xss.length:=by rw[<- h.1];exact hi
  exact⟨p,xss[i],(Option.some.inj hx).symm,rfl,List.getElem?_eq_getElem hi',h.2 i p _ e (List.getElem?_eq_getElem hi'),hi'⟩
theorem TuH.upd_lst{H:Hp}{ps:List Addr}{xss:List (List Int)}{a:Addr}{vs:List V}{o:HO}(h:TuH H ps xss)(ha:H a=some (.lst vs)):TuH (upd H a o) ps xss:=⟨h.1,λi p xs e1 e2=>by
 have e3:=h.2 i p xs e1 e2
 rw[L2.upd_ne (λz=>by rw[z,ha]at e3;cases e3)];exact e3⟩
theorem D4(F:Fun K "_law_mul" "_law_mul" qA f fd)(T:Txt K mg):FnOk P w K mg base CX0 1 f fd ["_law_kp","_law_kq"] j7:=by
 refine F.ok sc__law_mul (λvs H Q E h=>?_) (λcdv A outer s H vs Q E hr h=>?_)
 ·obtain⟨a,b,xs,ys,rfl,_⟩:=h;rfl
 ·obtain⟨a,b,xs,ys,rfl,hA,hB,hx,hy,bx,by',k⟩:=h
  refine⟨_,(af (aM (PW.pt (du (aE bN (bM K T.len_ (aa (pv 0) ad)) ac) (fe (aE bN (bM K T.len_ (aa (pv 1) ad)) ac))))
   (ai (ax (bh ad)))
   aS)
   (af (wa (i:=2) sc__law_mul.nd rfl (Or.inl rfl) (own:=["_law_k"]) (fr:=[]) (js:=[]) (by walk_at "comp_ok") rfl (ik rfl T.range_ (aa (ah bB (ah bj (bM K T.len_ (aa (pv 0) ad)) (bM K T.len_ (aa (pv 1) ad))) ac) ad)) (λ_ _ _ _=>(eK (i:=0) (show List.Nodup (["_law_k"]:List Str)from by decide +kernel) rfl (Or.inl rfl))) (λ_ _ _ _=>ac) (by rfl))
   (af (cj PassesOwn.never rfl (jn rfl T.enumerate_ (aa (pv 0) ad)) (jp rfl (eJ (bH 3 sc__law_mul) (eJ (bH 4 sc__law_mul) jo)))
     (ai (cj PassesOwn.never rfl (jn rfl T.enumerate_ (aa (pv 1) ad)) (jp rfl (eJ (bH 5 sc__law_mul) (eJ (bH 6 sc__law_mul) jo)))
       (ai (jj (ah bj (aN K (pv 2) (ah bj (pv 3) (pv 5))) (ah aD (pv 4) (pv 6))) (jq (pv 2) (ah bj (pv 3) (pv 5)) iU))))))
   (ai (ax (pv 2)))))),?_⟩
  have none':(xs=[]\/ys=[])->∀p,H p=none->Q (.ref p) (upd H p (.lst [])):=λh p hp=>k p _ (Same.upd_new hp) hp (by rw[ay];unfold am;rw[if_pos h];rfl)
  have hlx:(xs.map V.int).length=xs.length:=KF _;have hly:(ys.map V.int).length=ys.length:=KF _;refine aU (dM ⟨_,rfl,a,_,rfl,.inl (SqL.of hA),_,_,rfl,rfl,_,rfl,aG (λh0=>?_) (λh0=>?_)⟩)
  ·exact dm ⟨KJ _,λp hp=>none' (.inl (Lv.mp (by rw[hlx]at h0;omega))) p hp⟩
  refine⟨_,rfl,b,_,rfl,.inl (SqL.of hB),_,_,rfl,rfl,_,rfl,aG (λh1=>?_) (λh1=>?_)⟩
  ·exact⟨KJ _,λp hp=>none' (.inr (Lv.mp (by rw[hly]at h1;omega))) p hp⟩
  rw[hlx]at h0;rw[hly]at h1;have hx0:xs≠[]:=λz=>h0 (by rw[z];rfl)
  have hy0:ys≠[]:=λz=>h1 (by rw[z];rfl)
  obtain⟨la,ea⟩:∃la,xs.length=la+1:=⟨xs.length-1,by have:=KL.mpr hx0;omega⟩;obtain⟨lb,eb⟩:∃lb,ys.length=lb+1:=⟨ys.length-1,by have:=KL.mpr hy0;omega⟩;have big:=sizeLine_eq;have en:((xs.map V.int).length:Int)+((ys.map V.int).length:Int)-1=((la+lb+1:Nat):Int):=by rw[hlx,hly];omega
  refine⟨_,rfl,a,_,rfl,.inl (SqL.of hA),_,rfl,b,_,rfl,.inl (SqL.of hB),_,_,rfl,rfl,_,_,rfl,rfl,?_⟩;dsimp only
  rw[en];refine⟨_,rfl,by omega,by omega,nK (lo:=0) (n:=la+lb+1) (λi zs σ' H'=>∃z:Option V,σ'=[z]/\zs=(List.replicate i (0:Int)).map V.int/\H=H') (by omega) ⟨none,rfl,rfl,rfl⟩ ?_ ?_ ?_⟩
  ·rintro i zs σ' H' _ ⟨z,rfl,rfl,rfl⟩;simp
  ·rintro i zs σ' H' hi ⟨z,rfl,rfl,rfl⟩;refine⟨_,rfl,?_,rfl⟩;rw[List.replicate_succ',Lu];rfl
  rintro zs σ' H' p ⟨z,rfl,rfl,rfl⟩ hp;have s4:=Same.upd_new (o:=.lst ((List.replicate (la+lb+1) (0:Int)).map V.int)) hp;have npa:a≠p:=aX hA hp;have npb:b≠p:=aX hB hp;have hp4:upd H p (.lst ((List.replicate (la+lb+1) (0:Int)).map V.int)) p=some (.lst ((List.replicate (la+lb+1) (0:Int)).map V.int)):=ay;generalize upd H p (.lst ((List.replicate (la+lb+1) (0:Int)).map V.int))=H4 at s4 hp4 ⊢
  refine⟨_,rfl,a,rfl,⟨_,SqL.of (s4 _ _ hA)⟩,jz (K:=K) (a:=a) (xs:=xs.map V.int) (λj σ' H'=>∃(acc:List Int) (z3 z4 z5 z6:Option V),σ'=[some (.ref a),some (.ref b),some (.ref p),z3,z4,z5,z6]/\SameB p H4 H'/\H' p=some (.lst (acc.map V.int))/\acc.length=la+lb+1/\∀n,n<acc.length->cf acc n=sm xs ys n j)
   ⟨List.replicate (la+lb+1) 0,none,none,none,none,rfl,SameB.refl _ _,hp4,by simp,λn _=>by rw[k8];rfl⟩ ?_ ?_ ?_⟩
  ·rintro j σ' H' _ ⟨acc,z3,z4,z5,z6,rfl,sb,_⟩;exact SqL.of (sb _ _ npa (s4 _ _ hA))
  ·rintro j x σ' H' q hj ⟨acc,z3,z4,z5,z6,rfl,sb,hpa,hal,hac⟩ hq;rw[List.getElem?_map]at hj
   have hjl:j<xs.length:=by apply Classical.byContradiction;intro hn;rw[List.getElem?_eq_none_iff.mpr (LA hn)]at hj;cases hj
   rw[fm hjl]at hj;obtain rfl:=Option.some.inj hj;refine⟨q,_,rfl,SqT.of ay,rfl,_,_,rfl,_,_,rfl,rfl,?_⟩;have nqp:p≠q:=aX hpa hq;have sb1:SameB p H4 (upd H' q (.tup [.int j,.int (cf xs j)])):=sb.then_new hq
   refine⟨_,rfl,b,rfl,⟨_,SqL.of (sb1 _ _ npb (s4 _ _ hB))⟩,jz (K:=K) (a:=b) (xs:=ys.map V.int) (λi σ' H'=>∃(acc:List Int) (z5 z6:Option V),σ'=[some (.ref a),some (.ref b),some (.ref p),some (.int j),some (.int (cf xs j)),z5,z6]/\SameB p H4 H'/\H' p=some (.lst (acc.map V.int))/\acc.length=la+lb+1/\∀n,n<acc.length->cf acc n=sm xs ys n j+(if j<=n/\n-j<i then tm xs ys n j else 0))
    ⟨acc,z5,z6,rfl,sb1,by rw[upd_ne nqp];exact hpa,hal,wX hac⟩ ?_ ?_ ?_⟩
   ·rintro i σ' H' _ ⟨acc,z5,z6,rfl,sb,_⟩;exact SqL.of (sb _ _ npb (s4 _ _ hB))
   ·rintro i x σ' H' q hi ⟨acc,z5,z6,rfl,sb,hpa,hal,hac⟩ hq;rw[List.getElem?_map]at hi
    have hil:i<ys.length:=by apply Classical.byContradiction;intro hn;rw[List.getElem?_eq_none_iff.mpr (LA hn)]at hi;cases hi
    rw[fm hil]at hi;obtain rfl:=Option.some.inj hi;refine⟨q,_,rfl,SqT.of ay,rfl,_,_,rfl,_,_,rfl,rfl,?_⟩;have nqp:p≠q:=aX hpa hq;have hpa':upd H' q (.tup [.int i,.int (cf ys i)]) p=some (.lst (acc.map V.int)):=by rw[upd_ne nqp];exact hpa
    have hji:j+i<acc.length:=by omega
    have eji:((j:Nat):Int)+((i:Nat):Int)=((j+i:Nat):Int):=by omega
    refine⟨_,rfl,_,rfl,_,rfl,_,_,rfl,rfl,p,_,_,_,rfl,rfl,SqL.of hpa',lg eji hji,_,rfl,_,rfl,_,_,rfl,rfl,⟨bx.cf j,by'.cf i⟩,_,_,rfl,rfl,_,rfl,_,rfl,_,rfl,_,_,rfl,rfl,p,_,_,j+i,rfl,rfl,hpa',jv eji (by rw[KF];exact hji),?_⟩;refine⟨acc.set (j+i) (cf acc (j+i)+cf xs j*cf ys i),_,_,rfl,(sb.then_new hq).then_upd,by rw[ay,kL],by rw[LW];exact hal,wW hjl hil hji hac⟩
   ·rintro σ' H' ⟨acc,z5,z6,rfl,sb,hpa,hal,hac⟩;rw[KF]at hac;exact⟨acc,_,_,_,_,rfl,sb,hpa,hal,wY hac⟩
  ·rintro σ' H' ⟨acc,z3,z4,z5,z6,rfl,sb,hpa,hal,hac⟩;rw[KF]at hac;refine⟨_,rfl,k p H' (λb' o e=>sb b' o (aX e hp) (s4 b' o e)) hp ?_⟩;rw[hpa]
   have e:acc=am xs ys:=by
    apply fu
    ·rw[hal];unfold am;rw[if_neg (by intro z;exact z.elim hx0 hy0),KF,LY];omega
    ·intro n _;rw[aW,wZ (by omega) hac]
   rw[e]
theorem Ea(F:Fun K "_law_gcd" "_law_gcd" qG f fd)(T:Txt K mg):FnOk P w K mg base CX0 1 f fd ["_law_a","_law_b"] sp2:=by
 refine F.ok i0 (λvs H Q E h=>?_) (λcdv A outer s H vs Q E hr h=>?_)
 ·obtain⟨a,b,rfl,_⟩:=h;rfl
 ·obtain⟨a,b,rfl,k⟩:=h
  refine⟨_,(af (aj 0 i0 (cQ jL (by rfl) T.abs_ PyProof.Rows.boot_abs (aa (pv 0) ad)))
   (af (aj 1 i0 (cQ jL (by rfl) T.abs_ PyProof.Rows.boot_abs (aa (pv 1) ad)))
   (af (ff PassesOwn.never (aE ca (pv 1) ac)
     (af (aj 2 i0 (ah bZ (pv 0) (pv 1)))
       (af (aj 0 i0 (pv 1))
       (ai (aj 1 i0 (pv 2))))))
   (ai (ax (pv 0)))))),?_⟩
  refine⟨_,rfl,_,rfl,?_⟩;refine⟨_,rfl,_,rfl,?_⟩;refine⟨λm σ' H'=>∃(x y:Int) (z:Option V),σ'=[some (.int x),some (.int y),z]/\H=H'/\0<=x/\0<=y/\y.natAbs=m/\Nat.gcd x.natAbs y.natAbs=Nat.gcd a.natAbs b.natAbs,⟨_,_,_,none,rfl,rfl,?_,?_,rfl,?_⟩,?_⟩
  ·rw[fO];exact Mw _
  ·rw[fO];exact Mw _
  ·rw[fO,fO,Lp,Lp]
  ·rintro m σ' H' ⟨x,y,z,rfl,rfl,hx,hy,rfl,hg⟩;refine⟨_,rfl,_,_,rfl,rfl,_,rfl,?_⟩;refine aG (λhn=>?_) (λh0=>?_)
   ·have hp:0<y:=hn;refine⟨_,λ_ _ h=>h,?_⟩;refine⟨_,rfl,_,rfl,_,_,rfl,rfl,hp,?_⟩;refine⟨_,rfl,?_⟩;refine⟨_,rfl,?_⟩;have h1:=Int.emod_nonneg x (Ln hp);have h2:=Int.emod_lt_of_pos x hp;exact⟨(x%y).natAbs,by omega,y,x%y,_,rfl,rfl,hy,h1,rfl,by rw[xS hx hp];exact hg⟩
   ·refine⟨_,rfl,?_⟩;have e:(y:Int)=0:=by have:¬(0:Int)<y:=h0;omega
    subst e
    have e2:(x:Int)=((Nat.gcd a.natAbs b.natAbs:Nat):Int):=by rw[<- hg];show x=((Nat.gcd x.natAbs 0:Nat):Int);rw[Nat.gcd_zero_right];omega
    rw[e2];exact k
theorem DR(F:Fun K "_law_shrunk" "_law_shrunk" mH f fd)(T:Txt K mg)(hNS:base.NoSeer)(hTr:P.given.tree=none)(sP:Cal P w K mg base 1 "_law_gcd" ["_law_a","_law_b"] sp2 GD Gj):FnOk P w K mg base CX0 33 f fd ["_law_kp"] j4:=by
 refine F.ok mD (λvs H Q E h=>?_) (λcdv A outer s H vs Q E hr h=>?_)
 ·obtain⟨a,ns,rfl,_⟩:=h;rfl
 ·obtain⟨a,ns,rfl,hA,ht,hn,k⟩:=h;have big:=sizeLine_eq;have hdp:(A.deeper (PyProof.Rows.envOfC (Str.ofString "_law_shrunk") (aC mH) s.heap.objs.size f cdv)).depth+100<recursionLimit:=by have:=hr.dp;omega
  refine⟨_,(af (aj 1 mD ac)
   (af (cj PassesOwn.never rfl (dQ (K:=K) rfl (pv 0)) (bH 2 mD)
     (ai (aj 1 mD (ak sP hr (aa (pv 1) (aa (pv 2) ad))))))
   (af (aM (aE bN (pv 1) ac)
     (ai (ax (bh ad)))
     aS)
   (ai (ax (f9 (own:=["_law_one"]) (fr:=["_law_most"]) (js:=[1]) (by walk_at "comp_ok") rfl (dQ (K:=K) rfl (pv 0)) (λ_ _ _ _=>(eK (i:=0) (show List.Nodup (["_law_one","_law_most"]:List Str)from by decide +kernel) rfl (Or.inl rfl))) (λ_ _ _ _=>(ah (wE hNS hTr hdp rfl rfl rfl rfl rfl) (pv 0) (pv 1))))))))),?_⟩
  refine aA ?_;refine⟨_,rfl,a,rfl,⟨_,SqL.of hA⟩,iw (K:=K) (a:=a) (xs:=ns.map V.int) (λi σ' H'=>∃z:Option V,σ'=[some (.ref a),some (.int (aK (ns.take i):Nat)),z]/\H=H') ⟨none,rfl,rfl⟩ (λi σ' H' _ ⟨z,_,e⟩=>by rw[<- e];exact SqL.of hA) ?_ ?_⟩
  ·rintro i y σ' H' hi ⟨z,rfl,rfl⟩;obtain⟨n,e,rfl,_,et⟩:=fJ hi;refine⟨_,rfl,_,rfl,_,_,rfl,?_⟩;refine⟨some (.int n),?_,rfl⟩;rw[et,xT,Lp];rfl
  ·rintro σ' H' ⟨z,rfl,rfl⟩;rw[KF,LB];dsimp only
   refine aU ⟨_,rfl,_,_,rfl,rfl,_,rfl,aG (λh0=>?_) (λh0=>?_)⟩
   ·have hnil:ns=[]:=Classical.byContradiction λhne=>by have g1:=rP ht hne;have:((aK ns:Nat):Int)=0:=h0;omega
    subst hnil;exact⟨KJ _,λp hp=>k p _ (Same.upd_new hp) hp (by rw[ay];rfl)⟩
   ·have hne:ns≠[]:=λz=>h0 (by rw[z];rfl)
    have g1:=rP ht hne;refine aL ⟨_,rfl,a,rfl,⟨_,SqL.of hA⟩,jH (K:=K) (a:=a) (xs:=ns.map V.int) (λi ys σ' H'=>∃(z0:Option V),σ'=[z0,some (.int (aK ns:Nat))]/\ys=((ns.take i).map λx=>x/(aK ns:Int)).map V.int/\H=H') (by rw[KF];omega) ⟨none,rfl,rfl,rfl⟩ ?_ ?_ ?_⟩
    ·rintro i ys σ' H' _ ⟨z0,rfl,rfl,rfl⟩;exact⟨SqL.of hA,by rw[KF,KF,LG];exact MB _ _⟩
    ·rintro i x ys σ' H' hi ⟨z0,rfl,rfl,rfl⟩;obtain⟨c,e,rfl,_,et⟩:=fJ hi;refine⟨_,rfl,_,rfl,_,_,rfl,rfl,g1,_,rfl,?_,rfl⟩;rw[et];simp
    ·rintro ys σ' H' p ⟨z0,rfl,rfl,rfl⟩ hp;refine k p _ (Same.upd_new hp) hp ?_;rw[ay,KF,LB];rfl
theorem DW(F:Fun K "_law_plain" "_law_plain" qp f fd)(T:Txt K mg)(Ie:Cal P w K mg base 33 "_law_shrunk" ["_law_kp"] j4 Kc Jg):FnOk P w K mg base CX0 34 f fd ["_law_kp"] lT:=by
 refine F.ok vA (λvs H Q E h=>?_) (λcdv A outer s H vs Q E hr h=>?_)
 ·obtain⟨a,ns,rfl,_⟩:=h;rfl
 ·obtain⟨a,ns,rfl,hA,ht,hn,k⟩:=h;have big:=sizeLine_eq
  refine⟨_,(af (aj 1 vA (ak Ie hr (aa (pv 0) ad)))
   (af (aM (PW.pt (fY (aE ca (bM K T.len_ (aa (pv 1) ad)) ac) (gC (aE cr (aN K (pv 1) (ck ci ac)) ac))))
     (ai (ax (f9 (own:=["_law_one"]) (fr:=[]) (js:=[]) (by walk_at "comp_ok") rfl (dQ (K:=K) rfl (pv 1)) (λ_ _ _ _=>(eK (i:=0) (show List.Nodup (["_law_one"]:List Str)from by decide +kernel) rfl (Or.inl rfl))) (λ_ _ _ _=>(ah bB ac (pv 0))))))
     aS)
   (ai (ax (pv 1))))),?_⟩
  refine aA ⟨_,rfl,a,ns,rfl,hA,ht,hn,λp H1 s1 hp e1=>?_⟩;have hsl:(aB ns).length=ns.length:=KF _;refine dP (λσ' H'=>σ'=[some (.ref a),some (.ref p)]/\H1=H'/\bQ (aB ns)=aB ns) ?_ ?_
  ·rintro σ' H' ⟨rfl,rfl,e3⟩;exact⟨_,rfl,k p H1 s1 hp (by rw[e1];show _=some (HO.lst ((bQ (aB ns)).map V.int));rw[e3])⟩
  intro rest;refine fX ⟨_,rfl,p,_,rfl,.inl (SqL.of e1),_,_,rfl,rfl,_,rfl,aG (λh0=>?_) (λh0=>?_)⟩
  ·rw[KF]at h0;have hne:aB ns≠[]:=λz=>by rw[z]at h0;exact absurd h0 (by decide)
   obtain⟨r,x,er⟩:=(dk (aB ns)).resolve_left hne;refine⟨_,rfl,_,rfl,p,_,_,.int x,rfl,rfl,SqL.of e1,(by rw[er];exact yZ r x),_,_,rfl,rfl,_,rfl,?_⟩;have elast:cb (aB ns)=x:=by rw[er,fH]
   refine aG (λhx=>?_) (λhx=>?_)
   ·have hx':x<0:=hx;have epos:bQ (aB ns)=(aB ns).map λx => -x:=by unfold bQ;rw[elast,if_pos hx']
    refine aL ⟨_,rfl,p,rfl,⟨_,SqL.of e1⟩,jH (K:=K) (a:=p) (xs:=(aB ns).map V.int) (λi ys σ' H'=>∃(z0:Option V),σ'=[z0]/\ys=(((aB ns).take i).map λx => -x).map V.int/\H1=H') (by rw[KF,hsl];omega) ⟨none,rfl,rfl,rfl⟩ ?_ ?_ ?_⟩
    ·rintro i ys σ' H' _ ⟨z0,rfl,rfl,rfl⟩;exact⟨SqL.of e1,by rw[KF,KF,LG];exact MB _ _⟩
    ·rintro i x ys σ' H' hi ⟨z0,rfl,rfl,rfl⟩;obtain⟨c,e,rfl,_,et⟩:=fJ hi;refine⟨_,rfl,_,_,rfl,rfl,_,rfl,?_,rfl⟩;rw[et];simp
    ·rintro ys σ' H' p' ⟨z0,rfl,rfl,rfl⟩ hp';refine k p' _ (s1.then_new hp') (s1.free hp') ?_;rw[ay,KF,LB];show _=some (HO.lst ((bQ (aB ns)).map V.int));rw[epos]
   ·exact rest _ _ ⟨rfl,rfl,by unfold bQ;rw[elast,if_neg hx]⟩
  ·rw[KF]at h0;have he':aB ns=[]:=Lv.mp (by omega);exact rest _ _ ⟨rfl,rfl,by rw[he'];rfl⟩
theorem b40:Bits 140 (10^40):=by show((10:Int)^40).natAbs<2^140;decide +kernel
theorem EG(c:Int)(l:List Int)(n:Nat):aR [c] l n=c*cf l n:=by unfold aR;show sm [c] l n 0+tm [c] l n 0=_;unfold sm tm;rw[if_pos (KJ _),sh,LM,Lw]
def Fac(m:Int)(l:List Int):Prop:=∃u e b:Int,l=[u,e,b] /\ -m<=u/\u<=m /\ -36<e/\e<36/\1<=b/\b<=3/\NS e
theorem dC{x m:Int}(h:0<m):0<=x%m/\x%m<m:=⟨Int.emod_nonneg _ (Ln h),Int.emod_lt_of_pos _ h⟩
def uk:Sp:=λvs H Q _=>∃(p:Addr) (l:List Int) (x:Int),vs=[.ref p]/\H p=some (.tup ((l++[x]).map V.int))/\Fac 100000000 l/\mkL H Q (aJ l)
theorem zO{u e b:Int}(hb:0<b):Tr (aI u e b)/\aI u e b≠[]:=by obtain⟨tr,l2⟩:=dJ (u:=u) (e:=e) (b:=b) (by omega);exact⟨tr,λz=>by rw[z]at l2;simp at l2⟩
theorem BT{u e b:Int}(h1 : -100000000<=u)(h2:u<=100000000)(h3 : -36<e)(h4:e<36)(h5:1<=b)(h6:b<=3):AllB 56 (aI u e b):=by
 have q1:(u*u).natAbs<=100000000*100000000:=cM (by omega) (by omega);have q2:(b*u).natAbs<=3*100000000:=cM (by omega) (by omega);have q3:(b*b).natAbs<=3*3:=cM (by omega) (by omega);have q4 : -2*b*u = -2*(b*u):=by grind
 unfold aI;split
 ·intro x hx;simp only[KS,LV,or_false]at hx;rcases hx with rfl |rfl
  ·show(-u).natAbs<72057594037927936;omega
  ·show x.natAbs<72057594037927936;omega
 ·intro x hx;simp only[KS,LV,or_false]at hx;rcases hx with rfl |rfl |rfl
  ·show(u*u-e).natAbs<72057594037927936;omega
  ·rw[q4];show(-2*(b*u)).natAbs<72057594037927936;omega
  ·show(b*b).natAbs<72057594037927936;omega
theorem DS(F:Fun K "_law_shape" "_law_shape" qk f fd)(T:Txt K mg)(zu:Cal P w K mg base 34 "_law_plain" ["_law_kp"] lT Kh Jl):FnOk P w K mg base CX0 35 f fd ["_law_factor"] uk:=by
 refine F.ok oS (λvs H Q E h=>?_) (λcdv A outer s H vs Q E hr h=>?_)
 ·obtain⟨p,l,x,rfl,_⟩:=h;rfl
 ·obtain⟨p,l,x,rfl,hP,⟨u,e,b,rfl,h1,h2,h3,h4,h5,h6,h7⟩,k⟩:=h;have hb:=BT h1 h2 h3 h4 h5 h6;obtain⟨tr,hne⟩:=zO (u:=u) (e:=e) (b:=b) (by omega)
  replace k:mkL H Q (aO (aI u e b)):=k
  have bu:Bits 31 u:=by show u.natAbs<2147483648;omega
  have bb:Bits 2 b:=by show b.natAbs<4;omega
  refine⟨_,(af (aj 1 oS (aq K (pv 0) ac))
   (af (aj 2 oS (aq K (pv 0) ac))
   (af (aM (aE bN (aq K (pv 0) ac) ac)
     (ai (ax (ak zu hr (aa (bh (aa (ah bB ac (pv 1)) (aa (pv 2) ad))) ad))))
     aS)
   (ai (ax (ak zu hr (aa (bh (aa (ah bB (ah aD (pv 1) (pv 1)) (aq K (pv 0) ac)) (aa (ah aD (ah aD (ck ci ac) (pv 2)) (pv 1)) (aa (ah aD (pv 2) (pv 2)) ad)))) ad))))))),?_⟩
  refine aA (au (SqT.of hP) rfl rfl ?_);refine aA (au (SqT.of hP) rfl rfl ?_);refine aU (au (SqT.of hP) rfl rfl (ae ⟨_,rfl,aG (λh0=>?_) (λh0=>?_)⟩))
  ·have h0':e=0:=h0;subst h0';have er:aI u 0 b=[0-u,b]:=by unfold aI;rw[if_pos rfl,Int.zero_sub]
   rw[er]at hb tr k;refine⟨_,rfl,(ae ⟨_,rfl,by show 2<=sizeLine;decide,λq hq=>?_⟩)⟩;refine⟨q,[0-u,b],rfl,ay,tr,by show 2<=1000000;decide,λp' H' sm hp' e'=>k p' H' ((Same.upd_new hq).trans sm) ((Same.upd_new hq).free hp') e'⟩
  ·have h0':¬e=0:=h0;have er:aI u e b=[u*u-e,-2*b*u,b*b]:=by unfold aI;rw[if_neg h0']
   rw[er]at hb tr k;refine aL ⟨_,rfl,_,rfl,(ae ⟨⟨bu.mono,bu.mono⟩,(au (SqT.of hP) rfl rfl (ae ?_))⟩)⟩;refine⟨_,rfl,_,rfl,(ae ⟨⟨Bits.mono (j:=2) (by show(-2:Int).natAbs<2^2;decide) (by decide),bb.mono⟩,_,rfl,(ae ⟨⟨Bits.mono (j:=4) (Bits.mul (j:=2) (k:=2) (by show(-2:Int).natAbs<2^2;decide) bb) (by decide),bu.mono⟩,?_⟩)⟩)⟩;refine⟨_,rfl,_,rfl,(ae ⟨⟨bb.mono,bb.mono⟩,by show 3<=sizeLine;decide,λq hq=>?_⟩)⟩;refine⟨q,[u*u-e,-2*b*u,b*b],rfl,ay,tr,by show 3<=1000000;decide,λp' H' sm hp' e'=>k p' H' ((Same.upd_new hq).trans sm) ((Same.upd_new hq).free hp') e'⟩
def SpB(l:List Int):Prop:=∃u e b s:Int,l=[u,e,b,s] /\ -100000000<=u/\u<=100000000/\0<=e/\e<36/\1<=b/\b<=3
def ou:Sp:=λvs H Q _=>∃sq due:Int,vs=[.int sq,.int due]/\Bits 400000 due/\Q (.int (aT sq due)) H
theorem DN(F:Fun K "_law_sure" "_law_sure" qg f fd)(T:Txt K mg):FnOk P w K mg base CX0 1 f fd ["_law_square","_law_due"] ou:=by
 refine F.ok Bk (λvs H Q E h=>?_) (λcdv A outer s H vs Q E hr h=>?_)
 ·obtain⟨sq,due,rfl,_⟩:=h;rfl
 ·obtain⟨sq,due,rfl,hb,k⟩:=h
  refine⟨_,(af (aM (PW.pt (du (aE cr (pv 1) ac) (fe (aE ca (pv 0) (ah aD (pv 1) (pv 1))))))
   (ai (ax ac))
   aS)
   (ai (ax (ah bB ac (eO iD (by rfl) T.int_ PyProof.Rows.boot_int (aa (bR cr (pv 0) (ah aD (pv 1) (pv 1))) ad)))))),?_⟩
  refine dP (λσ' H'=>σ'=[some (.int sq),some (.int due)]/\H=H'/\¬(due<0\/due*due<sq)) ?_ ?_
  case refine_2 =>
   intro rest;refine dM ⟨_,rfl,(ae ⟨_,rfl,aG (λh1=>?_) (λh1=>?_)⟩)⟩
   ·refine dm ?_;unfold aT at k
    rw[if_pos (.inl h1)]at k;exact k
   ·refine⟨_,rfl,_,rfl,_,rfl,(ae ⟨⟨hb.mono,hb.mono⟩,(ae ⟨_,rfl,aG (λh2=>?_) (λh2=>?_)⟩)⟩)⟩
    ·unfold aT at k
     rw[if_pos (.inr h2)]at k;exact k
    ·exact rest _ _ ⟨rfl,rfl,λz=>z.elim h1 h2⟩
  rintro σ' H' ⟨rfl,rfl,hn⟩;refine aL ⟨_,rfl,_,rfl,_,rfl,(ae ⟨⟨hb.mono,hb.mono⟩,(ae (.inr ⟨_,rfl,(ae ?_)⟩))⟩)⟩;unfold aT at k
  rw[if_neg hn]at k;by_cases h3:sq<due*due
  ·rw[if_pos h3]at k;rw[decide_eq_true h3];exact k
  ·rw[if_neg h3]at k;rw[decide_eq_false h3];exact k
def ui:Sp:=λvs H Q _=>∃(p:Addr) (l:List Int) (t n:Int),vs=[.ref p,.int t,.int n]/\H p=some (.tup (l.map V.int))/\SpB l/\Bits 100000 t/\Bits 100000 n/\Q (.int (ao l t n)) H
theorem DQ(F:Fun K "_law_side" "_law_side" qj f fd)(T:Txt K mg)(lB:Cal P w K mg base 1 "_law_sure" ["_law_square","_law_due"] ou GA Gh):FnOk P w K mg base CX0 2 f fd ["_law_spot","_law_top","_law_bottom"] ui:=by
 refine F.ok oR (λvs H Q E h=>?_) (λcdv A outer s H vs Q E hr h=>?_)
 ·obtain⟨p,l,t,n,rfl,_⟩:=h;rfl
 ·obtain⟨p,l,t,n,rfl,hP,⟨u,e,b,s,rfl,h1,h2,h3,h4,h5,h6⟩,bt,bn,k⟩:=h;have bu:Bits 28 u:=by show u.natAbs<268435456;omega
  have bb:Bits 6 b:=by show b.natAbs<64;omega
  have be:Bits 6 e:=by show e.natAbs<64;omega
  have bd:Bits 100030 (b*t-u*n):=Bits.sub (k:=100029) ((bb.mul bt).mono) ((bu.mul bn).mono)
  refine⟨_,(af (aj 3 oR (ah bB (ah aD (aq K (pv 0) ac) (pv 1)) (ah aD (aq K (pv 0) ac) (pv 2))))
   (af (aj 4 oR (ah aD (ah aD (aq K (pv 0) ac) (pv 2)) (pv 2)))
   (af (aM (aE ca (aq K (pv 0) ac) ac)
     (ai (ax (ak lB hr (aa (pv 4) (aa (pv 3) ad)))))
     aS)
   (ai (ax (ah bB ac (ak lB hr (aa (pv 4) (aa (ah bB ac (pv 3)) ad))))))))),?_⟩
  refine aA (au (SqT.of hP) rfl rfl ⟨_,rfl,(ae ⟨⟨bb.mono,bt.mono⟩,(au (SqT.of hP) rfl rfl ⟨_,rfl,(ae ⟨⟨bu.mono,bn.mono⟩,(ae ?_)⟩)⟩)⟩)⟩);refine aA (au (SqT.of hP) rfl rfl ⟨_,rfl,(ae ⟨⟨be.mono,bn.mono⟩,_,rfl,(ae ⟨⟨(be.mul bn).mono,bn.mono⟩,?_⟩)⟩)⟩);refine aU (au (SqT.of hP) rfl rfl (ae ⟨_,rfl,aG (λhs=>?_) (λhs=>?_)⟩))
  ·refine⟨_,rfl,_,rfl,_,_,rfl,bd.mono,?_⟩;have hs':0<cf [u,e,b,s] 3:=hs;unfold ao at k
   rw[if_pos hs']at k;exact k
  ·have hs':¬0<cf [u,e,b,s] 3:=hs;refine aL ⟨_,rfl,_,rfl,(ae ⟨_,_,rfl,?_,(ae ?_)⟩)⟩
   ·have:=bd.neg;rw[<- Int.zero_sub]at this;exact this.mono
   unfold ao at k
   rw[if_neg hs']at k;exact k
theorem Ar(f:List Int):(spF f).length<=2:=by unfold spF;split<;>split<;>simp
theorem tW:∀fs:List (List Int),(bY fs).length<=2*fs.length
 | []=>KH _
 |f::fs=>by
  have e1:bY (f::fs)=spF f++bY fs:=by unfold bY;rw[List.flatMap_cons]
  have h1:=Ar f;have h2:=tW fs;rw[e1,Lb,Lr];omega
theorem Ao{fs:List (List Int)}{i:Nat}{f:List Int}(h:fs[i]?=some f):bY (fs.take (i+1))=bY (fs.take i)++spF f:=by unfold bY;rw[LQ,h,List.flatMap_append];show _++List.flatMap spF [f]=_;rw[List.flatMap_singleton]
def ur:Sp:=λvs H Q _=>∃(a:Addr) (qs:List Addr) (fs:List (List Int)),vs=[.ref a]/\H a=some (.lst (qs.map V.ref))/\TuH H qs fs/\(∀l∈fs,Fac 100000000 l)/\fs.length<=100/\∀(p:Addr) (H':Hp) (ws:List Addr),Same H H'->H p=none->H' p=some (.lst (ws.map V.ref))->TuH H' ws (bY fs)->Q (.ref p) H'
theorem DT(F:Fun K "_law_roots_of" "_law_roots_of" ql f fd)(T:Txt K mg):FnOk P w K mg base CX0 1 f fd ["_law_factors"] ur:=by
 refine F.ok oT (λvs H Q E h=>?_) (λcdv A outer s H vs Q E hr h=>?_)
 ·obtain⟨a,qs,fs,rfl,_⟩:=h;rfl
 ·obtain⟨a,qs,fs,rfl,hA,hT,hF,hn,k⟩:=h;have big:=sizeLine_eq
  refine⟨_,(af (aj 1 oT (bh ad))
   (af (cj PassesOwn.never rfl (dQ (K:=K) rfl (pv 0)) (bH 2 oT)
     (af (aM (aE kE (aq K (pv 2) ac) ac)
       (ai (f8 (gE (pv 1) (aa (bJ (aa (aq K (pv 2) ac) (aa (aq K (pv 2) ac) (aa (aq K (pv 2) ac) (aa ac ad))))) ad))))
       aS)
       (ai (aM (aE ca (aq K (pv 2) ac) ac)
         (ai (f8 (gE (pv 1) (aa (bJ (aa (aq K (pv 2) ac) (aa (aq K (pv 2) ac) (aa (aq K (pv 2) ac) (aa (ck ci ac) ad))))) ad))))
         aS))))
   (ai (ax (pv 1))))),?_⟩
  refine aA ⟨KJ _,λpm hpm=>?_⟩;have s1:Same H (upd H pm (.lst [])):=Same.upd_new hpm;have q1:upd H pm (.lst []) pm=some (.lst []):=ay;generalize upd H pm (.lst [])=H1 at s1 q1 ⊢
  have hpl:(qs.map V.ref).length=fs.length:=by rw[KF,hT.1]
  refine⟨_,rfl,a,rfl,⟨_,SqL.of (s1 _ _ hA)⟩,iw (K:=K) (a:=a) (xs:=qs.map V.ref) (λi σ' H'=>∃(z2:Option V) (ws:List Addr),σ'=[some (.ref a),some (.ref pm),z2]/\Same H H'/\H' pm=some (.lst (ws.map V.ref))/\TuH H' ws (bY (fs.take i))) ⟨none,[],rfl,s1,q1,TuH.nil⟩ ?_ ?_ ?_⟩
  ·rintro i σ' H' _ ⟨z2,ws,rfl,sm,_⟩;exact SqL.of (sm _ _ hA)
  ·rintro i x σ' H' hi ⟨z2,ws,rfl,sm,em,hW⟩;obtain⟨q,l,rfl,eq,el,hq,hlt⟩:=(hT.same sm).of_get hi;have hmem:=List.mem_of_getElem? el;obtain⟨u,e,b,rfl,h1,h2,h3,h4,h5,h6,h7⟩:=hF l hmem;have hd:spF [u,e,b]=(if 0<=e then[[u,e,b,1]]else[])++(if 0<e then[[u,e,b,-1]]else[]):=rfl
   have hwl:ws.length<=200:=by rw[hW.1];have:=tW (fs.take i);rw[LG]at this;omega
   rw[Ao el,hd];dsimp only
   refine dP (λσ' H'=>∃(ws:List Addr),σ'=[some (.ref a),some (.ref pm),some (.ref q)]/\Same H H'/\H' pm=some (.lst (ws.map V.ref))/\TuH H' ws (bY (fs.take i)++(if 0<=e then[[u,e,b,1]]else[]))/\ws.length<=201) ?_ ?_
   case refine_2 =>
    intro rest;refine(au (SqT.of hq) rfl rfl (ae ⟨_,rfl,aG (λh0=>?_) (λh0=>?_)⟩))
    ·have h0':0<=e:=h0;refine vP ⟨_,rfl,.inl ⟨rfl,_,SqL.of em⟩,(au (SqT.of hq) rfl rfl (au (SqT.of hq) rfl rfl (au (SqT.of hq) rfl rfl ⟨by show 4<=sizeLine;decide,λp hp=>?_⟩)))⟩;have s3:Same H' (upd H' p (.tup ([u,e,b,1].map V.int))):=Same.upd_new hp;have e3:upd H' p (.tup ([u,e,b,1].map V.int)) p=some (.tup ([u,e,b,1].map V.int)):=ay;have em3:=s3 _ _ em;refine⟨pm,_,_,rfl,rfl,em3,by rw[KF];omega,?_⟩;refine rest _ _ ⟨ws++[p],rfl,fh (sm.trans s3) hpm,by rw[ay,rD],?_,by rw[Lb];show ws.length+1<=_;omega⟩;rw[if_pos h0'];exact((hW.same s3).snoc e3).upd_lst em3
    ·have h0':¬0<=e:=h0;refine rest _ _ ⟨ws,rfl,sm,em,?_,by omega⟩;rw[if_neg h0',Mn];exact hW
   clear em hW hwl ws sm hq;rintro σ' H3 ⟨ws,rfl,sm,em,hW,hwl⟩;obtain⟨q',l',ee,eq',el',hq,_⟩:=(hT.same sm).of_get hi;rw[eq]at eq';rw[el]at el';obtain rfl:=Option.some.inj eq';obtain rfl:=Option.some.inj el';refine fW (au (SqT.of hq) rfl rfl (ae ⟨_,rfl,aG (λh0=>?_) (λh0=>?_)⟩))
   ·have h0':0<e:=h0;refine vP ⟨_,rfl,.inl ⟨rfl,_,SqL.of em⟩,(au (SqT.of hq) rfl rfl (au (SqT.of hq) rfl rfl (au (SqT.of hq) rfl rfl ⟨_,rfl,by show 4<=sizeLine;decide,λp hp=>?_⟩)))⟩;have s3:Same H3 (upd H3 p (.tup ([u,e,b,-1].map V.int))):=Same.upd_new hp;have e3:upd H3 p (.tup ([u,e,b,-1].map V.int)) p=some (.tup ([u,e,b,-1].map V.int)):=ay;have em3:=s3 _ _ em;refine⟨pm,_,_,rfl,rfl,em3,by rw[KF];omega,?_⟩;refine⟨_,ws++[p],rfl,fh (sm.trans s3) hpm,by rw[ay,rD],?_⟩;rw[if_pos h0',<- ME];exact((hW.same s3).snoc e3).upd_lst em3
   ·have h0':¬0<e:=h0;refine⟨_,ws,rfl,sm,em,?_⟩;rw[if_neg h0',Mn];exact hW
  ·rintro σ' H' ⟨z2,ws,rfl,sm,em,hW⟩;rw[hpl,LB]at hW;exact⟨_,rfl,k pm H' ws sm hpm em hW⟩
def oy:Sp:=λ_ _ _ _=>False
theorem D3(F:Fun K "_law_norm" "_law_norm" qz f fd)(T:Txt K mg):FnOk P w K mg base CX0 1 f fd ["_law_a","_law_b","_law_c","_law_m"] oy:=F.ok Bp (λ_ _ _ _ h=>h.elim) (λ_ _ _ _ _ _ _ _ _ h=>h.elim)
def lR:Sp:=λvs H Q _=>∃(p:Addr) (l:List Int) (t n:Int),vs=[.ref p,.int t,.int n]/\H p=some (.tup (l.map V.int))/\SpK l/\Bits 900 t/\Bits 900 n/\Q (.int (ce l t n)) H
theorem DJ(F:Fun K "_law_way" "_law_way" qc f fd)(T:Txt K mg)(Ij:Cal P w K mg base 1 "_law_norm" ["_law_a","_law_b","_law_c","_law_m"] oy Kn Jr)(Ic:Cal P w K mg base 2 "_law_side" ["_law_spot","_law_top","_law_bottom"] ui Kb Jf):FnOk P w K mg base CX0 3 f fd ["_law_spot","_law_top","_law_bottom"] lR:=by
 refine F.ok oP (λvs H Q E h=>?_) (λcdv A outer s H vs Q E hr h=>?_)
 ·obtain⟨p,l,t,n,rfl,_⟩:=h;rfl
 ·obtain⟨p,l,t,n,rfl,hp,hl,bt,bn,k⟩:=h
  refine⟨_,(af (aM (aE bN (bM K T.len_ (aa (pv 0) ad)) ac)
   (af (aj 3 oP (ah bB (ah aD (aq K (pv 0) ac) (pv 2)) (pv 1)))
     (af (aj 4 oP (ah aD (aq K (pv 0) ac) (pv 2)))
     (ai (ax (ak Ij hr (aa (pv 3) (aa (pv 4) (aa (ah aD (aq K (pv 0) ac) (pv 2)) (aa (aq K (pv 0) ac) ad)))))))))
   aS)
   (ai (ax (ak Ic hr (aa (pv 0) (aa (pv 1) (aa (pv 2) ad))))))),?_⟩
  obtain⟨u,e,b,s,rfl,h1,h2,he,he',hb,hb',_⟩:=id hl;refine aU ⟨_,rfl,p,_,rfl,.inr (SqT.of hp),(ae ⟨_,rfl,aG (λz=>absurd z (by show ¬((4:Nat):Int)=5;decide)) (λ_=>?_)⟩)⟩;exact aL ⟨_,rfl,_,rfl,_,rfl,p,_,t,n,rfl,hp,⟨u,e,b,s,rfl,by omega,by omega,he,he',hb,hb'⟩,bt.mono,bn.mono,k⟩
def ST(H:Hp)(t:Addr)(s:Int×Int×Int):Prop:=H t=some (.tup [.int s.1,.int s.2.1,.int s.2.2])
theorem cU{l:List Int}{s:Int×Int×Int}{j:Nat}(S:SpG l s j)(hj:j<=300):Bits 310 s.1/\Bits 310 s.2.1/\Bits 310 s.2.2:=by
 have h1:s.2.2<=2^300:=by
  rw[S.n];have:(2:Nat)^j<=2^300:=Mf (by decide) hj;have e:∀k:Nat,((2:Int)^k)=((2^k:Nat):Int):=λk=>by rw[Mb];rfl
  rw[e,e];exact Int.ofNat_le.mpr this
 have h2:=S.pos;have h3:=S.lo;have h4:=S.hi;have h5:=S.w;refine⟨?_,?_,?_⟩
 ·show s.1.natAbs<2^310;omega
 ·show s.2.1.natAbs<2^310;omega
 ·show s.2.2.natAbs<2^310;omega
def uT:Sp:=λvs H Q _=>∃(a p t:Addr) (ws:List Addr) (l:List Int) (ls:List (List Int)) (s:Int×Int×Int),vs=[.ref a,.ref p,.ref t]/\H a=some (.lst (ws.map V.ref))/\TuH H ws ls/\(∀x∈ls,SpK x)/\H p=some (.tup (l.map V.int))/\ST H t s/\Bits 310 s.1/\Bits 310 s.2.1/\Bits 310 s.2.2/\∀r:Bool,(r=true↔fA ls l s)->Q (.bl r) H
theorem Eh(F:Fun K "_law_alone" "_law_alone" mI f fd)(T:Txt K mg)(jT:Cal P w K mg base 3 "_law_way" ["_law_spot","_law_top","_law_bottom"] lR yi x9):FnOk P w K mg base CX0 4 f fd ["_law_spots","_law_spot","_law_span_here"] uT:=by
 refine F.ok mE (λvs H Q E h=>?_) (λcdv A outer s H vs Q E hr h=>?_)
 ·obtain⟨a,p,t,ws,l,ls,s,rfl,_⟩:=h;rfl
 ·obtain⟨a,p,t,ws,l,ls,sp,rfl,hl,hT,hK,hp,ht,b1,b2,b3,k⟩:=h;have hu2:(A.deeper (PyProof.Rows.envOfC (Str.ofString "_law_alone") (aC mI) s.heap.objs.size f cdv)).units+66<cLine:=by have:=hr.un;omega
  have w1:Bits 900 sp.1:=b1.mono;have w2:Bits 900 sp.2.1:=b2.mono;have w3:Bits 900 sp.2.2:=b3.mono
  refine⟨_,(af (cj PassesOwn.never rfl (dQ (K:=K) rfl (pv 0)) (bH 3 mE)
   (af (aj 4 mE (ak jT hr (aa (pv 3) (aa (aq K (pv 2) ac) (aa (aq K (pv 2) ac) ad)))))
     (af (aj 5 mE (ak jT hr (aa (pv 3) (aa (aq K (pv 2) ac) (aa (aq K (pv 2) ac) ad)))))
     (ai (aM (PW.pt (fY (aE (CF (K:=K) rfl hu2) (pv 3) (pv 1)) (fY (aE kE (pv 4) ac) (gC (aE gF (pv 5) ac)))))
       (ai (ax cq))
       aS)))))
   (ai (ax cq))),?_⟩
  refine⟨_,rfl,a,rfl,⟨_,SqL.of hl⟩,iw (K:=K) (a:=a) (xs:=ws.map V.ref) (λi σ' H'=>∃z3 z4 z5:Option V,σ'=[some (.ref a),some (.ref p),some (.ref t),z3,z4,z5]/\H=H'/\fA (ls.take i) l sp) ⟨none,none,none,rfl,rfl,λx hx=>(nomatch hx)⟩ ?_ ?_ ?_⟩
  ·rintro i σ' H' _ ⟨z3,z4,z5,rfl,rfl,_⟩;exact SqL.of hl
  ·rintro i x σ' H' hi ⟨z3,z4,z5,rfl,rfl,hx⟩;obtain⟨q,y,rfl,eq,ey,hq,hlt⟩:=hT.of_get hi;have hy:=hK y (List.mem_of_getElem? ey);refine aA ⟨_,rfl,(au (SqT.of ht) rfl rfl (au (SqT.of ht) rfl rfl ⟨q,y,_,_,rfl,hq,hy,w1,w3,?_⟩))⟩;refine aA ⟨_,rfl,(au (SqT.of ht) rfl rfl (au (SqT.of ht) rfl rfl ⟨q,y,_,_,rfl,hq,hy,w2,w3,?_⟩))⟩
   have go:(y≠l->¬(0<=ce y sp.1 sp.2.2/\ce y sp.2.1 sp.2.2<=0))->fA (ls.take (i+1)) l sp:=λhn x hm=>by
    rw[LQ,ey]at hm;rcases L1.mp hm with h |h
    ·exact hx x h
    ·rw[KP.mp h];exact hn
   refine fW (fX ⟨_,rfl,_,rfl,q,p,_,_,rfl,rfl,SqT.of hq,SqT.of hp,_,rfl,cX (λne=>?_) (λz=>bU ⟨_,_,_,rfl,rfl,go λy=>absurd z y⟩)⟩);refine fX ⟨_,rfl,(ae ⟨_,rfl,aG (λh1=>?_) (λh1=>bU ⟨_,_,_,rfl,rfl,go λ_ z=>h1 z.1⟩)⟩)⟩;refine⟨_,rfl,(ae ⟨_,rfl,aG (λh2=>?_) (λh2=>⟨_,_,_,rfl,rfl,go λ_ z=>h2 z.2⟩)⟩)⟩;exact aL (k false ⟨λz=>Bool.noConfusion z,λz=>absurd ⟨h1,h2⟩ (z y (List.mem_of_getElem? ey) ne)⟩)
  ·rintro σ' H' ⟨z3,z4,z5,rfl,rfl,hx⟩;rw[KF,hT.1,LB]at hx;exact k true ⟨λ_=>hx,λ_=>rfl⟩
def lY:Sp:=λvs H Q _=>∃(t p:Addr) (l:List Int) (s:Int×Int×Int) (j:Nat),vs=[.ref t,.ref p]/\ST H t s/\H p=some (.tup (l.map V.int))/\SpK l/\SpG l s j/\j<=300/\∀(t':Addr) (H':Hp),Same H H'->H t'=none->ST H' t' (hfG l s)->Q (.ref t') H'
theorem D9(F:Fun K "_law_half" "_law_half" qF f fd)(T:Txt K mg)(jT:Cal P w K mg base 3 "_law_way" ["_law_spot","_law_top","_law_bottom"] lR yi x9):FnOk P w K mg base CX0 4 f fd ["_law_span_here","_law_spot"] lY:=by
 refine F.ok vD (λvs H Q E h=>?_) (λcdv A outer s H vs Q E hr h=>?_)
 ·obtain⟨t,p,l,s,j,rfl,_⟩:=h;rfl
 ·obtain⟨t,p,l,sp,j,rfl,ht,hp,hl,S,hj,k⟩:=h;obtain⟨b1,b2,b3⟩:=cU S hj;have b2':Bits 2 (2:Int):=by show(2:Int).natAbs<2^2;decide
  have M:∀{x:Int},Bits 310 x->Bits 1000000 x:=λh=>h.mono
  have M2:Bits 1000000 (2:Int):=b2'.mono
  refine⟨_,(af (aj 2 vD (ah bj (aq K (pv 0) ac) (aq K (pv 0) ac)))
   (af (aM (aE gF (ak jT hr (aa (pv 1) (aa (pv 2) (aa (ah aD ac (aq K (pv 0) ac)) ad)))) ac)
     (ai (ax (bJ (aa (ah aD ac (aq K (pv 0) ac)) (aa (pv 2) (aa (ah aD ac (aq K (pv 0) ac)) ad))))))
     aS)
   (ai (ax (bJ (aa (pv 2) (aa (ah aD ac (aq K (pv 0) ac)) (aa (ah aD ac (aq K (pv 0) ac)) ad)))))))),?_⟩
  refine aA (au (SqT.of ht) rfl rfl (au (SqT.of ht) rfl rfl (ae ?_)));refine aU ⟨_,rfl,_,rfl,(au (SqT.of ht) rfl rfl (ae ⟨⟨M2,M b3⟩,p,l,_,_,rfl,hp,hl,(b1.add b2).mono,(b2'.mul b3).mono,(ae ⟨_,rfl,aG (λh1=>?_) (λh1=>?_)⟩)⟩))⟩
  ·refine aL (au (SqT.of ht) rfl rfl (ae ⟨⟨M2,M b1⟩,_,rfl,(au (SqT.of ht) rfl rfl (ae ⟨⟨M2,M b3⟩,by show 3<=sizeLine;decide,λt' ht'=>k t' _ (Same.upd_new ht') ht' ?_⟩))⟩));unfold ST hfG;rw[if_pos h1];exact ay
  ·refine aL ⟨_,rfl,(au (SqT.of ht) rfl rfl (ae ⟨⟨M2,M b2⟩,(au (SqT.of ht) rfl rfl (ae ⟨⟨M2,M b3⟩,by show 3<=sizeLine;decide,λt' ht'=>k t' _ (Same.upd_new ht') ht' ?_⟩))⟩))⟩;unfold ST hfG;rw[if_neg h1];exact ay
def ug:Sp:=λvs H Q _=>∃(a p:Addr) (more:Int) (ws:List Addr) (l:List Int) (ls:List (List Int)) (J:Nat),vs=[.ref a,.ref p,.int more]/\0<=more/\more<=20/\J<=207/\(∀s j,SpG l s j->J<=j->fA ls l s)/\H a=some (.lst (ws.map V.ref))/\TuH H ws ls/\H p=some (.tup (l.map V.int))/\l∈ls/\(∀x∈ls,SpK x)/\∀(t:Addr) (H':Hp) (j:Nat),Same H H'->H t=none->ST H' t (itG l j)->fA ls l (itG l j)->j<=J+more.toNat->Q (.ref t) H'
theorem DP(F:Fun K "_law_span" "_law_span" qi f fd)(T:Txt K mg)(Io:Cal P w K mg base 4 "_law_alone" ["_law_spots","_law_spot","_law_span_here"] uT Kw JA)(iJ:Cal P w K mg base 4 "_law_half" ["_law_span_here","_law_spot"] lY yk yc):FnOk P w K mg base CX0 5 f fd ["_law_spots","_law_spot","_law_more"] ug:=by
 refine F.ok kj (λvs H Q E h=>?_) (λcdv A outer s H vs Q E hr h=>?_)
 ·obtain⟨a,p,more,ws,l,ls,J,rfl,_⟩:=h;rfl
 ·obtain⟨a,p,more,ws,l,ls,J,rfl,m0,m9,hJ,far,ha,hT,hp,hl,hF,k⟩:=h;have big:=sizeLine_eq;have hk:=hF l hl
  refine⟨_,(af (aj 3 kj (bJ (aa (ck ci ac) (aa ac (aa ac ad)))))
   (af (ff PassesOwn.never (cF (cw (ak Io hr (aa (pv 0) (aa (pv 1) (aa (pv 3) ad))))))
     (ai (aj 3 kj (ak iJ hr (aa (pv 3) (aa (pv 1) ad))))))
   (af (cj PassesOwn.never rfl (ik rfl T.range_ (aa (pv 2) ad)) (bH 4 kj)
     (ai (aj 3 kj (ak iJ hr (aa (pv 3) (aa (pv 1) ad))))))
   (ai (ax (pv 3)))))),?_⟩
  refine aA ⟨_,rfl,by show 3<=sizeLine;decide,λt0 h0=>?_⟩;have s1:=Same.upd_new (o:=.tup [.int (-64),.int 64,.int 1]) h0;have e1:ST (upd H t0 (.tup [.int (-64),.int 64,.int 1])) t0 (itG l 0):=ay;show b8 _ _ _ _ (upd H t0 (.tup [.int (-64),.int 64,.int 1]));generalize upd H t0 (.tup [.int (-64),.int 64,.int 1])=H1 at s1 e1 ⊢
  refine⟨λn σ' H'=>∃(t:Addr) (j:Nat),σ'=[some (.ref a),some (.ref p),some (.int more),some (.ref t),none]/\Same H H'/\H t=none/\ST H' t (itG l j)/\j<=J/\J-j=n,⟨J,t0,0,rfl,s1,h0,e1,by omega,rfl⟩,?_⟩;rintro n σ' H2 ⟨t,j,rfl,s2,ht,et,hj,rfl⟩;have S:=dD hk j;obtain⟨b1,b2,b3⟩:=cU S (by omega);refine cI ⟨_,rfl,_,rfl,_,rfl,a,p,t,ws,l,ls,_,rfl,s2 _ _ ha,hT.same s2,hF,s2 _ _ hp,et,b1,b2,b3,λr hr'=>⟨_,rfl,?_⟩⟩;cases r with
  |false =>
   refine dm ?_;have hj':j<J:=Nat.lt_of_not_le λz=>Bool.noConfusion (hr'.mpr (far _ _ S z))
   refine⟨_,λ_ _ h=>h,?_⟩;refine bG ⟨_,rfl,_,rfl,t,p,l,_,j,rfl,et,s2 _ _ hp,hk,S,by omega,λt' H' s' ht' et'=>?_⟩;exact⟨J-(j+1),by omega,t',j+1,rfl,s2.trans s',s2.free ht',et',by omega,rfl⟩
  |true =>
   refine bU ?_;have A0:fA ls l (itG l j):=hr'.mp rfl;have em:((more.toNat:Nat):Int)=more:=Mc m0;refine⟨_,rfl,more.toNat,by rw[em],by omega,by omega,nD (lo:=0) (n:=more.toNat) (λi σ' H'=>∃(t:Addr) (z:Option V),σ'=[some (.ref a),some (.ref p),some (.int more),some (.ref t),z]/\Same H H'/\H t=none/\ST H' t (itG l (j+i))/\fA ls l (itG l (j+i))) ⟨t,none,rfl,s2,ht,et,A0⟩ ?_ ?_⟩
   ·rintro i σ' H3 hi ⟨t,z,rfl,s3,ht,et,hA⟩;refine bG ⟨_,rfl,_,rfl,t,p,l,_,j+i,rfl,et,s3 _ _ hp,hk,dD hk _,by omega,λt' H' s' ht' et'=>?_⟩;exact⟨t',_,rfl,s3.trans s',s3.free ht',et',Hq hF (dD hk _) hA⟩
   ·rintro σ' H3 ⟨t,z,rfl,s3,ht,et,hA⟩;exact⟨_,rfl,k t H3 _ s3 ht et hA (by omega)⟩
def oq:Sp:=λvs H Q _=>∃i:Int,vs=[.int i]/\Q (.bl true) H
theorem DI(F:Fun K "_law_whole" "_law_whole" p8 f fd)(T:Txt K mg):FnOk P w K mg base CX0 1 f fd ["_law_found"] oq:=by
 refine F.ok Bj (λvs H Q E h=>?_) (λcdv A outer s H vs Q E hr h=>?_)
 ·obtain⟨i,rfl,_⟩:=h;rfl
 ·obtain⟨i,rfl,k⟩:=h;refine⟨_,(ai (ax (eQ (cQ (jK (K:=K) rfl) (by rfl) T.isinstance_ PyProof.Rows.boot_isinstance (aa (pv 0) (aa (kD (v:=.ty "int") (by rfl) T.int_ PyProof.Rows.boot_int (by rfl)) ad))) (eN (kC (cQ (jK (K:=K) rfl) (by rfl) T.isinstance_ PyProof.Rows.boot_isinstance (aa (pv 0) (aa (kD (v:=.ty "bool") (by rfl) T.bool_ PyProof.Rows.boot_bool (by rfl)) ad)))))))),?_⟩;refine aL (eH (jd ⟨_,rfl,kP (.int i) (k:=true) (by rfl) ⟨_,rfl,dm ?_⟩⟩));refine ko (jd ⟨_,rfl,kP (.int i) (k:=false) (by rfl) ⟨_,rfl,?_⟩⟩);exact k
theorem DM(F:Fun K "_law_trim" "_law_trim" qf f fd)(T:Txt K mg):FnOk P w K mg base CX0 1 f fd ["_law_row"] (gW K):=by
 refine F.ok oQ (λvs H Q E h=>?_) (λcdv A outer s H vs Q E hr h=>?_)
 ·obtain⟨a,ns,rfl,_⟩:=h;rfl
 ·obtain⟨a,ns,rfl,hS,k⟩:=h
  refine⟨_,(af (aj 1 oQ (bM K T.len_ (aa (pv 0) ad)))
   (af (ff PassesOwn.never (PW.pt (fY (aE ca (pv 1) ac) (gC (aE bN (aN K (pv 0) (ah bB (pv 1) ac)) ac))))
     (ai (aj 1 oQ (ah bB (pv 1) ac))))
   (ai (ax (kz (mi (K:=K) rfl) (pv 0) ky (kx (pv 1))))))),?_⟩
  refine⟨_,rfl,a,_,rfl,.inl hS,?_⟩;refine⟨λm σ' H'=>∃n:Nat,n<=ns.length/\σ'=[some (.ref a),some (.int n)]/\H=H'/\n=m/\trim (ns.take n)=trim ns,⟨_,ns.length,KH _,?_,rfl,rfl,?_⟩,?_⟩
  ·rw[KF];rfl
  ·rw[LB]
  ·rintro m σ' H' ⟨n,hn,rfl,rfl,rfl,ht⟩
   have fin:trim (ns.take n)=ns.take n->∃v,([some (V.ref a),some (V.int n)]:St)[0]?=some (some v)/\∃v_1,([some (V.ref a),some (V.int n)]:St)[1]?=some (some v_1)/\∃i,v_1=V.int i/\mL K v none (some i) H Q:=λh=>by
    refine⟨_,rfl,_,rfl,n,rfl,a,_,rfl,hS,λp hp=>k p _ (Same.upd_new hp) hp ?_⟩;rw[ay,<- ht,h]
    have e:dY (ns.map V.int) none (some (n:Int))=(ns.take n).map V.int:=by unfold dY;rw[HT.sIx_none,HT.sIx_nat,Ma,LM,KF,Nat.min_eq_left hn,List.map_take]
    rw[e]
   refine⟨_,rfl,_,_,rfl,rfl,_,rfl,?_⟩;refine aG (λhp=>?_) (λhp=>?_)
   ·obtain⟨j,rfl⟩:∃j,n=j+1:=⟨n-1,by have:(0:Int)<n:=hp;omega⟩;have hj:j<ns.length:=hn;refine⟨_,rfl,_,rfl,_,_,rfl,rfl,a,_,j,.int (cf ns j),rfl,?_,hS,gO ?_,_,_,rfl,rfl,_,rfl,?_⟩
    ·show V.int (((j+1:Nat):Int)-1)=V.int j
     congr 1;omega
    ·rw[List.getElem?_map,fm hj];rfl
    refine aG (λh0=>?_) (λh0=>?_)
    ·refine⟨_,λ_ _ h=>h,?_⟩;refine⟨_,rfl,_,_,rfl,rfl,j,LK _,j,L0 hj,?_,rfl,rfl,?_⟩
     ·show[some (V.ref a),some (V.int (((j+1:Nat):Int)-1))]=[some (V.ref a),some (V.int j)]
      congr 4;omega
     ·rw[<- ht,sX hj h0]
    ·exact fin (sY hj h0)
   ·obtain rfl:n=0:=by have:¬(0:Int)<n:=hp;omega
    exact fin (by rw[List.take_zero];rfl)
def uJ:Sp:=λvs H Q _=>∃(a:Addr) (ns:List Int),vs=[.ref a]/\H a=some (.lst (ns.map V.int))/\Tr ns/\Q (.bl true) H
theorem D8(F:Fun K "_law_is_poly" "_law_is_poly" qE f fd)(T:Txt K mg)(nY:Cal P w K mg base 1 "_law_whole" ["_law_found"] oq Gz Gf):FnOk P w K mg base CX0 2 f fd ["_law_found"] uJ:=by
 refine F.ok vC (λvs H Q E h=>?_) (λcdv A outer s H vs Q E hr h=>?_)
 ·obtain⟨a,ns,rfl,_⟩:=h;rfl
 ·obtain⟨a,ns,rfl,hA,ht,k⟩:=h
  refine⟨_,(af (aM (cF (cw (cQ (jK (K:=K) rfl) (by rfl) T.isinstance_ PyProof.Rows.boot_isinstance (aa (pv 0) (aa (kD (v:=.ty "list") (by rfl) T.list_ PyProof.Rows.boot_list (by rfl)) ad)))))
   (ai (ax cq))
   aS)
   (af (cj PassesOwn.never rfl (dQ (K:=K) rfl (pv 0)) (bH 1 vC)
     (ai (aM (cF (cw (ak nY hr (aa (pv 1) ad))))
       (ai (ax cq))
       aS)))
   (ai (ax (wo (bR bN (bM K T.len_ (aa (pv 0) ad)) ac) (eN (bR ga (aN K (pv 0) (ck ci ac)) ac))))))),?_⟩
  refine aU (cI (mJ (jd ⟨_,rfl,kP (.lst hA) (k:=true) (by rfl) ⟨_,rfl,bU ?_⟩⟩)));refine⟨_,rfl,a,rfl,⟨_,SqL.of hA⟩,iw (K:=K) (a:=a) (xs:=ns.map V.int) (λi σ' H'=>∃z:Option V,σ'=[some (.ref a),z]/\H=H') ⟨none,rfl,rfl⟩ ?_ ?_ ?_⟩
  ·rintro i σ' H' _ ⟨z,rfl,rfl⟩;exact SqL.of hA
  ·rintro i x σ' H' hi ⟨z,rfl,rfl⟩;obtain⟨y,_,rfl,_,_⟩:=fJ hi;exact⟨_,rfl,_,rfl,_,rfl,bU ⟨_,rfl,rfl⟩⟩
  ·rintro σ' H' ⟨z,rfl,rfl⟩;dsimp only
   refine aL (vO ⟨_,rfl,a,_,rfl,.inl (SqL.of hA),_,_,rfl,rfl,_,rfl,aG (λ_=>k) (λh0=>?_)⟩);rw[KF]at h0;have hne:ns≠[]:=λz=>h0 (by rw[z];rfl)
   refine⟨_,rfl,_,rfl,a,_,_,_,rfl,rfl,SqL.of hA,li hne,_,_,rfl,rfl,?_⟩;have hl:=KL.mpr hne;have h1:=ht (ns.length-1) (by omega);dsimp only
   rw[decide_eq_false h1];exact k
def uM:Sp:=λvs H Q _=>∃c m:Int,vs=[.int c,.int m]/\0<=m/\∀(p:Addr) (l:List Int),H p=none->Fac m l->Q (.ref p) (upd H p (.tup (l.map V.int)))
theorem Eb(F:Fun K "_law_factor_by" "_law_factor_by" qH f fd)(T:Txt K mg):FnOk P w K mg base CX0 1 f fd ["_law_cell","_law_most"] uM:=by
 refine F.ok kl (λvs H Q E h=>?_) (λcdv A outer s H vs Q E hr h=>?_)
 ·obtain⟨c,m,rfl,_⟩:=h;rfl
 ·obtain⟨c,m,rfl,hm,k⟩:=h
  refine⟨_,(af (aj 2 kl (ah bB (ah bZ (ah il (pv 0) ac) (ah bj (ah jt ac (pv 1)) ac)) (pv 1)))
   (af (aj 3 kl (ah bj ac (ah bZ (ah bZ (ah jt (pv 0) ac) ac) ac)))
   (af (aj 4 kl (ah bj ac (ah bZ (ah bZ (ah jt (pv 0) ac) ac) ac)))
   (af (aj 5 kl (ah bj (ah bj (ah jt (pv 4) (pv 4)) ac) (ah bZ (ah bZ (ah jt (pv 0) ac) ac) (ah jt ac (pv 4)))))
   (af (aM (aE bN (ah bZ (pv 0) ac) ac)
     (ai (ax (bJ (aa (pv 2) (aa (pv 5) (aa (pv 3) ad))))))
     aS)
   (af (aM (aE bN (ah bZ (pv 0) ac) ac)
     (ai (ax (bJ (aa (pv 2) (aa (ah bB ac (pv 5)) (aa (pv 3) ad))))))
     aS)
   (ai (ax (bJ (aa (pv 2) (aa ac (aa (pv 3) ad)))))))))))),?_⟩
  refine aA ⟨_,rfl,(ae ⟨⟨by decide,Bits.mono (j:=3) (by show(4:Int).natAbs<2^3;decide) (by decide)⟩,_,rfl,(ae ⟨.inl ⟨by decide,by decide⟩,(ae (ae ⟨(by show(0:Int)<2*m+1;omega),_,rfl,(ae ?_)⟩))⟩)⟩)⟩;obtain⟨u1,u2⟩:=dC (x:=c/4) (m:=2*m+1) (by omega);dsimp only
  generalize hu:c/4%(2*m+1)-m=u;have hu1 : -m<=u:=by omega
  have hu2:u<=m:=by omega
  refine aA ⟨_,rfl,(ae ⟨.inr ⟨by decide,by decide⟩,(ae ⟨(by show(0:Int)<10007;decide),(ae ⟨(by show(0:Int)<3;decide),(ae ?_)⟩)⟩)⟩)⟩;obtain⟨b1,b2⟩:=dC (x:=c*48271%10007) (m:=3) (by omega);dsimp only
  generalize hb:1+c*48271%10007%3=b;have hb1:1<=b:=by omega
  have hb2:b<=3:=by omega
  refine aA ⟨_,rfl,(ae ⟨.inr ⟨by decide,by decide⟩,(ae ⟨(by show(0:Int)<10009;decide),(ae ⟨(by show(0:Int)<5;decide),(ae ?_)⟩)⟩)⟩)⟩;obtain⟨n1,n2⟩:=dC (x:=c*69621%10009) (m:=5) (by omega);dsimp only
  generalize hn:1+c*69621%10009%5=n;have hn1:1<=n:=by omega
  have hn2:n<=5:=by omega
  refine aA ⟨_,rfl,_,rfl,(ae ⟨.inl ⟨by show -(2^64)<n;omega,by show n<2^64;omega⟩,(ae ⟨_,rfl,(ae ⟨.inr ⟨by decide,by decide⟩,(ae ⟨(by show(0:Int)<10037;decide),_,rfl,(ae ⟨.inl ⟨by decide,by decide⟩,(ae ⟨(by show(0:Int)<2*n;omega),(ae ?_)⟩)⟩)⟩)⟩)⟩)⟩)⟩;obtain⟨e1,e2⟩:=dC (x:=c*16807%10037) (m:=2*n) (by omega);dsimp only
  generalize he:n*n+1+c*16807%10037%(2*n)=e;have hnn:0<=n*n:=KN (by omega) (by omega);have he0:0<e:=by omega
  have hns:n*n<e/\e<(n+1)*(n+1):=by
   have:(n+1)*(n+1)=n*n+2*n+1:=by rw[Int.add_mul,Int.mul_add];omega
   omega
  have he2:e<36:=by
   have h1:n=1\/n=2\/n=3\/n=4\/n=5:=by omega
   rcases h1 with rfl |rfl |rfl |rfl |rfl<;>omega
  refine aU ⟨_,rfl,(ae ⟨(by show(0:Int)<4;decide),(ae ⟨_,rfl,aG (λ_=>?_) (λ_=>?_)⟩)⟩)⟩
  ·exact⟨_,rfl,_,rfl,_,rfl,by show 3<=sizeLine;decide,λp hp=>k p [u,e,b] hp ⟨u,e,b,rfl,hu1,hu2,by omega,he2,hb1,hb2,.inr ⟨n,by omega,hns.1,hns.2⟩⟩⟩
  refine aU ⟨_,rfl,(ae ⟨(by show(0:Int)<4;decide),(ae ⟨_,rfl,aG (λ_=>?_) (λ_=>?_)⟩)⟩)⟩
  ·exact⟨_,rfl,_,rfl,(ae ⟨_,rfl,by show 3<=sizeLine;decide,λp hp=>k p [u,0-e,b] hp ⟨u,0-e,b,rfl,hu1,hu2,by omega,by omega,hb1,hb2,.inl (by omega)⟩⟩)⟩
  exact⟨_,rfl,_,rfl,by show 3<=sizeLine;decide,λp hp=>k p [u,0,b] hp ⟨u,0,b,rfl,hu1,hu2,by omega,by omega,hb1,hb2,.inl (K6 _)⟩⟩
theorem ii{t b:Int}(hb:b≠0):rt t b*b=t*rb t b:=by
 have h1:=km (t:=t) hb;have h2:=je (t:=t) hb;generalize dv t b=d at h1 h2
 generalize rt t b=x at h1 ⊢
 generalize rb t b=y at h2 ⊢
 rw[<- h1,<- h2];grind
def uD(C CN:Addr):Sp:=λvs H Q _=>∃(q t:Addr) (ns:List Int) (s:Int×Int×Int),vs=[.ref q,.ref t]/\H q=some (.lst (ns.map V.int))/\ST H t s/\0<s.2.2/\Bits 9000 s.2.2/\∀(o q' l h:Addr) (H':Hp),Same H H'->NA CN H' o q' l h->H' q'=some (.lst (ns.map V.int))->RA C H' l (rt s.1 s.2.2) (rb s.1 s.2.2)->RA C H' h (rt s.2.1 s.2.2) (rb s.2.1 s.2.2)->Q (.ref o) H'
theorem D1(F:Fun K "_law_number" "_law_number" qw f fd)(T:Txt K mg)(R:RCI K mg C)(RN:NCI K mg CN)(d7:KCal P w K mg base 2 C "Ratio" ["self","top","bottom"] (fC C) jB jA jC [.int 1])(Iv:KCal P w K mg base 1 CN "Number" ["self","row","low","high"] (lX CN) KA JE KC []):FnOk P w K mg base CX0 4 f fd ["_law_kp","_law_span_here"] (uD C CN):=by
 obtain⟨dg,de,c7,dd,jO,jE⟩:=d7;obtain⟨HC,Hy,E5,Hl,KE,KD⟩:=Iv;refine F.ok Bo (λvs H Q E h=>?_) (λcdv A outer s H vs Q E hr h=>?_)
 ·obtain⟨q,t,ns,s,rfl,_⟩:=h;rfl
 ·obtain⟨q,t,ns,sp,rfl,hq,ht,n0,nb,k⟩:=h;have ne:sp.2.2≠0:=by omega
  refine⟨_,(ai (ax (fE Hy HC (hr.mono) rfl E5 Hl .nil b9 (aa (eO (lf (K:=K) rfl) (by rfl) T.list_ PyProof.Rows.boot_list (aa (pv 0) ad)) (aa (fE de dg (hr.mono) rfl c7 dd .nil b9 (aa (aq K (pv 1) ac) (aa (aq K (pv 1) ac) ad))) (aa (fE de dg (hr.mono) rfl c7 dd .nil b9 (aa (aq K (pv 1) ac) (aa (aq K (pv 1) ac) ad))) ad)))))),?_⟩;refine aL ⟨_,rfl,q,_,rfl,.inl (SqL.of hq),λr hr'=>?_⟩;have u1:=Same.upd_new (o:=.lst (ns.map V.int)) hr';have e1:upd H r (.lst (ns.map V.int)) r=some (.lst (ns.map V.int)):=ay;generalize upd H r (.lst (ns.map V.int))=H1 at u1 e1 ⊢
  have ht1:=u1 _ _ ht;refine(au (SqT.of ht1) rfl rfl (au (SqT.of ht1) rfl rfl (gf ne nb λl H2 u2 hl rl=>?_)));have ht2:=u2 _ _ ht1;refine(au (SqT.of ht2) rfl rfl (au (SqT.of ht2) rfl rfl (gf ne nb λh H3 u3 hh rh=>?_)));refine E4 (u3 _ _ (u2 _ _ e1)) λx p H4 u4 hx hNA hp hpn=>?_
  exact k x p l h H4 (u1.trans (u2.trans (u3.trans u4))) hNA hp (rl.same (u3.trans u4)) (rh.same u4)
def uu:Sp:=λvs H Q _=>∃(p:Addr) (m:Int) (l:List Int),vs=[.ref p]/\H p=some (.tup (l.map V.int))/\Fac m l/\∀(p':Addr) (l':List Int) (H':Hp),Same H H'->H' p'=some (.tup (l'.map V.int))->Fac m l'->0<=cf l' 1->Q (.ref p') H'
theorem DV(F:Fun K "_law_real" "_law_real" qo f fd)(T:Txt K mg):FnOk P w K mg base CX0 1 f fd ["_law_factor"] uu:=by
 refine F.ok Bm (λvs H Q E h=>?_) (λcdv A outer s H vs Q E hr h=>?_)
 ·obtain⟨p,m,l,rfl,_⟩:=h;rfl
 ·obtain⟨p,m,l,rfl,hp,⟨u,e,b,rfl,f1,f2,f3,f4,f5,f6,f7⟩,k⟩:=h
  refine⟨_,(af (aM (aE cr (aq K (pv 0) ac) ac)
   (ai (ax (bJ (aa (aq K (pv 0) ac) (aa ac (aa (aq K (pv 0) ac) ad))))))
   aS)
   (ai (ax (pv 0)))),?_⟩
  refine aU (au (SqT.of hp) rfl rfl (ae ⟨_,rfl,aG (λz=>?_) (λz=>?_)⟩))
  ·refine aL (au (SqT.of hp) rfl rfl (au (SqT.of hp) rfl rfl ⟨by show 3<=sizeLine;decide,λq hq=>?_⟩));exact k q [u,0,b] _ (Same.upd_new hq) ay ⟨u,0,b,rfl,f1,f2,by decide,by decide,f5,f6,.inl (K6 _)⟩ (K6 _)
  ·have z':¬e<0:=z;exact aL ⟨_,rfl,k p _ H (Same.refl _) hp ⟨u,e,b,rfl,f1,f2,f3,f4,f5,f6,f7⟩ (show 0<=e by omega)⟩
def lV(C:Addr):Sp:=λvs H Q _=>∃(p q:Addr) (t b u d:Int),vs=[.ref p,.ref q]/\RA C H p t b/\RA C H q u d/\Bits 1000000 t/\Bits 1000000 b/\Bits 1000000 u/\Bits 1000000 d/\Q (.bl (decide (t*d<u*b))) H
theorem D6(F:Fun K "_law_less" "_law_less" qC f fd)(T:Txt K mg)(R:RCI K mg C):FnOk P w K mg base CX0 1 f fd ["_law_r","_law_s"] (lV C):=by
 refine F.ok Br (λvs H Q E h=>?_) (λcdv A outer s H vs Q E hr h=>?_)
 ·obtain⟨p,q,t,b,u,d,rfl,_⟩:=h;rfl
 ·obtain⟨p,q,t,b,u,d,rfl,⟨dp,hp⟩,⟨dq,hq⟩,b1,b2,b3,b4,k⟩:=h;refine⟨_,(ai (ax (bR cr (ah aD (aH (K:=K) rfl (pv 0) rfl) (aH (K:=K) rfl (pv 1) rfl)) (ah aD (aH (K:=K) rfl (pv 1) rfl) (aH (K:=K) rfl (pv 0) rfl))))),?_⟩;exact aL ⟨_,rfl,p,C,dp,_,_,rfl,hp,R.cl,R.nT,cK _ _,_,rfl,q,C,dq,_,_,rfl,hq,R.cl,R.nB,bT _ _,(ae ⟨⟨b1,b4⟩,_,rfl,q,C,dq,_,_,rfl,hq,R.cl,R.nT,cK _ _,_,rfl,p,C,dp,_,_,rfl,hp,R.cl,R.nB,bT _ _,(ae ⟨⟨b3,b2⟩,(ae k)⟩)⟩)⟩
def gZ(C CN:Addr):Sp:=λvs H Q _=>∃(x y o q l h:Addr) (x1 x2 y1 y2 l1 l2 h1 h2:Int),vs=[.ref x,.ref y,.ref o]/\RA C H x x1 x2/\RA C H y y1 y2/\NA CN H o q l h/\RA C H l l1 l2/\RA C H h h1 h2/\(∀c∈[x1,x2,y1,y2,l1,l2,h1,h2],Bits 1000000 c)/\l1*x2<=x1*l2/\y1*h2<=h1*y2/\Q (.bl true) H
theorem D5(F:Fun K "_law_lies_in" "_law_lies_in" qB f fd)(T:Txt K mg)(R:RCI K mg C)(RN:NCI K mg CN)(iI:Cal P w K mg base 1 "_law_less" ["_law_r","_law_s"] (lV C) yj yb):FnOk P w K mg base CX0 2 f fd ["_law_low","_law_high","_law_n"] (gZ C CN):=by
 refine F.ok Bq (λvs H Q E h=>?_) (λcdv A outer s H vs Q E hr h=>?_)
 ·obtain⟨x,y,o,q,l,h,x1,x2,y1,y2,l1,l2,h1,h2,rfl,_⟩:=h;rfl
 ·obtain⟨x,y,o,q,l,h,x1,x2,y1,y2,l1,l2,h1,h2,rfl,hx,hy,⟨dO,hO⟩,hl,hh,hb,lo,hi,k⟩:=h;refine⟨_,(ai (ax (eQ (kC (ak iI hr (aa (pv 0) (aa (aH (K:=K) rfl (pv 2) rfl) ad)))) (eN (kC (ak iI hr (aa (aH (K:=K) rfl (pv 2) rfl) (aa (pv 1) ad)))))))),?_⟩;refine aL (eH (ko ⟨_,rfl,_,rfl,o,CN,dO,_,_,rfl,hO,RN.cl,RN.nL,fK _ _ _,x,l,x1,x2,l1,l2,rfl,hx,hl,hb _ (by simp),hb _ (by simp),hb _ (by simp),hb _ (by simp),_,rfl,?_⟩));rw[decide_eq_false (show ¬x1*l2<l1*x2 by omega)];refine⟨_,rfl,dm (ko ⟨_,rfl,o,CN,dO,_,_,rfl,hO,RN.cl,RN.nH,dX _ _ _,_,rfl,h,y,h1,h2,y1,y2,rfl,hh,hy,hb _ (by simp),hb _ (by simp),hb _ (by simp),hb _ (by simp),_,rfl,?_⟩)⟩;rw[decide_eq_false (show ¬h1*y2<y1*h2 by omega)];exact k
theorem yq(t b:Int){l:List Int}{n:Nat}(h:n<l.length):lv t b (l.drop n)=cf l n*b^(l.length-(n+1))+t*lv t b (l.drop (n+1)):=by rw[MF h];show l[n]*b^(l.drop (n+1)).length+t*lv t b (l.drop (n+1))=_;rw[da h,LL]
theorem E6{t b:Int}(bt:Bits 3000 t)(bb:Bits 3000 b)(b0:b≠0){l:List Int}(h:AllB 95000 l):Bits (95001+3001*l.length) (lv t b l):=by have h1:=rM bt bb h;rw[rL]at h1;refine h1.of_le ?_;rw[Lj];exact Mt _ (Mg.mpr b0)
def uR:Sp:=λvs H Q _=>∃(a:Addr) (ns:List Int) (t b:Int),vs=[.ref a,.int t,.int b]/\H a=some (.lst (ns.map V.int))/\ns.length<=20/\AllB 95000 ns/\Bits 3000 t/\Bits 3000 b/\0<b/\Q (.int (lv t b ns)) H
theorem Ef(F:Fun K "_law_at" "_law_at" qL f fd)(T:Txt K mg):FnOk P w K mg base CX0 1 f fd ["_law_kp","_law_top","_law_bottom"] uR:=by
 refine F.ok i9 (λvs H Q E h=>?_) (λcdv A outer s H vs Q E hr h=>?_)
 ·obtain⟨a,ns,t,b,rfl,_⟩:=h;rfl
 ·obtain⟨a,ns,t,b,rfl,hA,hn,hb,bt,bb,b0,k⟩:=h
  refine⟨_,(af (aj 3 i9 ac)
   (af (aj 4 i9 ac)
   (af (cj PassesOwn.never rfl (mR rfl T.reversed_ (aa (pv 0) ad)) (bH 5 i9)
     (af (aj 3 i9 (ah bj (ah aD (pv 3) (pv 1)) (ah aD (pv 5) (pv 4))))
       (ai (aj 4 i9 (ah aD (pv 4) (pv 2))))))
   (ai (ax (pv 3)))))),?_⟩
  have hl:(ns.map V.int).length=ns.length:=KF _;refine aA ?_;refine aA ?_;refine⟨_,rfl,a,_,rfl,SqL.of hA,nC (K:=K) (a:=a) (xs:=ns.map V.int) (λi σ' H'=>∃z:Option V,σ'=[some (.ref a),some (.int t),some (.int b),some (.int (lv t b (ns.drop (ns.length-i)))),some (.int (b^i)),z]/\H=H') ⟨none,?_,rfl⟩ ?_ ?_ ?_⟩
  ·rw[LM,MM,LI];rfl
  ·rintro i σ' H' _ ⟨z,rfl,rfl⟩;exact SqL.of hA
  ·rintro i x σ' H' hi hx ⟨z,rfl,rfl⟩;rw[hl]at hi hx;obtain⟨c,ec,rfl,hc,_⟩:=fJ hx;have hi':i<ns.length:=hi;have e1:ns.length-(i+1)=ns.length-1-i:=by omega
   have hd:=yq t b (l:=ns) (n:=ns.length-1-i) (by omega);have e2:ns.length-1-i+1=ns.length-i:=by omega
   have e3:ns.length-(ns.length-i)=i:=by omega
   rw[e2,e3,sj ec]at hd;have bs:=E6 bt bb (by omega) (l:=ns.drop (ns.length-i)) λx hx=>hb x (ML hx)
   rw[LL]at bs;have bp:=gN bb i;refine aA ⟨_,rfl,_,rfl,(ae ⟨⟨bs.mono (by omega),bt.mono⟩,_,rfl,_,rfl,(ae ⟨⟨(hb c hc).mono,bp.mono (by omega)⟩,(ae ?_)⟩)⟩)⟩;refine bG ⟨_,rfl,_,rfl,(ae ⟨⟨bp.mono (by omega),bb.mono⟩,some (.int c),?_,rfl⟩)⟩;rw[e1,hd,K5 b i,L6,K8 t];rfl
  ·rintro σ' H' ⟨z,rfl,rfl⟩;rw[hl,LX,Ma];exact⟨_,rfl,k⟩
theorem vk{t b:Int}(hb:0<b)(l:List Int):sg (hv t b l)=sg (lv t b l):=by rw[rL,kg,show sg b=1 from by unfold sg;rw[if_neg (by omega),if_pos hb],K4]
def iQ(C:Addr):Sp:=λvs H Q _=>∃(a x y:Addr) (ns:List Int) (x1 x2 y1 y2:Int),vs=[.ref a,.ref x,.ref y]/\H a=some (.lst (ns.map V.int))/\ns.length<=20/\AllB 95000 ns/\RA C H x x1 x2/\RA C H y y1 y2/\EndsG 3000 x1 x2 y1 y2/\Chg ns x1 x2 y1 y2/\Q (.bl true) H
theorem Ed(F:Fun K "_law_changes_on" "_law_changes_on" qJ f fd)(T:Txt K mg)(R:RCI K mg C)(zA:Cal P w K mg base 1 "_law_at" ["_law_kp","_law_top","_law_bottom"] uR Ku Jy)(iI:Cal P w K mg base 1 "_law_less" ["_law_r","_law_s"] (lV C) yj yb):FnOk P w K mg base CX0 2 f fd ["_law_kp","_law_low","_law_high"] (iQ C):=by
 refine F.ok oV (λvs H Q E h=>?_) (λcdv A outer s H vs Q E hr h=>?_)
 ·obtain⟨a,x,y,ns,x1,x2,y1,y2,rfl,_⟩:=h;rfl
 ·obtain⟨a,x,y,ns,x1,x2,y1,y2,rfl,hA,hn,hb,hx,hy,en,⟨c1,c2,c3⟩,k⟩:=h;obtain⟨dx,hx'⟩:=id hx;obtain⟨dy,hy'⟩:=id hy;rw[vk en.l2p]at c2 c3;rw[vk en.h2p]at c3
  refine⟨_,(af (aj 3 oV (ak zA hr (aa (pv 0) (aa (aH (K:=K) rfl (pv 1) rfl) (aa (aH (K:=K) rfl (pv 1) rfl) ad)))))
   (af (aj 4 oV (ak zA hr (aa (pv 0) (aa (aH (K:=K) rfl (pv 2) rfl) (aa (aH (K:=K) rfl (pv 2) rfl) ad)))))
   (ai (ax (eQ (ak iI hr (aa (pv 1) (aa (pv 2) ad))) (eQ (bR ga (pv 3) ac) (eN (wo (bR bN (pv 4) ac) (eN (bR wC (bR cr (pv 3) ac) (bR cr (pv 4) ac))))))))))),?_⟩
  refine aA ⟨_,rfl,_,rfl,x,C,dx,_,_,rfl,hx',R.cl,R.nT,cK _ _,_,rfl,x,C,dx,_,_,rfl,hx',R.cl,R.nB,bT _ _,a,ns,x1,x2,rfl,hA,hn,hb,en.bl1,en.bl2,en.l2p,?_⟩;refine aA ⟨_,rfl,_,rfl,y,C,dy,_,_,rfl,hy',R.cl,R.nT,cK _ _,_,rfl,y,C,dy,_,_,rfl,hy',R.cl,R.nB,bT _ _,a,ns,y1,y2,rfl,hA,hn,hb,en.bh1,en.bh2,en.h2p,?_⟩;have h0:lv x1 x2 ns≠0:=λz=>c2 (by rw[z];rfl)
  have h1:lv y1 y2 ns=0\/(lv y1 y2 ns≠0/\(lv x1 x2 ns<0↔¬lv y1 y2 ns<0)):=by
   generalize lv x1 x2 ns=p at h0 c2 c3
   generalize lv y1 y2 ns=q at c3
   have e1:=eh p;have e2:=eh q;unfold sg at c3
   split at c3<;>split at c3<;>omega
  refine aL (eH ⟨_,rfl,_,rfl,x,y,x1,x2,y1,y2,rfl,hx,hy,en.bl1.mono,en.bl2.mono,en.bh1.mono,en.bh2.mono,?_⟩);rw[decide_eq_true c1];refine⟨_,rfl,dm (eH ⟨_,rfl,(ae ⟨_,rfl,cX (λ_=>?_) (λz=>absurd z h0)⟩)⟩)⟩;refine vO ⟨_,rfl,(ae ⟨_,rfl,aG (λ_=>k) (λz=>?_)⟩)⟩;have z':¬lv y1 y2 ns=0:=z;have h2:=(h1.resolve_left z').2;refine⟨_,rfl,(ae ⟨_,rfl,(ae ?_)⟩)⟩;show rNe (.bl (decide (lv x1 x2 ns<0))) (.bl (decide (lv y1 y2 ns<0))) H Q;by_cases g:lv y1 y2 ns<0
  ·rw[decide_eq_true g,decide_eq_false (λy=>h2.mp y g)];exact⟨rfl,by rw[decide_eq_false (by simp)];exact k⟩
  ·rw[decide_eq_false g,decide_eq_true (h2.mpr g)];exact⟨rfl,by rw[decide_eq_false (by simp)];exact k⟩
def uI(C:Addr):Sp:=λvs H Q _=>∃(x:Addr) (t b:Int),vs=[.ref x]/\RA C H x t b/\0<b/\Nat.gcd t.natAbs b.natAbs=1/\Q (.bl true) H
theorem D7(F:Fun K "_law_is_ratio" "_law_is_ratio" qD f fd)(T:Txt K mg)(R:RCI K mg C)(nY:Cal P w K mg base 1 "_law_whole" ["_law_found"] oq Gz Gf)(sP:Cal P w K mg base 1 "_law_gcd" ["_law_a","_law_b"] sp2 GD Gj):FnOk P w K mg base CX0 2 f fd ["_law_found"] (uI C):=by
 refine F.ok Bs (λvs H Q E h=>?_) (λcdv A outer s H vs Q E hr h=>?_)
 ·obtain⟨x,t,b,rfl,_⟩:=h;rfl
 ·obtain⟨x,t,b,rfl,⟨dx,hx⟩,b0,hg,k⟩:=h
  refine⟨_,(af (aM (PW.pt (du (cF (cw (cQ (jK (K:=K) rfl) (by rfl) T.isinstance_ PyProof.Rows.boot_isinstance (aa (pv 0) (aa (Cq (v:=.ref C) rfl R.mg rfl) ad))))) (du (cF (cw (ak nY hr (aa (aH (K:=K) rfl (pv 0) rfl) ad)))) (fe (cF (cw (ak nY hr (aa (aH (K:=K) rfl (pv 0) rfl) ad))))))))
   (ai (ax cq))
   aS)
   (ai (ax (eQ (bR ca (aH (K:=K) rfl (pv 0) rfl) ac) (eN (bR bN (ak sP hr (aa (aH (K:=K) rfl (pv 0) rfl) (aa (aH (K:=K) rfl (pv 0) rfl) ad))) ac)))))),?_⟩
  refine aU (dM (cI (mJ (jd ⟨_,rfl,Fo (.ins hx R.cl R.ha R.hn R.ht R.hm) (k:=true) (by unfold PySem.W.kitOne;rw[if_pos (by simp)]) ⟨_,rfl,bU ?_⟩⟩))));refine dM (cI ⟨_,rfl,x,C,dx,_,_,rfl,hx,R.cl,R.nT,cK _ _,_,rfl,_,rfl,bU ?_⟩);refine cI ⟨_,rfl,x,C,dx,_,_,rfl,hx,R.cl,R.nB,bT _ _,_,rfl,_,rfl,bU ?_⟩;refine aL (eH ⟨_,rfl,x,C,dx,_,_,rfl,hx,R.cl,R.nB,bT _ _,(ae ⟨_,rfl,aG (λ_=>?_) (λz=>absurd b0 z)⟩)⟩);refine⟨_,rfl,x,C,dx,_,_,rfl,hx,R.cl,R.nT,cK _ _,_,rfl,x,C,dx,_,_,rfl,hx,R.cl,R.nB,bT _ _,t,b,rfl,(ae ?_)⟩;rw[hg];exact k
def oz(C:Addr):Sp:=λvs H Q _=>∃(t:Addr) (s:Int×Int×Int),vs=[.ref t]/\ST H t s/\0<s.2.2/\Bits 9000 s.2.2/\∀(p l h:Addr) (H':Hp),Same H H'->H' p=some (.lst [.ref l,.ref h])->RA C H' l (rt s.1 s.2.2) (rb s.1 s.2.2)->RA C H' h (rt s.2.1 s.2.2) (rb s.2.1 s.2.2)->Q (.ref p) H'
theorem Ec(F:Fun K "_law_ends" "_law_ends" qI f fd)(T:Txt K mg)(R:RCI K mg C)(d7:KCal P w K mg base 2 C "Ratio" ["self","top","bottom"] (fC C) jB jA jC [.int 1]):FnOk P w K mg base CX0 4 f fd ["_law_span_here"] (oz C):=by
 obtain⟨dg,de,c7,dd,jO,jE⟩:=d7;refine F.ok Bt (λvs H Q E h=>?_) (λcdv A outer s H vs Q E hr h=>?_)
 ·obtain⟨t,s,rfl,_⟩:=h;rfl
 ·obtain⟨t,sp,rfl,ht,n0,nb,k⟩:=h;have ne:sp.2.2≠0:=by omega
  refine⟨_,(ai (ax (bh (aa (fE de dg (hr.mono) rfl c7 dd .nil b9 (aa (aq K (pv 0) ac) (aa (aq K (pv 0) ac) ad))) (aa (fE de dg (hr.mono) rfl c7 dd .nil b9 (aa (aq K (pv 0) ac) (aa (aq K (pv 0) ac) ad))) ad))))),?_⟩;refine aL (au (SqT.of ht) rfl rfl (au (SqT.of ht) rfl rfl (gf ne nb λl H2 u2 hl rl=>?_)));have ht2:=u2 _ _ ht;refine(au (SqT.of ht2) rfl rfl (au (SqT.of ht2) rfl rfl (gf ne nb λh H3 u3 hh rh=>?_)));refine⟨by show 2<=sizeLine;decide,λp hp=>?_⟩;have u4:=Same.upd_new (o:=.lst [V.ref l,V.ref h]) hp;exact k p l h _ ((u2.trans u3).trans u4) ay ((rl.same u3).same u4) (rh.same u4)
noncomputable def ofG(l:List Int)(s:Int×Int×Int):Int×Int×Int:=if ce l (s.1+s.2.1) (2*s.2.2)<=0 then(s.1+s.2.1,2*s.2.1,2*s.2.2)else(2*s.1,s.1+s.2.1,2*s.2.2)
def uC:Sp:=λvs H Q _=>∃(t p:Addr) (l:List Int) (s:Int×Int×Int) (j:Nat),vs=[.ref t,.ref p]/\ST H t s/\H p=some (.tup (l.map V.int))/\SpK l/\SpG l s j/\j<=300/\∀(t':Addr) (H':Hp),Same H H'->H t'=none->ST H' t' (ofG l s)->Q (.ref t') H'
theorem D0(F:Fun K "_law_off" "_law_off" qv f fd)(T:Txt K mg)(jT:Cal P w K mg base 3 "_law_way" ["_law_spot","_law_top","_law_bottom"] lR yi x9):FnOk P w K mg base CX0 4 f fd ["_law_span_here","_law_spot"] uC:=by
 refine F.ok vB (λvs H Q E h=>?_) (λcdv A outer s H vs Q E hr h=>?_)
 ·obtain⟨t,p,l,s,j,rfl,_⟩:=h;rfl
 ·obtain⟨t,p,l,sp,j,rfl,ht,hp,hl,S,hj,k⟩:=h;obtain⟨b1,b2,b3⟩:=cU S hj;have b2':Bits 2 (2:Int):=by show(2:Int).natAbs<2^2;decide
  have M:∀{x:Int},Bits 310 x->Bits 1000000 x:=λh=>h.mono
  have M2:Bits 1000000 (2:Int):=b2'.mono
  refine⟨_,(af (aj 2 vB (ah bj (aq K (pv 0) ac) (aq K (pv 0) ac)))
   (af (aM (aE gF (ak jT hr (aa (pv 1) (aa (pv 2) (aa (ah aD ac (aq K (pv 0) ac)) ad)))) ac)
     (ai (ax (bJ (aa (pv 2) (aa (ah aD ac (aq K (pv 0) ac)) (aa (ah aD ac (aq K (pv 0) ac)) ad))))))
     aS)
   (ai (ax (bJ (aa (ah aD ac (aq K (pv 0) ac)) (aa (pv 2) (aa (ah aD ac (aq K (pv 0) ac)) ad)))))))),?_⟩
  refine aA (au (SqT.of ht) rfl rfl (au (SqT.of ht) rfl rfl (ae ?_)));refine aU ⟨_,rfl,_,rfl,(au (SqT.of ht) rfl rfl (ae ⟨⟨M2,M b3⟩,p,l,_,_,rfl,hp,hl,(b1.add b2).mono,(b2'.mul b3).mono,(ae ⟨_,rfl,aG (λh1=>?_) (λh1=>?_)⟩)⟩))⟩
  ·refine aL ⟨_,rfl,(au (SqT.of ht) rfl rfl (ae ⟨⟨M2,M b2⟩,(au (SqT.of ht) rfl rfl (ae ⟨⟨M2,M b3⟩,by show 3<=sizeLine;decide,λt' ht'=>k t' _ (Same.upd_new ht') ht' ?_⟩))⟩))⟩;unfold ST ofG;rw[if_pos h1];exact ay
  ·refine aL (au (SqT.of ht) rfl rfl (ae ⟨⟨M2,M b1⟩,_,rfl,(au (SqT.of ht) rfl rfl (ae ⟨⟨M2,M b3⟩,by show 3<=sizeLine;decide,λt' ht'=>k t' _ (Same.upd_new ht') ht' ?_⟩))⟩));unfold ST ofG;rw[if_neg h1];exact ay
def uv:Sp:=λvs H Q _=>∃f s q:Int,vs=[.int f,.int s,.int q]/\Bits 100000 f/\Q (.int (psI f s q)) H
theorem DY(F:Fun K "_law_pair_sign" "_law_pair_sign" qt f fd)(T:Txt K mg)(lB:Cal P w K mg base 1 "_law_sure" ["_law_square","_law_due"] ou GA Gh):FnOk P w K mg base CX0 2 f fd ["_law_flat","_law_sign","_law_square"] uv:=by
 refine F.ok Bn (λvs H Q E h=>?_) (λcdv A outer s H vs Q E hr h=>?_)
 ·obtain⟨f,s,q,rfl,_⟩:=h;rfl
 ·obtain⟨f,s,q,rfl,bf,k⟩:=h
  refine⟨_,(af (aM (aE ca (pv 1) ac)
   (ai (ax (ak lB hr (aa (pv 2) (aa (ah bB ac (pv 0)) ad)))))
   aS)
   (ai (ax (ah bB ac (ak lB hr (aa (pv 2) (aa (pv 0) ad))))))),?_⟩
  unfold psI at k
  refine aU ⟨_,rfl,(ae ⟨_,rfl,aG (λz=>?_) (λz=>?_)⟩)⟩
  ·rw[if_pos z]at k;exact aL ⟨_,rfl,_,rfl,(ae ⟨q,0-f,rfl,Bits.mono (Bits.sub (k:=100000) Bits.zero bf) (by decide),k⟩)⟩
  ·rw[if_neg z]at k;exact aL ⟨_,rfl,_,rfl,q,f,rfl,bf.mono,(ae k)⟩
def SpF(l:List Int):Prop:=∃u e b s:Int,l=[u,e,b,s] /\ -11<=u/\u<=11/\0<=e/\e<36/\1<=b/\b<=3/\(s=1\/s = -1/\0<e)/\NS e
theorem SpF.k{l:List Int}(h:SpF l):SpK l:=by obtain⟨u,e,b,s,rfl,h1,h2,h3,h4,h5,h6,h7,h8⟩:=h;exact⟨u,e,b,s,rfl,h1,h2,h3,h4,h5,h6,h7⟩
theorem SpF.spt{l:List Int}(h:SpF l):Spt l:=by obtain⟨u,e,b,s,rfl,h1,h2,h3,h4,h5,h6,h7,h8⟩:=h;exact tY h3 h5 h7
theorem SpF.worth{l:List Int}(h:SpF l):∃u v w d:Int,WOk u v w d/\l=[u,d*v*v,w,ar v]:=by
 obtain⟨u,e,b,s,rfl,h1,h2,h3,h4,h5,h6,h7,h8⟩:=h;have bu:Bits 20 u:=by show u.natAbs<1048576;omega
 by_cases e0:e=0
 ·subst e0;have s1:s=1:=by rcases h7 with z |z<;>omega
  subst s1;have n2:NSq 2:=wK (n:=1) (d:=2) (by decide) (by decide);exact⟨u,0,b,2,⟨bu,by show(0:Int).natAbs<1048576;decide,by omega,by omega,by omega,by omega,n2⟩,by simp[ar]⟩
 ·have ep:0<e:=by omega
  obtain⟨n,n0,q1,q2⟩:=h8.resolve_left (by omega)
  have n1:1<=n:=Li.mp λz=>by
   have:n=0:=by omega
   subst this;omega
  have e2:2<=e:=by have:=L9 n1 n1 (by decide) (by omega);omega
  have ns:NSq e:=by
   have:=wK (n:=n.toNat) (d:=e.toNat) (by
    have:((n.toNat*n.toNat:Nat):Int)<(e.toNat:Int):=by rw[LP,Mc n0,Mc h3];exact q1
    omega) (by
    have:(e.toNat:Int)<(((n.toNat+1)*(n.toNat+1):Nat):Int):=by rw[LP,Int.natCast_add,Mc n0,Mc h3];exact q2
    omega)
   rw[Mc h3]at this;exact this
  rcases h7 with rfl |⟨rfl,_⟩
  ·exact⟨u,1,b,e,⟨bu,by show(1:Int).natAbs<1048576;decide,by omega,by omega,e2,by omega,ns⟩,by simp[ar]⟩
  ·exact⟨u,-1,b,e,⟨bu,by show(-1:Int).natAbs<1048576;decide,by omega,by omega,e2,by omega,ns⟩,by simp[ar]⟩
theorem jN(p:Prop)[Decidable p]:Bits 2 (bI p):=by
 unfold bI;split
 ·show(1:Int).natAbs<2^2;decide
 ·show(0:Int).natAbs<2^2;decide
def uB:Sp:=λvs H Q _=>∃(p q:Addr) (l l':List Int),vs=[.ref p,.ref q]/\H p=some (.tup (l.map V.int))/\H q=some (.tup (l'.map V.int))/\SpF l/\SpF l'/\Q (.int (jr l l')) H
theorem DZ(F:Fun K "_law_order" "_law_order" qu f fd)(T:Txt K mg)(Ig:Cal P w K mg base 2 "_law_pair_sign" ["_law_flat","_law_sign","_law_square"] uv Kj Jn):FnOk P w K mg base CX0 3 f fd ["_law_one","_law_other"] uB:=by
 refine F.ok ia (λvs H Q E h=>?_) (λcdv A outer s H vs Q E hr h=>?_)
 ·obtain⟨p,q,l,l',rfl,_⟩:=h;rfl
 ·obtain⟨p,q,l,l',rfl,hp,hq,⟨u,e,b,s,rfl,h1,h2,h3,h4,h5,h6,h7,h8⟩,⟨a,f,c,s',rfl,i1,i2,i3,i4,i5,i6,i7,i8⟩,k⟩:=h;have S:∀{x:Int},-100<=x->x<=100->Bits 7 x:=λ{x} a b=>by show x.natAbs<128;omega
  have M:∀{j:Nat} {x:Int},Bits j x->j<=100->Bits 1000000 x:=λh z=>h.mono (by omega)
  have bu:Bits 7 u:=S (by omega) (by omega);have be:Bits 7 e:=S (by omega) (by omega);have bb:Bits 7 b:=S (by omega) (by omega);have bs:Bits 7 s:=S (by rcases h7 with z |z<;>omega) (by rcases h7 with z |z<;>omega);have ba:Bits 7 a:=S (by omega) (by omega);have bf:Bits 7 f:=S (by omega) (by omega);have bc:Bits 7 c:=S (by omega) (by omega);have bs':Bits 7 s':=S (by rcases i7 with z |z<;>omega) (by rcases i7 with z |z<;>omega);have b1:=(bu.mul bc).sub (ba.mul bb);have b2:=(be.mul bc).mul bc;have b3:=(bf.mul bb).mul bb;have b4:Bits 3 (4:Int):=by show(4:Int).natAbs<8;decide
  refine⟨_,(af (aj 2 ia (ah bB (ah aD (aq K (pv 0) ac) (aq K (pv 1) ac)) (ah aD (aq K (pv 1) ac) (aq K (pv 0) ac))))
   (af (aj 3 ia (ah aD (ah aD (aq K (pv 0) ac) (aq K (pv 1) ac)) (aq K (pv 1) ac)))
   (af (aj 4 ia (ah aD (ah aD (aq K (pv 1) ac) (aq K (pv 0) ac)) (aq K (pv 0) ac)))
   (af (aj 5 ia (ah bB ac (ah aD (aq K (pv 0) ac) (aq K (pv 1) ac))))
   (af (aM (aE ca (pv 5) ac)
     (ai (aj 6 ia (ah aD (aq K (pv 0) ac) (eO iD (by rfl) T.int_ PyProof.Rows.boot_int (aa (bR ca (ah bj (pv 3) (pv 4)) ac) ad)))))
     (ai (aj 6 ia (ah aD (aq K (pv 0) ac) (ah bB (eO iD (by rfl) T.int_ PyProof.Rows.boot_int (aa (bR ca (pv 3) (pv 4)) ad)) (eO iD (by rfl) T.int_ PyProof.Rows.boot_int (aa (bR cr (pv 3) (pv 4)) ad)))))))
   (af (aM (aE kE (ah aD (pv 2) (pv 6)) ac)
     (ai (ax (ah bB (eO iD (by rfl) T.int_ PyProof.Rows.boot_int (aa (bR ca (ah bj (pv 2) (pv 6)) ac) ad)) (eO iD (by rfl) T.int_ PyProof.Rows.boot_int (aa (bR cr (ah bj (pv 2) (pv 6)) ac) ad)))))
     aS)
   (ai (ax (ah aD (pv 6) (ak Ig hr (aa (ah bB (ah bj (pv 3) (pv 4)) (ah aD (pv 2) (pv 2))) (aa (pv 5) (aa (ah aD (ah aD ac (pv 3)) (pv 4)) ad))))))))))))),?_⟩
  refine aA (au (SqT.of hp) rfl rfl (au (SqT.of hq) rfl rfl (ae ⟨⟨M bu (by decide),M bc (by decide)⟩,(au (SqT.of hq) rfl rfl (au (SqT.of hp) rfl rfl (ae ⟨⟨M ba (by decide),M bb (by decide)⟩,(ae ?_)⟩)))⟩)));refine aA (au (SqT.of hp) rfl rfl (au (SqT.of hq) rfl rfl (ae ⟨⟨M be (by decide),M bc (by decide)⟩,(au (SqT.of hq) rfl rfl (ae ⟨⟨M (be.mul bc) (by decide),M bc (by decide)⟩,?_⟩))⟩)));refine aA (au (SqT.of hq) rfl rfl (au (SqT.of hp) rfl rfl (ae ⟨⟨M bf (by decide),M bb (by decide)⟩,(au (SqT.of hp) rfl rfl (ae ⟨⟨M (bf.mul bb) (by decide),M bb (by decide)⟩,?_⟩))⟩)));refine aA (au (SqT.of hp) rfl rfl (au (SqT.of hq) rfl rfl (ae ⟨⟨M bs (by decide),M bs' (by decide)⟩,(ae ?_)⟩)));have k':Q (.int (cz (u*c-a*b) (e*c*c) (f*b*b) s s')) H:=k;dsimp only
  generalize u*c-a*b=D at b1 k' ⊢
  generalize e*c*c=FF at b2 k' ⊢
  generalize f*b*b=SS at b3 k' ⊢
  have bk:Bits 12 (crk FF SS s s'):=by
   unfold crk;split
   ·exact(bs.mul (jN _)).mono
   ·exact(bs.mul ((jN _).sub (jN _))).mono
  have bi:∀(p:Prop) [Decidable p],(if decide p=true then(1:Int)else 0)=bI p:=λp _=>by unfold bI;by_cases h:p<;>simp[h]
  refine dP (λσ' H'=>σ'=[some (.ref p),some (.ref q),some (.int D),some (.int FF),some (.int SS),some (.int (0-s*s')),some (.int (crk FF SS s s'))]/\H=H') ?_ ?_
  case refine_2 =>
   intro rest;refine⟨_,rfl,(ae ⟨_,rfl,aG (λz=>?_) (λz=>?_)⟩)⟩
   ·refine bG (au (SqT.of hp) rfl rfl ⟨_,rfl,_,rfl,(ae (ae (.inr ⟨_,rfl,(ae ⟨⟨M bs (by decide),?_⟩,rest _ _ ⟨?_,rfl⟩⟩)⟩)))⟩)
    ·rw[bi];exact M (jN _) (by decide)
    ·rw[bi];have:crk FF SS s s'=s*bI (0<FF+SS):=if_pos z;rw[this];rfl
   ·refine bG (au (SqT.of hp) rfl rfl ⟨_,rfl,_,rfl,(ae (.inr ⟨_,rfl,_,rfl,_,rfl,(ae (.inr ⟨_,rfl,(ae (ae ⟨⟨M bs (by decide),?_⟩,rest _ _ ⟨?_,rfl⟩⟩))⟩))⟩))⟩)
    ·rw[bi,bi];exact M ((jN _).sub (jN _)) (by decide)
    ·rw[bi,bi];have:crk FF SS s s'=s*(bI (SS<FF)-bI (FF<SS)):=if_neg z;rw[this];rfl
  rintro σ' H' ⟨rfl,rfl⟩;unfold cz at k'
  generalize crk FF SS s s'=kk at bk k' ⊢
  refine aU ⟨_,rfl,_,rfl,(ae ⟨⟨M b1 (by decide),M bk (by decide)⟩,(ae ⟨_,rfl,aG (λz=>?_) (λz=>?_)⟩)⟩)⟩
  ·rw[if_pos z]at k';refine aL ⟨_,rfl,_,rfl,(ae (ae (.inr ⟨_,rfl,_,rfl,_,rfl,(ae (ae (.inr ⟨_,rfl,(ae ?_)⟩)))⟩)))⟩;rw[bi,bi];exact k'
  ·rw[if_neg z]at k';refine aL ⟨_,rfl,_,rfl,_,rfl,(ae ⟨_,rfl,_,rfl,(ae ⟨⟨M b1 (by decide),M b1 (by decide)⟩,(ae ⟨_,rfl,_,rfl,(ae ⟨⟨M b4 (by decide),M b2 (by decide)⟩,_,rfl,(ae ⟨⟨M (b4.mul b2) (by decide),M b3 (by decide)⟩,_,_,_,rfl,?_,(ae ⟨⟨M bk (by decide),?_⟩,k'⟩)⟩)⟩)⟩)⟩)⟩)⟩
   ·exact((b2.add b3).mono (j:=22) (k:=40) (by decide)).sub ((b1.mul b1).mono) |>.mono
   ·refine M (j:=2) ?_ (by decide);unfold psI;show(ite _ _ _:Int).natAbs<4;split
    ·rcases bC (4*FF*SS) (0-(FF+SS-D*D))with⟨y,_⟩ |⟨y,_⟩ |⟨y,_⟩<;>rw[y]<;>decide
    ·rcases bC (4*FF*SS) (FF+SS-D*D)with⟨y,_⟩ |⟨y,_⟩ |⟨y,_⟩<;>rw[y]<;>decide
theorem nE{l:List Int}(h:Fac 11 l):Fac 100000000 l:=by obtain⟨u,e,b,rfl,h1,h2,h3⟩:=h;exact⟨u,e,b,rfl,by omega,by omega,h3⟩
theorem Go{l:List Int}(h:Fac 11 l):FacG l:=by obtain⟨u,e,b,rfl,h1,h2,h3,h4,h5,h6,h7⟩:=h;exact⟨u,e,b,rfl,by omega,by omega,by omega,by omega,by omega,by omega,h7⟩
theorem ip{u e b:Int}(he:0<=e){l:List Int}(hl:l∈spF [u,e,b]):∃s,l=[u,e,b,s]/\(s=1\/s = -1/\0<e):=by
 have hl':l∈(if 0<=e then[[u,e,b,1]]else[])++(if 0<e then[[u,e,b,-1]]else[]):=hl;rw[if_pos he]at hl';rcases L1.mp hl' with h |h
 ·exact⟨1,KP.mp h,.inl rfl⟩
 ·split at h
  ·next z=>exact⟨-1,KP.mp h,.inr ⟨rfl,z⟩⟩
  ·cases h
theorem j3{f l:List Int}(hf:Fac 11 f)(he:0<=cf f 1)(hl:l∈spF f):SpF l:=by obtain⟨u,e,b,rfl,h1,h2,h3,h4,h5,h6,h7⟩:=hf;obtain⟨s,rfl,hs⟩:=ip he hl;exact⟨u,e,b,s,rfl,h1,h2,he,h4,h5,h6,hs,h7⟩
theorem ye{f l:List Int}(hf:Fac 11 f)(he:0<=cf f 1)(hl:l∈spF f){s:Int×Int×Int}{j:Nat}(S:SpG l s j)(hj:8<=j):fA (spF f) l s:=λx hx ne z=>by
 obtain⟨u,e,b,rfl,h1,h2,h3,h4,h5,h6,h7⟩:=hf
 have n8:256<=s.2.2:=by
  rw[S.n];have:(2:Nat)^8<=2^j:=Mf (by decide) hj;have e:((2:Int)^j)=((2^j:Nat):Int):=by rw[Mb];rfl
  rw[e];omega
 have hw:=S.w;have lp:=S.lp;have hn:=S.hn
 have key:0<e->0<=ao [u,e,b,-1] s.1 s.2.2->ao [u,e,b,1] s.2.1 s.2.2<=0->False:=λep a c=>by
  have a':0<=0-aT (e*s.2.2*s.2.2) (0-(b*s.1-u*s.2.2)):=a;have c':aT (e*s.2.2*s.2.2) (b*s.2.1-u*s.2.2)<=0:=c
  have q:s.2.2*s.2.2<=e*s.2.2*s.2.2:=by have:=KT (show(1:Int)<=e by omega) (KN (show 0<=s.2.2 by omega) (show 0<=s.2.2 by omega));rw[K4,<- KQ]at this;exact this
  have r1:s.2.2<=0-(b*s.1-u*s.2.2):=by
   rcases bC (e*s.2.2*s.2.2) (0-(b*s.1-u*s.2.2))with⟨y,_⟩ |⟨y,g,g'⟩ |⟨y,g,g'⟩
   ·omega
   ·exact kO g (by omega)
   ·exact kO g (by omega)
  have r2:s.2.2<=b*s.2.1-u*s.2.2:=by
   rcases bC (e*s.2.2*s.2.2) (b*s.2.1-u*s.2.2)with⟨y,_⟩ |⟨y,g,g'⟩ |⟨y,g,g'⟩
   ·omega
   ·exact kO g (by omega)
   ·exact kO g (by omega)
  rw[hw]at r2;have e1:b*(s.1+128)=b*s.1+b*128:=Int.mul_add _ _ _;omega
 obtain⟨σ,rfl,hs⟩:=ip he hl;obtain⟨τ,rfl,ht⟩:=ip he hx;have lp':0<ao [u,e,b,σ] s.1 s.2.2:=lp;have hn':ao [u,e,b,σ] s.2.1 s.2.2<=0:=hn;have z1:0<=ao [u,e,b,τ] s.1 s.2.2:=z.1;have z2:ao [u,e,b,τ] s.2.1 s.2.2<=0:=z.2;rcases hs with rfl |⟨rfl,ep⟩<;>rcases ht with rfl |⟨rfl,ep'⟩
 ·exact ne rfl
 ·exact key ep' z1 hn'
 ·exact key ep (by omega) z2
 ·exact ne rfl
theorem zC{u v w d l1 l2 h1 h2:Int}(hW:WOk u v w d)(hO:OneS [[u,d*v*v,w]] [u,d*v*v,w] [u,d*v*v,w,ar v] l1 l2 h1 h2):∃ε:Int,Spt [u,d*v*v,w,ar v]/\RootU (aP u v w d) l1 l2 h1 h2 ε (λt n=>0<ao [u,d*v*v,w,ar v] t n)/\∀x1 x2,0<x2->l1*x2<x1*l2->x1*h2<=h1*x2->sg (hv x1 x2 (aP u v w d)) = -ε*ao [u,d*v*v,w,ar v] x1 x2:=by
 have hF:=hO.fam;have hc:=hO.cnt;obtain⟨pre,s,post,e,hin,hno⟩:=yI hc;have es:=hO.only s (by rw[e];simp) hin.1 hin.2;have hsp:Spt s:=fT hF.q (by rw[e];simp);obtain⟨ε,e1,hs⟩:=BK (c:=1) hF.q (by decide) e hO.l2p hO.h2p hO.lt hno;rw[show am [1] (cN [1] ([[u,d*v*v,w]].map aJ))=aP u v w d from hF.one.trans ((wj hF).trans (fG (by have:=hW.d2;omega)).symm)]at hs;rw[<- es];refine⟨ε,hsp,⟨e1,λx1 x2 p a b up=>?_,λx1 x2 p a b up=>?_,λx1 x2 y1 y2 p q a b up lt=>?_,λx1 x2 y1 y2 p q eq up=>?_,hin.1,λz=>?_⟩,hs⟩
 ·have up':0<ao s x1 x2:=up;have:ao s x1 x2=1:=by rcases cV s x1 x2 with z |z |z<;>omega
  rw[hs x1 x2 p a b,this];omega
 ·have up':¬0<ao s x1 x2:=up;rw[hs x1 x2 p a b];rcases cV s x1 x2 with z |z |z
  ·omega
  ·right;rw[z];omega
  ·left;rw[z];omega
 ·have up':¬0<ao s x1 x2:=up
  have ha:l1*y2<y1*l2:=by
   refine ld p ?_;have q1:=Lo a q;have q2:=Lo lt hO.l2p;have e1:l1*y2*x2=l1*x2*y2:=by grind
   have e2:x1*l2*y2=x1*y2*l2:=by grind
   have e3:y1*l2*x2=y1*x2*l2:=by grind
   omega
  rw[hs y1 y2 q ha b,d8 hsp p q lt (Li.mp up')];omega
 ·show 0<ao s y1 y2;rw[<- fU s p q eq];exact up
 ·have z':0<ao s h1 h2:=z;have:=hin.2;omega
theorem GK{s:Int×Int×Int}{k:Nat}(n0:0<s.2.2)(b1:Bits k s.1)(b2:Bits k s.2.1)(b3:Bits k s.2.2)(lt:s.1<s.2.1):EndsG k (rt s.1 s.2.2) (rb s.1 s.2.2) (rt s.2.1 s.2.2) (rb s.2.1 s.2.2):=by
 have ne:s.2.2≠0:=by omega
 have c1:=ii (t:=s.1) ne;have c2:=ii (t:=s.2.1) ne;have p1:=cR (t:=s.1) ne;have p2:=cR (t:=s.2.1) ne;refine⟨p1,p2,ib ne b1,ig ne b3,ib ne b2,ig ne b3,?_,qW ne,qW ne⟩;generalize rt s.1 s.2.2=a at *
 generalize rb s.1 s.2.2=b at *
 generalize rt s.2.1 s.2.2=c at *
 generalize rb s.2.1 s.2.2=d at *
 refine ld n0 ?_;have e1:a*d*s.2.2=a*s.2.2*d:=by grind
 have e2:c*b*s.2.2=c*s.2.2*b:=by grind
 rw[e1,e2,c1,c2];have:=Lo lt (KG p1 p2);have e3:s.1*b*d=s.1*(b*d):=KQ _ _ _;have e4:s.2.1*d*b=s.2.1*(b*d):=by rw[KQ,K8 d b]
 omega
theorem yJ{C CN:Addr}{H:Hp}{o q lo hi:Addr}{f l:List Int}{s:Int×Int×Int}{j:Nat}(hf:Fac 11 f)(he:0<=cf f 1)(hl:l∈spF f)(S:SpG l s j)(hA:fA (spF f) l s)(hj:j<=25)(na:NA CN H o q lo hi)(row:H q=some (.lst ((aJ f).map V.int)))(rl:RA C H lo (rt s.1 s.2.2) (rb s.1 s.2.2))(rh:RA C H hi (rt s.2.1 s.2.2) (rb s.2.1 s.2.2)) :
 ∃u v w d ε:Int,l=[u,d*v*v,w,ar v]/\aJ f=aP u v w d/\CmN C CN H o u v w d (rt s.1 s.2.2) (rb s.1 s.2.2) (rt s.2.1 s.2.2) (rb s.2.1 s.2.2) ε:=by
 obtain⟨u,v,w,d,hW,el⟩:=(j3 hf he hl).worth;have n0:=S.pos;have ne:s.2.2≠0:=by omega
 have hw:=S.w
 have b40:Bits 40 s.1/\Bits 40 s.2.1/\Bits 40 s.2.2:=by
  have h1:s.2.2<=2^25:=by
   rw[S.n];have:(2:Nat)^j<=2^25:=Mf (by decide) hj;have e:((2:Int)^j)=((2^j:Nat):Int):=by rw[Mb];rfl
   rw[e];omega
  have h3:=S.lo;have h4:=S.hi;refine⟨?_,?_,?_⟩
  ·show s.1.natAbs<2^40;omega
  ·show s.2.1.natAbs<2^40;omega
  ·show s.2.2.natAbs<2^40;omega
 have en:=GK n0 b40.1 b40.2.1 b40.2.2 (by omega);have hfg:=Go hf;obtain⟨u',e,b,rfl,h1,h2,h3,h4,h5,h6,h7⟩:=hf;obtain⟨σ,rfl,hs⟩:=ip he hl;have ee:=el;simp only[List.cons.injEq,and_true]at ee;obtain⟨rfl,e1,rfl,e2⟩:=ee;have es:aJ [u',e,b]=aP u' v b d:=by rw[fG (by have:=hW.d2;omega),<- e1];rfl
 have side_l:∀x:List Int,ao x (rt s.1 s.2.2) (rb s.1 s.2.2)=ao x s.1 s.2.2:=λx=>fU x (cR ne) n0 (ii ne)
 have side_h:∀x:List Int,ao x (rt s.2.1 s.2.2) (rb s.2.1 s.2.2)=ao x s.2.1 s.2.2:=λx=>fU x (cR ne) n0 (ii ne)
 have hO:OneS [[u',d*v*v,b]] [u',d*v*v,b] [u',d*v*v,b,ar v] (rt s.1 s.2.2) (rb s.1 s.2.2) (rt s.2.1 s.2.2) (rb s.2.1 s.2.2):=by
  rw[<- e1,<- e2];refine⟨⟨λx hx=>by rw[KP.mp hx];exact hfg,by simp⟩,KP.mpr rfl,hl,en.l2p,en.h2p,en.lt,⟨by rw[side_l];exact S.lp,by rw[side_h];exact S.hn⟩,λx hx a c=>?_⟩;rw[dj]at hx;rw[side_l]at a;rw[side_h]at c;refine Classical.byContradiction λne'=>hA x hx ne' ?_
  obtain⟨τ,rfl,_⟩:=ip he hx;exact⟨KI a,c⟩
 obtain⟨ε,p1,p2,p3⟩:=zC hW hO;refine⟨u',v,b,d,ε,el,es,⟨⟨⟨q,lo,hi,na,by rw[<- es];exact row,rl,rh,en,p2⟩,p1,p3⟩,hO,hW⟩⟩
theorem CC{C CN:Addr}{H:Hp}{x y:Addr}{u v w d a b c d' l1 l2 h1 h2 ε m1 m2 n1 n2 ε':Int}(hX:CmN C CN H x u v w d l1 l2 h1 h2 ε)(hY:CmN C CN H y a b c d' m1 m2 n1 n2 ε'):∃r,gR u v w d a b c d' r:=by
 obtain⟨po,l,h,na,hpo,hl,hh,en,ru⟩:=id hY.ns.nu;have hd:=hX.ok.ns;have hd':=hY.ok.ns;have hw:=hX.ok.w1;have hc:=hY.ok.w1;by_cases h0:ao [u,d*v*v,w,ar v] m1 m2<=0
 ·exact⟨-1,.inl ⟨rfl,m1,m2,en.l2p,h0,hY.one.inn.1⟩⟩
 by_cases h0':0<ao [u,d*v*v,w,ar v] n1 n2
 ·exact⟨1,.inr (.inl ⟨rfl,n1,n2,en.h2p,hY.one.inn.2,h0'⟩)⟩
 have lo:0<ao [u,d*v*v,w,ar v] m1 m2:=Ly.mp h0;have hi:ao [u,d*v*v,w,ar v] n1 n2<=0:=Li.mp h0';obtain⟨η,hη,hr'⟩:=kN hd' hY.one;have lr:=(cY en.l2p en.h2p).mpr en.lt;have lo':0<sdR [u,d*v*v,w,ar v] ((m1:Rat)/(m2:Rat)):=by rw[cn _ en.l2p];exact lo
 have hi':sdR [u,d*v*v,w,ar v] ((n1:Rat)/(n2:Rat))<=0:=by rw[cn _ en.h2p];exact hi
 have ne:=λh0=>wu (q:=aJ [a,d'*b*b,c]) hd hw lr hη lo' hi' hr' h0
 have ze:=λh0=>wt hd hd' hw hc hY.one lo hi h0
 have hcas:=iS (hpA u v w d (aJ [a,d'*b*b,c])).1 (hpA u v w d (aJ [a,d'*b*b,c])).2.1 d;generalize sgq (hpA u v w d (aJ [a,d'*b*b,c])).1 (hpA u v w d (aJ [a,d'*b*b,c])).2.1 d=σ at ne ze hcas
 refine⟨-(η*σ),?_⟩;rcases hη with z |z<;>rw[z]at ne ⊢<;>rcases hcas with y |y |y<;>rw[y]at ne ⊢
 ·exact .inl ⟨by omega,(ne (by decide)).1 (by decide)⟩
 ·exact .inr (.inr ⟨by omega,ze y⟩)
 ·exact .inr (.inl ⟨by omega,(ne (by decide)).2 (by decide)⟩)
 ·exact .inr (.inl ⟨by omega,(ne (by decide)).2 (by decide)⟩)
 ·exact .inr (.inr ⟨by omega,ze y⟩)
 ·exact .inl ⟨by omega,(ne (by decide)).1 (by decide)⟩
theorem rd{C CN:Addr}{H:Hp}{x y:Addr}{u v w d a b c d' l1 l2 h1 h2 ε m1 m2 n1 n2 ε' r:Int}(hX:CmN C CN H x u v w d l1 l2 h1 h2 ε)(hY:CmN C CN H y a b c d' m1 m2 n1 n2 ε')(h:gR u v w d a b c d' r):jr [u,d*v*v,w,ar v] [a,d'*b*b,c,ar b]=r:=by
 rcases h with⟨rfl,lt⟩ |⟨rfl,lt⟩ |⟨rfl,e1,e2,e3⟩
 ·exact rc hX.ns.spt hY.ns.spt lt
 ·exact wv hX.ns.spt hY.ns.spt lt
 ·rw[<- e3];exact wx (by unfold ar;split<;>simp) e1 e2
theorem kd{x:Int}(h:x.natAbs<1024){k:Nat}(hk:10<=k):Bits k x:=Bits.mono (j:=10) h hk
def Hx(H':Hp)(p:Addr)(pl pr po pt:Addr)(ws ws':List Addr)(f f' l l':List Int):Prop:=H' p=some (.lst [.ref pl,.ref pr,.ref po,.ref pt])/\H' pl=some (.tup (l.map V.int))/\H' pr=some (.tup (l'.map V.int))/\H' po=some (.lst (ws.map V.ref))/\H' pt=some (.lst (ws'.map V.ref))/\TuH H' ws (spF f)/\TuH H' ws' (spF f')/\Fac 11 f/\Fac 11 f'/\0<=cf f 1/\0<=cf f' 1/\l∈spF f/\l'∈spF f'
def ud(K:PySem.W.Frag):Sp:=λvs H Q _=>∃(a:Addr) (ns:List Int),vs=[.ref a]/\SqL K H a (ns.map V.int)/\∀(p pl pr po pt:Addr) (ws ws':List Addr) (f f' l l':List Int) (H':Hp),Same H H'->Hx H' p pl pr po pt ws ws' f f' l l'->Q (.ref p) H'
theorem yY{H:Hp}{ws:List Addr}{ls:List (List Int)}(hW:TuH H ws ls)(h0:0<ls.length)(x:Int):∃(q:Addr) (l:List Int),atI (ws.map V.ref) (x%((ws.map V.ref).length:Int))=some (.ref q)/\l∈ls/\H q=some (.tup (l.map V.int)):=by
 have wl:ws.length=ls.length:=hW.1;have wml:(ws.map V.ref).length=ls.length:=by rw[KF,wl]
 obtain⟨i,hi,ei⟩:∃i:Nat,i<ls.length/\x%((ws.map V.ref).length:Int)=(i:Int):=by rw[wml];obtain⟨e1,e2⟩:=dC (x:=x) (m:=(ls.length:Int)) (by omega);exact⟨(x%(ls.length:Int)).toNat,by omega,by rw[Mc e1]⟩
 have hi':i<ws.length:=by omega
 refine⟨ws[i],ls[i],?_,Mr hi,hW.2 i _ _ (List.getElem?_eq_getElem hi') (List.getElem?_eq_getElem hi)⟩;rw[ei];exact gO (by rw[List.getElem?_map,List.getElem?_eq_getElem hi'];rfl)
theorem lZ{f:List Int}(he:0<=cf f 1):0<(spF f).length:=by unfold spF;rw[if_pos he];simp
theorem DL(F:Fun K "_law_two" "_law_two" qe f fd)(T:Txt K mg)(gv:Cal P w K mg base 1 "_law_cell_at" ["_law_script","_law_k"] (iR K) GG Gm)(zt:Cal P w K mg base 1 "_law_real" ["_law_factor"] uu Kg Jk)(zy:Cal P w K mg base 1 "_law_factor_by" ["_law_cell","_law_most"] uM Ks Jw)(zp:Cal P w K mg base 1 "_law_roots_of" ["_law_factors"] ur Ke Ji):FnOk P w K mg base CX0 2 f fd ["_law_script"] (ud K):=by
 refine F.ok fD (λvs H Q E h=>?_) (λcdv A outer s H vs Q E hr h=>?_)
 ·obtain⟨a,ns,rfl,_⟩:=h;rfl
 ·obtain⟨a,ns,rfl,ha,k⟩:=h
  refine⟨_,(af (aj 1 fD (ak gv hr (aa (pv 0) (aa ac ad))))
   (af (aj 2 fD (ak zt hr (aa (ak zy hr (aa (ak gv hr (aa (pv 0) (aa ac ad))) (aa ac ad))) ad)))
   (af (aj 3 fD (ak zt hr (aa (ak zy hr (aa (ak gv hr (aa (pv 0) (aa ac ad))) (aa ac ad))) ad)))
   (af (aM (aE ca (ah bZ (pv 1) ac) ac)
     (ai (aj 3 fD (pv 2)))
     aS)
   (af (aj 4 fD (ak zp hr (aa (bh (aa (pv 2) ad)) ad)))
   (af (aj 5 fD (ak zp hr (aa (bh (aa (pv 3) ad)) ad)))
   (af (aj 6 fD (aN K (pv 4) (ah bZ (ah il (pv 1) ac) (bM K T.len_ (aa (pv 4) ad)))))
   (af (aj 7 fD (aN K (pv 5) (ah bZ (ah il (pv 1) ac) (bM K T.len_ (aa (pv 5) ad)))))
   (af (aM (aE bN (ah bZ (pv 1) ac) ac)
     (ai (aj 7 fD (pv 6)))
     aS)
   (ai (ax (bh (aa (pv 6) (aa (pv 7) (aa (pv 4) (aa (pv 5) ad)))))))))))))))),?_⟩
  refine aA ⟨_,rfl,a,ns,0,rfl,ha,?_⟩;refine aA ⟨_,rfl,a,ns,1,rfl,ha,_,_,rfl,by decide,λp1 f1 hp1 F1=>?_⟩;have u1:=Same.upd_new (o:=.tup (f1.map V.int)) hp1;have e1:upd H p1 (.tup (f1.map V.int)) p1=some (.tup (f1.map V.int)):=ay;generalize upd H p1 (.tup (f1.map V.int))=H1 at u1 e1 ⊢
  refine⟨p1,11,f1,rfl,e1,F1,λq1 g1 H2 u2 i1 G1 c1=>?_⟩;show b8 _ _ _ _ _;have t2:=u1.trans u2;refine aA ⟨_,rfl,a,ns,2,rfl,t2.seq ha,_,_,rfl,by decide,λp2 f2 hp2 F2=>?_⟩;have u3:=Same.upd_new (o:=.tup (f2.map V.int)) hp2;have e3:upd H2 p2 (.tup (f2.map V.int)) p2=some (.tup (f2.map V.int)):=ay;generalize upd H2 p2 (.tup (f2.map V.int))=H3 at u3 e3 ⊢
  refine⟨p2,11,f2,rfl,e3,F2,λq2 g2 H4 u4 i2 G2 c2=>?_⟩;show b8 _ _ _ _ _;have t4:=t2.trans (u3.trans u4);have j1:=(u3.trans u4) _ _ i1;generalize ns.getD 0 0=c0;refine dP (λσ' H'=>∃(q:Addr) (g:List Int),σ'=[some (.ref a),some (.int c0),some (.ref q1),some (.ref q),none,none,none,none]/\Same H H'/\H' q1=some (.tup (g1.map V.int))/\H' q=some (.tup (g.map V.int))/\Fac 11 g/\0<=cf g 1/\(c0%3=1->g=g1)) ?_ ?_
  case refine_2 =>
   intro rest;refine⟨_,rfl,(ae ⟨(by show(0:Int)<3;decide),(ae ⟨_,rfl,aG (λ_=>?_) (λz=>?_)⟩)⟩)⟩
   ·exact bG ⟨_,rfl,rest _ _ ⟨q1,g1,rfl,t4,j1,j1,G1,c1,λ_=>rfl⟩⟩
   ·have z':¬0<c0%3:=z;exact rest _ _ ⟨q2,g2,rfl,t4,j1,i2,G2,c2,λy=>by omega⟩
  rintro σ' H5 ⟨q,g,rfl,t5,j5,jg,Gg,cg,hg⟩;refine aA ⟨_,rfl,by show 1<=sizeLine;decide,λv1 hv1=>?_⟩;have w1:=Same.upd_new (o:=.lst [.ref q1]) hv1;have x1:upd H5 v1 (.lst [.ref q1]) v1=some (.lst ([q1].map V.ref)):=ay;refine⟨v1,[q1],[g1],rfl,x1,TuH.nil.snoc (w1 _ _ j5),λl' h'=>by rw[KP.mp h'];exact nE G1,by show 1<=100;decide,λpo H6 ws w2 hpo eo hW=>?_⟩;have t6:=t5.trans (w1.trans w2);have jg6:=(w1.trans w2) _ _ jg;show b8 _ _ _ [some (.ref a),some (.int c0),some (.ref q1),some (.ref q),some (.ref po),none,none,none] H6;refine aA ⟨_,rfl,by show 1<=sizeLine;decide,λv2 hv2=>?_⟩;have w3:=Same.upd_new (o:=.lst [.ref q]) hv2;have x2:upd H6 v2 (.lst [.ref q]) v2=some (.lst ([q].map V.ref)):=ay;refine⟨v2,[q],[g],rfl,x2,TuH.nil.snoc (w3 _ _ jg6),λl' h'=>by rw[KP.mp h'];exact nE Gg,by show 1<=100;decide,λpt H7 ws' w4 hpt et hW'=>?_⟩;have t7:=t6.trans (w3.trans w4);have eo7:=(w3.trans w4) _ _ eo;have hW7:=hW.same (w3.trans w4);rw[dj]at hW7 hW';show b8 _ _ _ [some (.ref a),some (.int c0),some (.ref q1),some (.ref q),some (.ref po),some (.ref pt),none,none] H7;have lw:(0:Int)<((ws.map V.ref).length:Int):=by rw[KF,hW7.1];have:=lZ c1;omega
  have lw':(0:Int)<((ws'.map V.ref).length:Int):=by rw[KF,hW'.1];have:=lZ cg;omega
  obtain⟨pl,l,ea,hl,hpl⟩:=yY hW7 (lZ c1) (c0/3);obtain⟨pr,l',ea',hl',hpr⟩:=yY hW' (lZ cg) (c0/6);refine aA ⟨_,rfl,_,rfl,(ae ⟨⟨by show(0:Int)<3;decide,kd (by decide) (by decide)⟩,_,rfl,po,_,rfl,.inl (SqL.of eo7),(ae ⟨lw,po,_,_,_,rfl,rfl,SqL.of eo7,ea,?_⟩)⟩)⟩;refine aA ⟨_,rfl,_,rfl,(ae ⟨⟨by show(0:Int)<6;decide,kd (by decide) (by decide)⟩,_,rfl,pt,_,rfl,.inl (SqL.of et),(ae ⟨lw',pt,_,_,_,rfl,rfl,SqL.of et,ea',?_⟩)⟩)⟩;show b8 _ _ _ [some (.ref a),some (.int c0),some (.ref q1),some (.ref q),some (.ref po),some (.ref pt),some (.ref pl),some (.ref pr)] H7;refine dP (λσ' H'=>∃(p:Addr) (m:List Int),σ'=[some (.ref a),some (.int c0),some (.ref q1),some (.ref q),some (.ref po),some (.ref pt),some (.ref pl),some (.ref p)]/\H7=H'/\H7 p=some (.tup (m.map V.int))/\m∈spF g) ?_ ?_
  case refine_2 =>
   intro rest;refine⟨_,rfl,(ae ⟨(by show(0:Int)<3;decide),(ae ⟨_,rfl,aG (λz=>?_) (λz=>?_)⟩)⟩)⟩
   ·have z':c0%3=1:=z;exact bG ⟨_,rfl,rest _ _ ⟨pl,l,rfl,rfl,hpl,by rw[hg z'];exact hl⟩⟩
   ·exact rest _ _ ⟨pr,l',rfl,rfl,hpr,hl'⟩
  rintro σ' H' ⟨p,m,rfl,rfl,hp,hm⟩;refine aL ⟨_,rfl,_,rfl,_,rfl,_,rfl,by show 4<=sizeLine;decide,λr hr'=>?_⟩;have w5:=Same.upd_new (o:=.lst [.ref pl,.ref p,.ref po,.ref pt]) hr';exact k r pl p po pt ws ws' g1 g l m _ (t7.trans w5) ⟨ay,w5 _ _ hpl,w5 _ _ hp,w5 _ _ eo7,w5 _ _ et,hW7.same w5,hW'.same w5,G1,Gg,c1,cg,hl,hm⟩
def ut:Sp:=λvs H Q _=>∃(a b:Addr) (ns:List Int),vs=[.ref a,.ref b]/\H a=some (.lst (ns.map V.int))/\H b=some (.lst (ns.map V.int))/\ns≠[]/\0<cf ns (ns.length-1)/\ns.length<=3/\AllB 48 ns/\∀(p:Addr) (H':Hp),Same H H'->H' p=some (.lst [])->Q (.ref p) H'
theorem sZ{l:List Int}(h:∀n,n<l.length->cf l n=0):trim l=[]:=by
 refine Classical.byContradiction λhr=>?_
 obtain⟨m,em⟩:∃m,(trim l).length=m+1:=⟨(trim l).length-1,by have:=KL.mpr hr;omega⟩;refine fb l m em ?_;rw[fM];by_cases z:m<l.length
 ·exact h m z
 ·exact bV (by omega)
theorem DU(F:Fun K "_law_rest" "_law_rest" qm f fd)(T:Txt K mg)(Ib:Cal P w K mg base 1 "_law_trim" ["_law_row"] (gW K) J9 Jd):FnOk P w K mg base CX0 2 f fd ["_law_kp","_law_kq"] ut:=by
 refine F.ok sc__law_rest (λvs H Q E h=>?_) (λcdv A outer s H vs Q E hr h=>?_)
 ·obtain⟨a,b,ns,rfl,_⟩:=h;rfl
 ·obtain⟨a,b,ns,rfl,hA,hB,hy,mp,hl,bn,k⟩:=h;have big:=sizeLine_eq;have hyl:=KL.mpr hy;have bm:=bn.cf (ns.length-1);have al:atI (ns.map V.int) (-1)=some (.int (cf ns (ns.length-1))):=li hy;generalize cf ns (ns.length-1)=m at mp bm al
  have ab:((m.natAbs:Nat):Int)=m:=by omega
  refine⟨_,(af (aj 2 sc__law_rest (eO (lf (K:=K) rfl) (by rfl) T.list_ PyProof.Rows.boot_list (aa (pv 0) ad)))
   (af (ff PassesOwn.never (aE kE (bM K T.len_ (aa (pv 2) ad)) (bM K T.len_ (aa (pv 1) ad)))
     (af (aj 3 sc__law_rest (ah bB (bM K T.len_ (aa (pv 2) ad)) (bM K T.len_ (aa (pv 1) ad))))
       (af (aj 4 sc__law_rest (aN K (pv 2) (ck ci ac)))
       (af (aM (aE cr (aN K (pv 1) (ck ci ac)) ac)
         (ai (aj 4 sc__law_rest (ah bB ac (pv 4))))
         aS)
       (af (wa (i:=2) sc__law_rest.nd rfl (Or.inl rfl) (own:=["_law_one"]) (fr:=["_law_kq"]) (js:=[1]) (by walk_at "comp_ok") rfl (dQ (K:=K) rfl (pv 2)) (λ_ _ _ _=>(eK (i:=0) (show List.Nodup (["_law_one","_law_kq"]:List Str)from by decide +kernel) rfl (Or.inl rfl))) (λ_ _ _ _=>(ah aD (pv 0) (cQ jL (by rfl) T.abs_ PyProof.Rows.boot_abs (aa (aN K (pv 1) (ck ci ac)) ad)))) (by rfl))
       (af (cj PassesOwn.never rfl (jn rfl T.enumerate_ (aa (pv 1) ad)) (jp rfl (eJ (bH 5 sc__law_rest) (eJ (bH 6 sc__law_rest) jo)))
         (ai (jj (ah bB (aN K (pv 2) (ah bj (pv 3) (pv 5))) (ah aD (pv 4) (pv 6))) (jq (pv 2) (ah bj (pv 3) (pv 5)) iU))))
       (ai (aj 2 sc__law_rest (ak Ib hr (aa (pv 2) ad))))))))))
   (ai (ax (pv 2))))),?_⟩
  refine aA ⟨_,rfl,a,_,rfl,.inl (SqL.of hA),λl0 hl0=>?_⟩;have s0:=Same.upd_new (o:=.lst (ns.map V.int)) hl0;have h0:upd H l0 (.lst (ns.map V.int)) l0=some (.lst (ns.map V.int)):=ay;generalize upd H l0 (.lst (ns.map V.int))=H0 at s0 h0 ⊢
  refine⟨λn σ' H'=>∃(pl:Addr) (z3 z4 z5 z6:Option V),σ'=[some (.ref a),some (.ref b),some (.ref pl),z3,z4,z5,z6]/\Same H H'/\(n=1/\H' pl=some (.lst (ns.map V.int))\/n=0/\H' pl=some (.lst [])),⟨1,l0,none,none,none,none,rfl,s0,.inl ⟨rfl,h0⟩⟩,?_⟩;rintro n σ' H1 ⟨pl,z3,z4,z5,z6,rfl,s1,hn⟩;have hB1:=s1 _ _ hB;rcases hn with⟨rfl,h1⟩ |⟨rfl,h1⟩
  rotate_left
  ·refine⟨_,rfl,pl,_,rfl,.inl (SqL.of h1),_,rfl,b,_,rfl,.inl (SqL.of hB1),(ae ⟨_,rfl,aG (λz=>absurd z ?_) (λ_=>⟨_,rfl,k pl H1 s1 h1⟩)⟩)⟩;show ¬((ns.map V.int).length:Int)<=((0:Nat):Int);rw[KF];omega
  refine⟨_,rfl,pl,_,rfl,.inl (SqL.of h1),_,rfl,b,_,rfl,.inl (SqL.of hB1),(ae ⟨_,rfl,aG (λ_=>?_) (λz=>absurd (K6 _) z)⟩)⟩;refine⟨_,λ_ _ h=>h,?_⟩;refine aA ⟨_,rfl,pl,_,rfl,.inl (SqL.of h1),_,rfl,b,_,rfl,.inl (SqL.of hB1),(ae ?_)⟩;dsimp only
  rw[Int.sub_self];refine aA ⟨_,rfl,_,rfl,pl,_,_,_,rfl,rfl,SqL.of h1,al,?_⟩;refine aU ⟨_,rfl,_,rfl,b,_,_,_,rfl,rfl,SqL.of hB1,al,_,_,rfl,rfl,_,rfl,aG (λz=>absurd z (Li.mpr (KI mp))) (λ_=>?_)⟩;refine⟨_,rfl,pl,rfl,⟨_,SqL.of h1⟩,jH (K:=K) (a:=pl) (xs:=ns.map V.int) (λi ms σ' H'=>∃z0:Option V,σ'=[z0,some (.ref b)]/\ms=(scL m (ns.take i)).map V.int/\H1=H') (by rw[KF];omega) ⟨none,rfl,rfl,rfl⟩ ?_ ?_ ?_⟩
  ·rintro i ms σ' H' _ ⟨z0,rfl,rfl,rfl⟩;exact⟨SqL.of h1,by rw[KF,cP,LG];exact MB _ _⟩
  ·rintro j v ms σ' H' hi ⟨z0,rfl,rfl,rfl⟩;obtain⟨c,_,rfl,hm,et⟩:=fJ hi;refine⟨_,rfl,_,rfl,_,rfl,b,_,_,_,rfl,rfl,SqL.of hB1,al,_,rfl,?_⟩;rw[fO,ab];refine(ae ⟨⟨(bn c hm).mono,bm.mono⟩,_,rfl,?_,rfl⟩);rw[et];unfold scL;rw[Lu,Lu];show _++[V.int (c*_)]=_++[V.int (_*c)];rw[K8]
  rintro ms σ' H' p2 ⟨z0,rfl,rfl,rfl⟩ hp2;rw[KF,LB];have t2:=Same.upd_new (o:=.lst ((scL m ns).map V.int)) hp2;have h22:upd H1 p2 (.lst ((scL m ns).map V.int)) p2=some (.lst ((scL m ns).map V.int)):=ay;generalize upd H1 p2 (.lst ((scL m ns).map V.int))=H2 at t2 h22 ⊢
  have hB2:=t2 _ _ hB1;have nb2:b≠p2:=aX hB1 hp2;refine BN ?_
  refine⟨_,rfl,b,rfl,⟨_,SqL.of hB2⟩,jz (K:=K) (a:=b) (xs:=ns.map V.int) (λj σ' H'=>∃(acc:List Int) (z5 z6:Option V),σ'=[some (.ref a),some (.ref b),some (.ref p2),some (.int 0),some (.int m),z5,z6]/\SameB p2 H2 H'/\H' p2=some (.lst (acc.map V.int))/\acc.length=ns.length/\∀n,n<acc.length->cf acc n=if n<j then 0 else m*cf ns n)
   ⟨_,z5,z6,rfl,SameB.refl _ _,h22,cP _ _,λn _=>by rw[bK,if_neg (Nat.not_lt_zero _)]⟩ ?_ ?_ ?_⟩
  ·rintro j σ' H' _ ⟨acc,z5,z6,rfl,sb,_⟩;exact SqL.of (sb _ _ nb2 hB2)
  ·rintro j v σ' H' q' hj ⟨acc,z5,z6,rfl,sb,hpa,hal,hac⟩ hq
   have hjl:j<ns.length:=by have:=(List.getElem?_eq_some_iff.mp hj).1;rw[KF]at this;exact this
   rw[List.getElem?_map,fm hjl]at hj;obtain rfl:=Option.some.inj hj;refine⟨q',_,rfl,SqT.of ay,rfl,_,_,rfl,_,_,rfl,rfl,?_⟩;have nqp:p2≠q':=aX hpa hq;have hpa':upd H' q' (.tup [.int j,.int (cf ns j)]) p2=some (.lst (acc.map V.int)):=by rw[upd_ne nqp];exact hpa
   have hpi:j<acc.length:=hal ▸ hjl;have epi:(0:Int)+((j:Nat):Int)=((j:Nat):Int):=Lw _;refine⟨_,rfl,_,rfl,_,rfl,(ae ⟨p2,_,_,_,rfl,rfl,SqL.of hpa',lg epi hpi,_,rfl,_,rfl,(ae ⟨⟨bm.mono,(bn.cf j).mono⟩,(ae ⟨_,rfl,_,rfl,_,rfl,(ae ⟨p2,_,_,j,rfl,rfl,hpa',jv epi (by rw[KF];exact hpi),?_⟩)⟩)⟩)⟩)⟩;refine⟨acc.set j (cf acc j-m*cf ns j),_,_,rfl,(sb.then_new hq).then_upd,by rw[ay,kL],by rw[LW];exact hal,λn hn=>?_⟩;rw[LW]at hn;rw[nO hpi];by_cases e:n=j
   ·subst e;rw[if_pos rfl,hac _ hpi,if_neg (LJ _),if_pos (LK _),Int.sub_self]
   ·rw[if_neg e,hac n hn];by_cases h2:n<j
    ·rw[if_pos h2,if_pos (Nat.lt_succ_of_lt h2)]
    ·rw[if_neg h2,if_neg (λy=>h2 (Nat.lt_of_le_of_ne (Nat.le_of_lt_succ y) e))]
  rintro σ' H3 ⟨acc,z5,z6,rfl,sb,hpa,hal,hac⟩;rw[KF]at hac;have s3:Same H H3:=λb' o e=>sb b' o (aX (s1 b' o e) hp2) (t2 b' o (s1 b' o e))
  dsimp only
  refine bG ⟨_,rfl,p2,acc,rfl,SqL.of hpa,λp4 H4 sm4 hp4 e4=>?_⟩;rw[sZ λn hn=>by rw[hac n hn,if_pos (hal ▸ hn)]]at e4;exact⟨0,Nat.zero_lt_one,p4,_,_,_,_,rfl,s3.trans sm4,.inr ⟨rfl,e4⟩⟩
theorem CmN.span{C CN:Addr}{H:Hp}{x:Addr}{u v w d l1 l2 h1 h2 ε:Int}(n:CmN C CN H x u v w d l1 l2 h1 h2 ε):0<l2/\0<h2:=⟨n.one.l2p,n.one.h2p⟩
theorem r8{C CN:Addr}{H:Hp}{x:Addr}{u v w d l1 l2 h1 h2 ε x1 x2 y1 y2:Int}(n:CmN C CN H x u v w d l1 l2 h1 h2 ε)(x2p:0<x2)(y2p:0<y2)(lo:l1*x2<=x1*l2)(hi:y1*h2<=h1*y2)(lt:x1*y2<y1*x2) :
 Chg (aP u v w d) x1 x2 y1 y2↔0<ao [u,d*v*v,w,ar v] x1 x2/\ao [u,d*v*v,w,ar v] y1 y2<=0:=by
 obtain⟨η,hη,hr⟩:=kN n.ok.ns n.one;obtain⟨l2p,h2p⟩:=n.span;have le:∀{a b c d:Int},0<b->0<d->a*d<=c*b->(a:Rat)/(b:Rat)<=(c:Rat)/(d:Rat):=λ{a b c d} hb hd h=>Lf.mp λz=>by have:=(cY hd hb).mp z;omega
 have hxy:=KK ((cY x2p y2p).mpr lt);have a1:=le l2p x2p lo;have a2:=le y2p h2p hi;have k1:=hr _ a1 (Rat.le_trans hxy a2);have k2:=hr _ (Rat.le_trans a1 hxy) a2;rw[cn _ x2p,<- gB x2p]at k1;rw[cn _ y2p,<- gB y2p]at k2;have eL:aP u v w d=aJ [u,d*v*v,w]:=fG (by have:=n.ok.d2;omega);unfold Chg;rw[eL,k1,k2];have dn:=λz=>d8 n.ns.spt x2p y2p lt z
 have c1:=cV [u,d*v*v,w,ar v] x1 x2;have c2:=cV [u,d*v*v,w,ar v] y1 y2;generalize ao [u,d*v*v,w,ar v] x1 x2=p at *
 generalize ao [u,d*v*v,w,ar v] y1 y2=q at *
 rcases hη with rfl |rfl<;>rcases c1 with rfl |rfl |rfl<;>rcases c2 with rfl |rfl |rfl<;>first | (have:=dn (by decide);omega) | (refine⟨λz=>?_,λz=>⟨lt,?_,?_⟩⟩<;>first |omega |exact⟨by decide,by decide⟩)
theorem Spn.chg{C CN:Addr}{H H':Hp}{x:Addr}{u v w d l1 l2 h1 h2 ε x1 x2 y1 y2:Int}{o z:Addr}(n:CmN C CN H x u v w d l1 l2 h1 h2 ε)(s:Spn C H' l1 l2 h1 h2 [u,d*v*v,w,ar v] o z x1 x2 y1 y2):Chg (aP u v w d) x1 x2 y1 y2:=(r8 n s.en.l2p s.en.h2p s.lo s.hi s.en.lt).mpr ⟨s.ux,s.uy⟩
def uw(C CN:Addr):Sp:=λvs H Q _=>∃(p x y:Addr) (u v w d a b c d' l1 l2 h1 h2 ε m1 m2 n1 n2 ε' r:Int),vs=[.ref p,.ref x,.ref y,.int r]/\CmN C CN H x u v w d l1 l2 h1 h2 ε/\CmN C CN H y a b c d' m1 m2 n1 n2 ε'/\(r=0->aP u v w d=aP a b c d')/\OPap C H p (aP u v w d) [u,d*v*v,w,ar v] [a,d'*b*b,c,ar b] l1 l2 h1 h2 m1 m2 n1 n2 r/\∀H',Same H H'->Q (.bl true) H'
theorem Spn.rat{C:Addr}{H:Hp}{l1 l2 h1 h2:Int}{s:List Int}{o y:Addr}{x1 x2 y1 y2:Int}(h:Spn C H l1 l2 h1 h2 s o y x1 x2 y1 y2):(∃t b:Int,RA C H o t b/\0<b/\Nat.gcd t.natAbs b.natAbs=1)/\(∃t b:Int,RA C H y t b/\0<b/\Nat.gcd t.natAbs b.natAbs=1):=⟨⟨_,_,h.ho,h.en.l2p,h.en.gl⟩,⟨_,_,h.hy,h.en.h2p,h.en.gh⟩⟩
theorem M6{k:Nat}{x:Int}(h:Bits k x)(hk:k<=500):Bits 1000000 x:=h.mono (by omega)
theorem m8{C CN:Addr}{H:Hp}{x o z:Addr}{u v w d l1 l2 h1 h2 ε x1 x2 y1 y2:Int}{s:List Int}{Q:VK}{E:XK}(hX:CmN C CN H x u v w d l1 l2 h1 h2 ε)(sp:Spn C H l1 l2 h1 h2 s o z x1 x2 y1 y2)(k:Q (.bl true) H):gZ C CN [.ref o,.ref z,.ref x] H Q E:=by
 obtain⟨q,l,h,na,row,rl,rh,en,ru⟩:=id hX.ns.nu;refine⟨o,z,x,q,l,h,x1,x2,y1,y2,l1,l2,h1,h2,rfl,sp.ho,sp.hy,na,rl,rh,?_,sp.lo,sp.hi,k⟩;intro c hc;have e:=sp.en;simp only[KS,LV,or_false]at hc;rcases hc with rfl |rfl |rfl |rfl |rfl |rfl |rfl |rfl
 ·exact M6 e.bl1 (by decide)
 ·exact M6 e.bl2 (by decide)
 ·exact M6 e.bh1 (by decide)
 ·exact M6 e.bh2 (by decide)
 ·exact M6 en.bl1 (by decide)
 ·exact M6 en.bl2 (by decide)
 ·exact M6 en.bh1 (by decide)
 ·exact M6 en.bh2 (by decide)
theorem r9{C:Addr}{H:Hp}{a o z:Addr}{ns s:List Int}{l1 l2 h1 h2 x1 x2 y1 y2:Int}{Q:VK}{E:XK}(ha:H a=some (.lst (ns.map V.int)))(nl:ns.length<=3)(nb:AllB 48 ns)(sp:Spn C H l1 l2 h1 h2 s o z x1 x2 y1 y2)(hc:Chg ns x1 x2 y1 y2)(k:Q (.bl true) H):iQ C [.ref a,.ref o,.ref z] H Q E :=
 ⟨a,o,z,ns,x1,x2,y1,y2,rfl,ha,by omega,nb.mono,sp.ho,sp.hy,sp.en.mono,hc,k⟩
theorem DX(F:Fun K "_law_paper_right" "_law_paper_right" qr f fd)(T:Txt K mg)(R:RCI K mg C)(RN:NCI K mg CN)(Ik:Cal P w K mg base 2 "_law_is_ratio" ["_law_found"] (uI C) Kq Ju)(Il:Cal P w K mg base 2 "_law_is_poly" ["_law_found"] uJ Kr Jv)(zq:Cal P w K mg base 2 "_law_rest" ["_law_kp","_law_kq"] ut Kf Jj)(n5:Cal P w K mg base 2 "_law_lies_in" ["_law_low","_law_high","_law_n"] (gZ C CN) Kp Jt)(sQ:Cal P w K mg base 2 "_law_changes_on" ["_law_kp","_law_low","_law_high"] (iQ C) Kt Jx)(iI:Cal P w K mg base 1 "_law_less" ["_law_r","_law_s"] (lV C) yj yb):FnOk P w K mg base CX0 3 f fd ["_law_paper","_law_a","_law_b","_law_due"] (uw C CN):=by
 refine F.ok oU (λvs H Q E h=>?_) (λcdv A outer s H vs Q E hr h=>?_)
 ·obtain⟨p,x,y,u,v,w,d,a,b,c,d',l1,l2,h1,h2,ε,m1,m2,n1,n2,ε',r,rfl,_⟩:=h;rfl
 ·obtain⟨p,x,y,u,v,w,d,a,b,c,d',l1,l2,h1,h2,ε,m1,m2,n1,n2,ε',r,rfl,hX,hY,hsame,hP,k⟩:=h;obtain⟨pP,p2,p3,pb⟩:=fk hX.ok;obtain⟨qP,q2,q3,qb⟩:=fk hY.ok
  refine⟨_,(af (aM (PW.pt (du (cF (cw (cQ (jK (K:=K) rfl) (by rfl) T.isinstance_ PyProof.Rows.boot_isinstance (aa (pv 0) (aa (kD (v:=.ty "tuple") (by rfl) T.tuple_ PyProof.Rows.boot_tuple (by rfl)) ad))))) (fe (aE ga (bM K T.len_ (aa (pv 0) ad)) (aN K (bh (aa ac (aa ac (aa ac ad)))) (ah bj (pv 3) ac))))))
   (ai (ax cq))
   aS)
   (af (aM (aE wC (aq K (pv 0) ac) (aN K (bh (aa cO (aa cO (aa cO ad)))) (ah bj (pv 3) ac)))
     (ai (ax cq))
     aS)
   (af (cj PassesOwn.never rfl (wm (K:=K) rfl (kz (AB (K:=K) rfl) (pv 0) (kx (ah bj ac (eO iD (by rfl) T.int_ PyProof.Rows.boot_int (aa (bR bN (pv 3) ac) ad)))) ky)) (bH 4 oU)
     (ai (aM (cF (cw (ak Ik hr (aa (pv 4) ad))))
       (ai (ax cq))
       aS)))
   (af (aM (aE bN (pv 3) ac)
     (af (aj 5 oU (aq K (pv 0) ac))
       (af (aM (PW.pt (du (cF (cw (ak Il hr (aa (pv 5) ad)))) (du (aE cr (bM K T.len_ (aa (pv 5) ad)) ac) (du (aE ca (bM K T.len_ (aa (ak zq hr (aa (aH (K:=K) rfl (pv 1) rfl) (aa (pv 5) ad))) ad)) ac) (fe (aE ca (bM K T.len_ (aa (ak zq hr (aa (aH (K:=K) rfl (pv 2) rfl) (aa (pv 5) ad))) ad)) ac))))))
         (ai (ax cq))
         aS)
       (af (aM (PW.pt (du (cF (cw (ak n5 hr (aa (aq K (pv 0) ac) (aa (aq K (pv 0) ac) (aa (pv 1) ad)))))) (fe (cF (cw (ak n5 hr (aa (aq K (pv 0) ac) (aa (aq K (pv 0) ac) (aa (pv 2) ad)))))))))
         (ai (ax cq))
         aS)
       (ai (ax (ak sQ hr (aa (pv 5) (aa (aq K (pv 0) ac) (aa (aq K (pv 0) ac) ad)))))))))
     aS)
   (af (aM (PW.pt (du (cF (cw (ak n5 hr (aa (aq K (pv 0) ac) (aa (aq K (pv 0) ac) (aa (pv 1) ad)))))) (fe (cF (cw (ak sQ hr (aa (aH (K:=K) rfl (pv 1) rfl) (aa (aq K (pv 0) ac) (aa (aq K (pv 0) ac) ad)))))))))
     (ai (ax cq))
     aS)
   (af (aM (PW.pt (du (cF (cw (ak n5 hr (aa (aq K (pv 0) ac) (aa (aq K (pv 0) ac) (aa (pv 2) ad)))))) (fe (cF (cw (ak sQ hr (aa (aH (K:=K) rfl (pv 2) rfl) (aa (aq K (pv 0) ac) (aa (aq K (pv 0) ac) ad)))))))))
     (ai (ax cq))
     aS)
   (af (aM (aE cr (pv 3) ac)
     (ai (ax (kC (ak iI hr (aa (aq K (pv 0) ac) (aa (aq K (pv 0) ac) ad))))))
     aS)
   (ai (ax (kC (ak iI hr (aa (aq K (pv 0) ac) (aa (aq K (pv 0) ac) ad))))))))))))),?_⟩
  have ok:∀{o z:Addr} {l1 l2 h1 h2 x1 x2 y1 y2:Int} {s:List Int},Spn C H l1 l2 h1 h2 s o z x1 x2 y1 y2->∀v,v=V.ref o\/v=V.ref z->∃(av:Addr) (t b:Int),v=.ref av/\RA C H av t b/\0<b/\Nat.gcd t.natAbs b.natAbs=1:=λ{o z l1 l2 h1 h2 x1 x2 y1 y2 s} sp v hv=>by
   obtain⟨⟨t,b,h⟩,⟨t',b',h'⟩⟩:=sp.rat;rcases hv with rfl |rfl
   ·exact⟨o,t,b,rfl,h⟩
   ·exact⟨z,t',b',rfl,h'⟩
  obtain⟨wd,xs,its,n,hp,hlen,an,aw,hcut,hsl,hits⟩:∃(wd:Str) (xs its:List V) (n:Int),H p=some (.tup (.str wd::xs))/\((V.str wd::xs).length:Int)=n/\atI [V.int 5,V.int 4,V.int 5] (r+1)=some (.int n)/\atI [V.str "under",V.str "alike",V.str "over"] (r+1)=some (.str wd)/\dY (V.str wd::xs) (some (1+if decide (r=0)=true then 1 else 0)) none=its /\
   ¬(HT.sIx (V.str wd::xs).length 0 (some (1+if decide (r=0)=true then 1 else 0))=0/\HT.sIx (V.str wd::xs).length (V.str wd::xs).length none=(V.str wd::xs).length)/\∀v∈its,∃(av:Addr) (t b:Int),v=.ref av/\RA C H av t b/\0<b/\Nat.gcd t.natAbs b.natAbs=1:=by
   rcases hP with⟨er,g,o,z,x1,x2,y1,y2,hp,hg,sp,sp'⟩ |⟨er,o,z,o',z',x1,x2,y1,y2,p1,p2,q1,q2,hp,sp,sp',le⟩ |⟨er,o,z,o',z',x1,x2,y1,y2,p1,p2,q1,q2,hp,sp,sp',le⟩<;>subst er
   ·refine⟨_,_,_,_,hp,rfl,rfl,rfl,rfl,λh=>absurd (show(2:Nat)=0 from h.1) (by decide),λv hm=>?_⟩;have hm':v∈[V.ref o,V.ref z]:=hm;simp only[KS,LV,or_false]at hm';exact ok sp v hm'
   all_goals
    refine⟨_,_,_,_,hp,rfl,rfl,rfl,rfl,λh=>absurd (show(1:Nat)=0 from h.1) (by decide),λv hm=>?_⟩;have hm':v∈[V.ref o,V.ref z,V.ref o',V.ref z']:=hm;simp only[KS,LV,or_false]at hm';rcases hm' with e |e |e |e
    ·exact ok sp v (.inl e)
    ·exact ok sp v (.inr e)
    ·exact ok sp' v (.inl e)
    ·exact ok sp' v (.inr e)
  refine aU (dM (cI (mJ (jd ⟨_,rfl,kP (.tup hp) (k:=true) (by rfl) ⟨_,rfl,bU ?_⟩⟩))));refine⟨_,rfl,p,_,rfl,.inr (SqT.of hp),by show 3<=sizeLine;decide,λa1 f1=>?_⟩;have s1:=Same.upd_new (o:=.lst [.int 5,.int 4,.int 5]) f1;have e1:upd H a1 (.lst [.int 5,.int 4,.int 5]) a1=some (.lst [.int 5,.int 4,.int 5]):=ay;generalize upd H a1 (.lst [.int 5,.int 4,.int 5])=H1 at s1 e1 ⊢
  refine⟨_,rfl,(ae ⟨a1,_,_,_,rfl,rfl,SqL.of e1,an,_,_,rfl,rfl,_,rfl,cX (λy=>absurd hlen y) (λ_=>?_)⟩)⟩;have hp1:=s1 _ _ hp;have a0:atI (V.str wd::xs) 0=some (.str wd):=gO (j:=0) rfl;refine aU (au (SqT.of hp1) a0 rfl ⟨by show 3<=sizeLine;decide,λa2 f2=>?_⟩);refine⟨_,rfl,(ae ⟨a2,_,_,_,rfl,rfl,SqL.of ay,aw,rfl,_,rfl,cX (λy=>absurd rfl y) (λ_=>?_)⟩)⟩;refine dN (λσ' H'=>σ'=[some (.ref p),some (.ref x),some (.ref y),some (.int r),none,none]/\Same H H') ⟨rfl,s1.then_new f2⟩ ?_;rintro σ' H2 ⟨rfl,s2⟩;have hp2:=s2 _ _ hp;refine⟨_,rfl,_,rfl,(ae (.inr ⟨_,rfl,(ae ⟨_,rfl,p,_,rfl,SqT.of hp2,hsl,λps fs=>?_⟩)⟩))⟩;refine⟨ps,rfl,⟨_,SqT.of ay⟩,FW (K:=K) (a:=ps) (xs:=its) (λi σ' H'=>∃z4:Option V,σ'=[some (.ref p),some (.ref x),some (.ref y),some (.int r),z4,none]/\Same H H'/\H' ps=some (.tup its)) ⟨none,rfl,s2.then_new fs,by rw[ay];exact congrArg (λl=>some (HO.tup l)) hcut⟩ ?_ ?_ ?_⟩
  ·rintro i σ' H' _ ⟨z4,rfl,_,e3⟩;exact SqT.of e3
  ·rintro i xv σ' H' hi ⟨z4,rfl,s3,e3⟩;obtain⟨av,t,bb,rfl,hR,b0,gc⟩:=hits xv (List.mem_of_getElem? hi);exact fW (cI ⟨_,rfl,av,t,bb,rfl,hR.same s3,b0,gc,_,rfl,bU ⟨_,rfl,s3,e3⟩⟩)
  rintro σ' H3 ⟨z4,rfl,s3,_⟩;clear hits hsl hcut an aw hlen hp hp1 hp2 e1 s1 s2 fs f1 f2;rcases hP with⟨er,g,o,z,x1,x2,y1,y2,hp,hg,sp,sp'⟩ |hP
  ·subst er;have hp3:=s3 _ _ hp;have hg3:=s3 _ _ hg;dsimp only
   refine aU ⟨_,rfl,(ae ⟨_,rfl,aG (λ_=>?_) (λz=>absurd rfl z)⟩)⟩;refine aA (au (SqT.of hp3) rfl rfl ?_);refine aU (dM (cI ⟨_,rfl,g,_,rfl,hg3,pP.tr,_,rfl,bU ?_⟩));refine dM ⟨_,rfl,g,_,rfl,.inl (SqL.of hg3),(ae ⟨_,rfl,aG (λz=>absurd z ?_) (λ_=>?_)⟩)⟩
   ·show ¬(((aP u v w d).map V.int).length:Int)<2;rw[KF];omega
   have hX3:=hX.same s3;obtain⟨q,l,h,⟨dx,hx⟩,row,rl,rh,en,ru⟩:=id hX3.ns.nu;have lp:0<cf (aP u v w d) ((aP u v w d).length-1):=pP.pos;refine dM ⟨_,rfl,x,CN,dx,_,_,rfl,hx,RN.cl,RN.nP,c9 _ _ _,_,rfl,q,g,_,rfl,row,hg3,pP.ne,lp,p3,pb,λpr H4 s4 er=>?_⟩;refine⟨pr,_,rfl,.inl (SqL.of er),(ae ⟨_,rfl,aG (λz=>absurd z (by show ¬((0:Nat):Int)>0;decide)) (λ_=>?_)⟩)⟩;have t4:=s3.trans s4;have hY4:=hY.same t4;have hg4:=s4 _ _ hg3;have es:=hsame rfl;obtain⟨q',l',h',⟨dy,hy⟩,row',rl',rh',en',ru'⟩:=id hY4.ns.nu;rw[<- es]at row';refine⟨_,rfl,y,CN,dy,_,_,rfl,hy,RN.cl,RN.nP,c9 _ _ _,_,rfl,q',g,_,rfl,row',hg4,pP.ne,lp,p3,pb,λpr H5 s5 er=>?_⟩;refine⟨pr,_,rfl,.inl (SqL.of er),(ae ⟨_,rfl,aG (λz=>absurd z (by show ¬((0:Nat):Int)>0;decide)) (λ_=>?_)⟩)⟩;have t5:=t4.trans s5;have hp5:=t5 _ _ hp;have hg5:=t5 _ _ hg;refine aU (dM (cI (au (SqT.of hp5) rfl rfl (au (SqT.of hp5) rfl rfl ⟨_,rfl,cJ ?_⟩))));change gZ C CN [.ref o,.ref z,.ref x] H5 _ _;refine m8 (hX.same t5) (sp.same t5) ⟨_,rfl,bU ?_⟩;refine cI (au (SqT.of hp5) rfl rfl (au (SqT.of hp5) rfl rfl ⟨_,rfl,cJ ?_⟩));change gZ C CN [.ref o,.ref z,.ref y] H5 _ _;refine m8 (hY.same t5) (sp'.same t5) ⟨_,rfl,bU ?_⟩;refine aL ⟨_,rfl,(au (SqT.of hp5) rfl rfl (au (SqT.of hp5) rfl rfl (cJ ?_)))⟩;change iQ C [.ref g,.ref o,.ref z] H5 _ _;exact r9 hg5 p3 pb (sp.same t5) (sp.chg hX) (k H5 t5)
  ·obtain⟨wd,o,z,o',z',x1,x2,y1,y2,p1,p2',q1,q2',hp,sp,sp',hw⟩:∃(wd:Str) (o z o' z':Addr) (x1 x2 y1 y2 p1 p2 q1 q2:Int),H p=some (.tup [.str wd,.ref o,.ref z,.ref o',.ref z'])/\Spn C H l1 l2 h1 h2 [u,d*v*v,w,ar v] o z x1 x2 y1 y2/\Spn C H m1 m2 n1 n2 [a,d'*b*b,c,ar b] o' z' p1 p2 q1 q2/\(r = -1/\wd="under"/\y1*p2<=p1*y2\/r=1/\wd="over"/\q1*x2<=x1*q2):=by
    rcases hP with⟨er,o,z,o',z',x1,x2,y1,y2,p1,p2,q1,q2,hp,sp,sp',le⟩ |⟨er,o,z,o',z',x1,x2,y1,y2,p1,p2,q1,q2,hp,sp,sp',le⟩
    ·exact⟨_,o,z,o',z',x1,x2,y1,y2,p1,p2,q1,q2,hp,sp,sp',.inl ⟨er,rfl,le⟩⟩
    ·exact⟨_,o,z,o',z',x1,x2,y1,y2,p1,p2,q1,q2,hp,sp,sp',.inr ⟨er,rfl,le⟩⟩
   have r0:r≠0:=by rcases hw with⟨h,_⟩ |⟨h,_⟩<;>omega
   have hp3:=s3 _ _ hp;dsimp only
   refine aU ⟨_,rfl,(ae ⟨_,rfl,aG (λz=>absurd z r0) (λ_=>?_)⟩)⟩;have hX3:=hX.same s3;have hY3:=hY.same s3;have sp3:=sp.same s3;have sp3':=sp'.same s3;obtain⟨q,l,h,⟨dx,hx⟩,row,rl,rh,en,ru⟩:=id hX3.ns.nu;obtain⟨q',l',h',⟨dy,hy⟩,row',rl',rh',en',ru'⟩:=id hY3.ns.nu;refine aU (dM (cI (au (SqT.of hp3) rfl rfl (au (SqT.of hp3) rfl rfl ⟨_,rfl,cJ ?_⟩))));change gZ C CN [.ref o,.ref z,.ref x] H3 _ _;refine m8 hX3 sp3 ⟨_,rfl,bU ?_⟩;refine cI ⟨_,rfl,x,CN,dx,_,_,rfl,hx,RN.cl,RN.nP,c9 _ _ _,(au (SqT.of hp3) rfl rfl (au (SqT.of hp3) rfl rfl (cJ ?_)))⟩;change iQ C [.ref q,.ref o,.ref z] H3 _ _;refine r9 row p3 pb sp3 (sp.chg hX) ⟨_,rfl,bU ?_⟩;refine aU (dM (cI (au (SqT.of hp3) rfl rfl (au (SqT.of hp3) rfl rfl ⟨_,rfl,cJ ?_⟩))));change gZ C CN [.ref o',.ref z',.ref y] H3 _ _;refine m8 hY3 sp3' ⟨_,rfl,bU ?_⟩;refine cI ⟨_,rfl,y,CN,dy,_,_,rfl,hy,RN.cl,RN.nP,c9 _ _ _,(au (SqT.of hp3) rfl rfl (au (SqT.of hp3) rfl rfl (cJ ?_)))⟩;change iQ C [.ref q',.ref o',.ref z'] H3 _ _;refine r9 row' q3 qb sp3' (sp'.chg hY) ⟨_,rfl,bU ?_⟩;have e:=sp.en;have e':=sp'.en;refine aU ⟨_,rfl,(ae ⟨_,rfl,aG (λz=>?_) (λz=>?_)⟩)⟩
   ·have z':r<0:=z;have le:y1*p2'<=p1*y2:=by rcases hw with⟨_,_,h⟩ |⟨h,_⟩;exact h;omega
    refine aL (ko (au (SqT.of hp3) rfl rfl (au (SqT.of hp3) rfl rfl ⟨_,_,p1,p2',y1,y2,rfl,sp3'.ho,sp3.hy,M6 e'.bl1 (by decide),M6 e'.bl2 (by decide),M6 e.bh1 (by decide),M6 e.bh2 (by decide),_,rfl,?_⟩)));rw[decide_eq_false (show ¬p1*y2<y1*p2' by omega)];exact k H3 s3
   ·have z':¬r<0:=z;have le:q1*x2<=x1*q2':=by rcases hw with⟨h,_⟩ |⟨_,_,h⟩;omega;exact h
    refine aL (ko (au (SqT.of hp3) rfl rfl (au (SqT.of hp3) rfl rfl ⟨_,_,x1,x2,q1,q2',rfl,sp3.ho,sp3'.hy,M6 e.bl1 (by decide),M6 e.bl2 (by decide),M6 e'.bh1 (by decide),M6 e'.bh2 (by decide),_,rfl,?_⟩)));rw[decide_eq_false (show ¬x1*q2'<q1*x2 by omega)];exact k H3 s3
noncomputable def cE(l:List Int)(s t:Int×Int×Int)(way:Int):Int×Int×Int:=if way=1 then(t.1*s.2.2-s.2.2*t.2.2,s.2.1*t.2.2,s.2.2*t.2.2)else if way=2 then(s.1*t.2.2,t.2.1*s.2.2+s.2.2*t.2.2,s.2.2*t.2.2)else if way=3 then(s.2.1,s.2.1,s.2.2)else ofG l s
def ow:Sp:=λvs H Q _=>∃(t p tw:Addr) (l:List Int) (s s':Int×Int×Int) (j:Nat) (way:Int),vs=[.ref t,.ref p,.ref tw,.int way]/\ST H t s/\ST H tw s'/\H p=some (.tup (l.map V.int))/\SpK l/\SpG l s j/\j<=300/\Bits 310 s'.1/\Bits 310 s'.2.1/\Bits 310 s'.2.2/\∀(t':Addr) (H':Hp),Same H H'->H t'=none->ST H' t' (cE l s s' way)->Q (.ref t') H'
theorem DO(F:Fun K "_law_spoilt_span" "_law_spoilt_span" qh f fd)(T:Txt K mg)(Ii:Cal P w K mg base 4 "_law_off" ["_law_span_here","_law_spot"] uC Kl Jp):FnOk P w K mg base CX0 5 f fd ["_law_span_here","_law_spot","_law_wide","_law_way_here"] ow:=by
 refine F.ok Bl (λvs H Q E h=>?_) (λcdv A outer s H vs Q E hr h=>?_)
 ·obtain⟨t,p,tw,l,s,s',j,way,rfl,_⟩:=h;rfl
 ·obtain⟨t,p,tw,l,sp,sw,j,way,rfl,ht,htw,hp,hl,S,hj,c1,c2,c3,k⟩:=h;obtain⟨b1,b2,b3⟩:=cU S hj;have M:∀{x:Int},Bits 310 x->Bits 1000000 x:=λh=>h.mono
  refine⟨_,(af (aM (aE bN (pv 3) ac)
   (ai (ax (bJ (aa (ah bB (ah aD (aq K (pv 2) ac) (aq K (pv 0) ac)) (ah aD (aq K (pv 0) ac) (aq K (pv 2) ac))) (aa (ah aD (aq K (pv 0) ac) (aq K (pv 2) ac)) (aa (ah aD (aq K (pv 0) ac) (aq K (pv 2) ac)) ad))))))
   aS)
   (af (aM (aE bN (pv 3) ac)
     (ai (ax (bJ (aa (ah aD (aq K (pv 0) ac) (aq K (pv 2) ac)) (aa (ah bj (ah aD (aq K (pv 2) ac) (aq K (pv 0) ac)) (ah aD (aq K (pv 0) ac) (aq K (pv 2) ac))) (aa (ah aD (aq K (pv 0) ac) (aq K (pv 2) ac)) ad))))))
     aS)
   (af (aM (aE bN (pv 3) ac)
     (ai (ax (bJ (aa (aq K (pv 0) ac) (aa (aq K (pv 0) ac) (aa (aq K (pv 0) ac) ad))))))
     aS)
   (ai (ax (ak Ii hr (aa (pv 0) (aa (pv 1) ad)))))))),?_⟩
  unfold cE at k
  refine aU ⟨_,rfl,(ae ⟨_,rfl,aG (λz=>?_) (λz1=>?_)⟩)⟩
  ·rw[if_pos z]at k;refine aL (au (SqT.of htw) rfl rfl (au (SqT.of ht) rfl rfl (ae ⟨⟨M c1,M b3⟩,(au (SqT.of ht) rfl rfl (au (SqT.of htw) rfl rfl (ae ⟨⟨M b3,M c3⟩,(ae ?_)⟩)))⟩)));refine(au (SqT.of ht) rfl rfl (au (SqT.of htw) rfl rfl (ae ⟨⟨M b2,M c3⟩,(au (SqT.of ht) rfl rfl (au (SqT.of htw) rfl rfl (ae ⟨⟨M b3,M c3⟩,by show 3<=sizeLine;decide,λt' ht'=>k t' _ (Same.upd_new ht') ht' ay⟩)))⟩)))
  rw[if_neg z1]at k;refine aU ⟨_,rfl,(ae ⟨_,rfl,aG (λz=>?_) (λz2=>?_)⟩)⟩
  ·rw[if_pos z]at k;refine aL (au (SqT.of ht) rfl rfl (au (SqT.of htw) rfl rfl (ae ⟨⟨M b1,M c3⟩,?_⟩)));refine(au (SqT.of htw) rfl rfl (au (SqT.of ht) rfl rfl (ae ⟨⟨M c2,M b3⟩,(au (SqT.of ht) rfl rfl (au (SqT.of htw) rfl rfl (ae ⟨⟨M b3,M c3⟩,(ae ?_)⟩)))⟩)));refine(au (SqT.of ht) rfl rfl (au (SqT.of htw) rfl rfl (ae ⟨⟨M b3,M c3⟩,by show 3<=sizeLine;decide,λt' ht'=>k t' _ (Same.upd_new ht') ht' ay⟩)))
  rw[if_neg z2]at k;refine aU ⟨_,rfl,(ae ⟨_,rfl,aG (λz=>?_) (λz3=>?_)⟩)⟩
  ·rw[if_pos z]at k;exact aL (au (SqT.of ht) rfl rfl (au (SqT.of ht) rfl rfl (au (SqT.of ht) rfl rfl ⟨by show 3<=sizeLine;decide,λt' ht'=>k t' _ (Same.upd_new ht') ht' ay⟩)))
  rw[if_neg z3]at k;exact aL ⟨_,rfl,_,rfl,t,p,l,sp,j,rfl,ht,hp,hl,S,hj,k⟩
noncomputable def hfN(l:List Int):Nat->Int×Int×Int->Int×Int×Int
 |0,s=>s
 |k+1,s=>hfG l (hfN l k s)
theorem eU{l:List Int}(h:SpK l){s:Int×Int×Int}{j:Nat}(S:SpG l s j):∀k,SpG l (hfN l k s) (j+k)
 |0=>S
 |k+1=>(eU h S k).half
theorem rO{l:List Int}(h:SpK l){s:Int×Int×Int}{j:Nat}(S:SpG l s j):∀k,InS s (hfN l k s)
 |0=>⟨K6 _,K6 _⟩
 |k+1=>InS.trans S.pos (eU h S k).pos ((eU h S k).half).pos (rO h S k) (InG (eU h S k))
def Off(s t:Int×Int×Int):Prop:=s.2.1*t.2.2<=t.1*s.2.2
def uS:Sp:=λvs H Q _=>∃(t p t' p':Addr) (l l':List Int) (s s':Int×Int×Int) (j j':Nat),vs=[.ref t,.ref p,.ref t',.ref p']/\ST H t s/\ST H t' s'/\H p=some (.tup (l.map V.int))/\H p'=some (.tup (l'.map V.int))/\SpK l/\SpK l'/\SpG l s j/\SpG l' s' j'/\j<=25/\j'<=25/\(∀k,208<=k->Off (hfN l k s) (hfN l' k s')\/Off (hfN l' k s') (hfN l k s)) /\
 ∀(r a b:Addr) (k:Nat) (H':Hp),Same H H'->k<=208->H' r=some (.lst [.ref a,.ref b])->ST H' a (hfN l k s)->ST H' b (hfN l' k s')->(Off (hfN l k s) (hfN l' k s')\/Off (hfN l' k s') (hfN l k s))->Q (.ref r) H'
theorem Eg(F:Fun K "_law_apart" "_law_apart" qM f fd)(T:Txt K mg)(iJ:Cal P w K mg base 4 "_law_half" ["_law_span_here","_law_spot"] lY yk yc):FnOk P w K mg base CX0 5 f fd ["_law_span_here","_law_left","_law_other","_law_right"] uS:=by
 refine F.ok oW (λvs H Q E h=>?_) (λcdv A outer s H vs Q E hr h=>?_)
 ·obtain⟨t,p,t',p',l,l',s,s',j,j',rfl,_⟩:=h;rfl
 ·obtain⟨t0,p,t0',p',l,l',sp,sp',j,j',rfl,ht,ht',hp,hp',hl,hl',S,S',hj,hj',far,k⟩:=h;have M:∀{x:Int},Bits 310 x->Bits 1000000 x:=λh=>h.mono
  refine⟨_,(af (ff PassesOwn.never (PW.pt (fY (aE ca (ah aD (aq K (pv 0) ac) (aq K (pv 2) ac)) (ah aD (aq K (pv 2) ac) (aq K (pv 0) ac))) (gC (aE ca (ah aD (aq K (pv 2) ac) (aq K (pv 0) ac)) (ah aD (aq K (pv 0) ac) (aq K (pv 2) ac))))))
   (af (aj 0 oW (ak iJ hr (aa (pv 0) (aa (pv 1) ad))))
     (ai (aj 2 oW (ak iJ hr (aa (pv 2) (aa (pv 3) ad)))))))
   (ai (ax (bh (aa (pv 0) (aa (pv 2) ad)))))),?_⟩
  refine⟨λn σ' H'=>∃(t t':Addr) (i:Nat),σ'=[some (.ref t),some (.ref p),some (.ref t'),some (.ref p')]/\Same H H'/\ST H' t (hfN l i sp)/\ST H' t' (hfN l' i sp')/\i<=208/\208-i=n,⟨208,t0,t0',0,rfl,Same.refl _,ht,ht',by omega,rfl⟩,?_⟩;rintro n σ' H2 ⟨t,t',i,rfl,s2,et,et',hi,rfl⟩;have G:=eU hl S i;have G':=eU hl' S' i;obtain⟨b1,b2,b3⟩:=cU G (by omega);obtain⟨c1,c2,c3⟩:=cU G' (by omega)
  have fin:(Off (hfN l i sp) (hfN l' i sp')\/Off (hfN l' i sp') (hfN l i sp))->∀r,H2 r=none->Q (.ref r) (upd H2 r (.lst [.ref t,.ref t'])):=λho r hr'=>by have u:=Same.upd_new (o:=.lst [.ref t,.ref t']) hr';exact k r t t' i _ (s2.trans u) hi ay (u _ _ et) (u _ _ et') ho
  refine fX (au (SqT.of et) rfl rfl (au (SqT.of et') rfl rfl (ae ⟨⟨M b2,M c3⟩,(au (SqT.of et') rfl rfl (au (SqT.of et) rfl rfl (ae ⟨⟨M c1,M b3⟩,(ae ⟨_,rfl,aG (λz1=>?_) (λz1=>?_)⟩)⟩)))⟩)))
  ·refine(au (SqT.of et') rfl rfl (au (SqT.of et) rfl rfl (ae ⟨⟨M c2,M b3⟩,(au (SqT.of et) rfl rfl (au (SqT.of et') rfl rfl (ae ⟨⟨M b1,M c3⟩,(ae ⟨_,rfl,aG (λz2=>?_) (λz2=>?_)⟩)⟩)))⟩)))
   ·have hlt:i<208:=Nat.lt_of_not_le λy=>by
     rcases far i y with h |h
     ·exact absurd h (Ly.mpr z1)
     ·exact absurd h (Ly.mpr z2)
    refine⟨_,λ_ _ h=>h,?_⟩;refine aA ⟨_,rfl,_,rfl,t,p,l,_,j+i,rfl,et,s2 _ _ hp,hl,G,by omega,λta Ha sa _ ea=>?_⟩;refine bG ⟨_,rfl,_,rfl,t',p',l',_,j'+i,rfl,sa _ _ et',(s2.trans sa) _ _ hp',hl',G',by omega,λtb Hb sb _ eb=>?_⟩;exact⟨208-(i+1),by omega,ta,tb,i+1,rfl,s2.trans (sa.trans sb),sb _ _ ea,eb,by omega,rfl⟩
   ·exact⟨_,rfl,_,rfl,by show 2<=sizeLine;decide,fin (.inr (Li.mp z2))⟩
  ·exact bU ⟨_,rfl,_,rfl,by show 2<=sizeLine;decide,fin (.inl (Li.mp z1))⟩
theorem BH{a n b m:Int}(hn:0<n)(hm:0<m):rt a n*rb b m*(n*m)=a*m*(rb a n*rb b m)/\rt b m*rb a n*(n*m)=b*n*(rb a n*rb b m):=by
 have c1:=ii (t:=a) (b:=n) (by omega);have c2:=ii (t:=b) (b:=m) (by omega);generalize rt a n=x at *
 generalize rb a n=y at *
 generalize rt b m=z at *
 generalize rb b m=w at *
 constructor
 ·have:x*w*(n*m)=x*n*(w*m):=by grind
  rw[this,c1];grind
 ·have:z*y*(n*m)=z*m*(y*n):=by grind
  rw[this,c2];grind
theorem kn{a n b m:Int}(hn:0<n)(hm:0<m):rt a n*rb b m<=rt b m*rb a n↔a*m<=b*n:=by
 obtain⟨e1,e2⟩:=BH (a:=a) (b:=b) hn hm;have p:=KG hn hm;have q:=KG (cR (t:=a) (b:=n) (by omega)) (cR (t:=b) (b:=m) (by omega));constructor
 ·intro h;have:=KT h (KI p);rw[e1,e2]at this;exact MU this q
 ·intro h;refine MU (a:=n*m) ?_ p;rw[e1,e2];exact KT h (KI q)
theorem BI{a n b m:Int}(hn:0<n)(hm:0<m):rt a n*rb b m<rt b m*rb a n↔a*m<b*n:=by have:=kn (a:=b) (n:=m) (b:=a) (m:=n) hm hn;omega
structure LN(C CN:Addr)(H:Hp)(x:Addr)(l ns:List Int)(s:Int×Int×Int):Prop where
 cm:∃u v w d ε:Int,l=[u,d*v*v,w,ar v]/\ns=aP u v w d/\CmN C CN H x u v w d (rt s.1 s.2.2) (rb s.1 s.2.2) (rt s.2.1 s.2.2) (rb s.2.1 s.2.2) ε
 pos:0<s.2.2
theorem LN.same{C CN:Addr}{H H':Hp}{x:Addr}{l ns:List Int}{s:Int×Int×Int}(n:LN C CN H x l ns s)(sm:Same H H'):LN C CN H' x l ns s:=by obtain⟨u,v,w,d,ε,a,b,c⟩:=n.cm;exact⟨⟨u,v,w,d,ε,a,b,c.same sm⟩,n.pos⟩
theorem LN.lk{C CN:Addr}{H:Hp}{x:Addr}{l ns:List Int}{s:Int×Int×Int}(n:LN C CN H x l ns s):∃q,LkN C CN H x q ns (rt s.1 s.2.2) (rb s.1 s.2.2) (rt s.2.1 s.2.2) (rb s.2.1 s.2.2):=by obtain⟨u,v,w,d,ε,rfl,rfl,c⟩:=n.cm;obtain⟨p1,p2,p3,pb⟩:=fk c.ok;obtain⟨q,lo,hi,na,row,rl,rh,en,ru⟩:=c.ns.nu;exact⟨q,⟨lo,hi,na,rl,rh⟩,row,by omega,pb.mono,en.bl1.mono,en.bl2.mono,en.bh1.mono,en.bh2.mono⟩
def eZ(s q:Int×Int×Int):Prop:=dZ (rt s.1 s.2.2) (rb s.1 s.2.2) (rt s.2.1 s.2.2) (rb s.2.1 s.2.2) (rt q.1 q.2.2) (rb q.1 q.2.2) (rt q.2.1 q.2.2) (rb q.2.1 q.2.2)
def dI(ns:List Int)(q:Int×Int×Int):Prop:=Chg ns (rt q.1 q.2.2) (rb q.1 q.2.2) (rt q.2.1 q.2.2) (rb q.2.1 q.2.2)
theorem gk{s q:Int×Int×Int}(p:0<s.2.2)(p':0<q.2.2):eZ s q↔InS s q:=by unfold eZ dZ InS;rw[kn p p',kn p' p]
theorem ml(l:List Int){t n:Int}(hn:0<n):ao l (rt t n) (rb t n)=ao l t n:=fU l (cR (by omega)) hn (ii (by omega))
theorem LN.chg{C CN:Addr}{H:Hp}{x:Addr}{l ns:List Int}{s q:Int×Int×Int}(n:LN C CN H x l ns s)(p:0<q.2.2)(h:InS s q):dI ns q↔q.1<q.2.1/\0<ao l q.1 q.2.2/\ao l q.2.1 q.2.2<=0:=by
 obtain⟨u,v,w,d,ε,rfl,rfl,c⟩:=n.cm;have ne:q.2.2≠0:=by omega
 have L:=(gk n.pos p).mpr h
 have lt:rt q.1 q.2.2*rb q.2.1 q.2.2<rt q.2.1 q.2.2*rb q.1 q.2.2↔q.1<q.2.1:=by rw[BI p p];exact⟨λz=>LS z (KI p),λz=>Lo z p⟩
 constructor
 ·intro z;have:=(r8 c (cR ne) (cR ne) L.1 L.2 z.1).mp z;rw[ml _ p,ml _ p]at this;exact⟨lt.mp z.1,this⟩
 ·intro z;refine(r8 c (cR ne) (cR ne) L.1 L.2 (lt.mpr z.1)).mpr ?_;rw[ml _ p,ml _ p];exact z.2
theorem LN.spoilt{C CN:Addr}{H:Hp}{x:Addr}{l ns:List Int}{s q:Int×Int×Int}{way:Int}(n:LN C CN H x l ns s)(hw:1<=way/\way<=4)(pq:0<q.2.2):0<(cE l q s way).2.2/\¬(eZ s (cE l q s way)/\dI ns (cE l q s way)):=by
 have ps:=n.pos;have np:=KG pq ps;have w4:way=1\/way=2\/way=3\/way=4:=by omega
 rcases w4 with rfl |rfl |rfl |rfl
 ·refine⟨np,λz=>?_⟩;have h1:=((gk ps np).mp z.1).1;have h2:s.1*(q.2.2*s.2.2)<=(s.1*q.2.2-q.2.2*s.2.2)*s.2.2:=h1;have e:(s.1*q.2.2-q.2.2*s.2.2)*s.2.2=s.1*(q.2.2*s.2.2)-q.2.2*s.2.2*s.2.2:=by grind
  have:=KG np ps;omega
 ·refine⟨np,λz=>?_⟩;have h1:=((gk ps np).mp z.1).2;have h2:(s.2.1*q.2.2+q.2.2*s.2.2)*s.2.2<=s.2.1*(q.2.2*s.2.2):=h1;have e:(s.2.1*q.2.2+q.2.2*s.2.2)*s.2.2=s.2.1*(q.2.2*s.2.2)+q.2.2*s.2.2*s.2.2:=by grind
  have:=KG np ps;omega
 ·refine⟨pq,λz=>?_⟩;have z1:eZ s (q.2.1,q.2.1,q.2.2):=z.1;have z2:dI ns (q.2.1,q.2.1,q.2.2):=z.2;have h2:=((n.chg (q:=(q.2.1,q.2.1,q.2.2)) pq ((gk (q:=(q.2.1,q.2.1,q.2.2)) ps pq).mp z1)).mp z2).1;exact absurd h2 (Int.lt_irrefl _)
 ·have e:cE l q s 4=ofG l q:=rfl;rw[e];have p2:0<(ofG l q).2.2:=by unfold ofG;split<;>(show 0<2*q.2.2;omega)
  refine⟨p2,λz=>?_⟩;have h2:=((n.chg p2 ((gk ps p2).mp z.1)).mp z.2).2
  have el:∀t m,ce l t m=ao l t m:=λt m=>by obtain⟨u,v,w,d,ε,rfl,_⟩:=n.cm;rfl
  unfold ofG at h2
  split at h2
  ·next y =>rw[el]at y;exact absurd h2.1 (Li.mpr y)
  ·next y =>rw[el]at y;exact y h2.2
theorem oe{C CN:Addr}{H:Hp}{x y:Addr}{l l' ns ns':List Int}{s s' q q':Int×Int×Int}{wd:Str}(n:LN C CN H x l ns s)(n':LN C CN H y l' ns' s')(p:0<q.2.2)(p':0<q'.2.2)(i:InS s q)(i':InS s' q')(c:dI ns q)(c':dI ns' q') :
 jP ns ns' (rt s.1 s.2.2) (rb s.1 s.2.2) (rt s.2.1 s.2.2) (rb s.2.1 s.2.2) (rt s'.1 s'.2.2) (rb s'.1 s'.2.2) (rt s'.2.1 s'.2.2) (rb s'.2.1 s'.2.2) (rt q.1 q.2.2) (rb q.1 q.2.2) (rt q.2.1 q.2.2) (rb q.2.1 q.2.2) (rt q'.1 q'.2.2) (rb q'.1 q'.2.2) (rt q'.2.1 q'.2.2) (rb q'.2.1 q'.2.2) wd↔(wd="under"->Off q q')/\(wd="over"->Off q' q):=by
 unfold jP Off;rw[kn p p',kn p' p];exact⟨λz=>z.2.2,λz=>⟨⟨(gk n.pos p).mpr i,c⟩,⟨(gk n'.pos p').mpr i',c'⟩,z⟩⟩
theorem xp{l l':List Int}(hl:Spt l)(hl':Spt l'){s s':Int×Int×Int}(p:0<s.2.2)(p':0<s'.2.2)(lt:LtS l l')(h1:0<ao l s.1 s.2.2)(h2:ao l' s'.2.1 s'.2.2<=0):¬Off s' s:=λz=>by
 obtain⟨t,m,hm,k1,k2⟩:=lt;have a1:s.1*m<t*s.2.2:=Ly.mp λy=>by have:=oG hl hm p y k1;omega
 have a2:t*s'.2.2<s'.2.1*m:=Ly.mp λy=>by have:=oG hl' p' hm y h2;omega
 have z':s'.2.1*s.2.2<=s.1*s'.2.2:=z;have b1:=Lo a1 p';have b2:=Lo a2 p;have b3:=KT z' (KI hm);have e1:s.1*m*s'.2.2=s.1*s'.2.2*m:=by grind
 have e2:t*s'.2.2*s.2.2=t*s.2.2*s'.2.2:=by grind
 have e3:s'.2.1*m*s.2.2=s'.2.1*s.2.2*m:=by grind
 omega
theorem tu{l:List Int}{s:Int×Int×Int}{j e:Nat}(S:SpG l s j)(hj:7+e<=j):((s.1:Rat)/(s.2.2:Rat))<((s.2.1:Rat)/(s.2.2:Rat))/\((s.2.1:Rat)/(s.2.2:Rat))-((s.1:Rat)/(s.2.2:Rat))<=1/2^e:=by
 have p:=S.pos;have hw:=S.w;refine⟨(cY p p).mpr (Lo (by omega) p),?_⟩;refine n9 (e:=e) ?_ p p;show(s.2.1*s.2.2-s.1*s.2.2)*2^e<=s.2.2*s.2.2;have e1:(s.2.1*s.2.2-s.1*s.2.2)*2^e=128*2^e*s.2.2:=by rw[hw];grind
 rw[e1];refine KT ?_ (KI p);rw[S.n,show(128:Int)=2^7 from rfl,<- Int.pow_add];have h2:(2:Nat)^(7+e)<=2^j:=Mf (by decide) hj;have e2:∀k:Nat,((2:Int)^k)=((2^k:Nat):Int):=λk=>by rw[Mb];rfl
 rw[e2,e2];exact Int.ofNat_le.mpr h2
theorem yd{C CN:Addr}{H:Hp}{x y:Addr}{l l' ns ns':List Int}{s s' t t':Int×Int×Int}{j j':Nat}(n:LN C CN H x l ns s)(n':LN C CN H y l' ns' s')(lt:LtS l l')(S:SpG l t j)(S':SpG l' t' j')(hj:208<=j)(hj':208<=j'):Off t t':=by obtain⟨u,v,w,d,ε,rfl,rfl,c⟩:=n.cm;obtain⟨a,b,e,d',ε',rfl,rfl,c'⟩:=n'.cm;obtain⟨a1,a2⟩:=tu (e:=201) S (by omega);obtain⟨b1,b2⟩:=tu (e:=201) S' (by omega);have k:=yl (kU c.ok) (kU c'.ok) c.ok.ns c'.ok.ns c.ok.w1 c'.ok.w1 lt (X:=(t.1:Rat)/t.2.2) (Y:=(t.2.1:Rat)/t.2.2) (P:=(t'.1:Rat)/t'.2.2) (Q:=(t'.2.1:Rat)/t'.2.2) (δ:=1/2^201) (by rw[cn _ S.pos];exact S.lp) (by rw[cn _ S.pos];exact S.hn) (by rw[cn _ S'.pos];exact S'.lp) (by rw[cn _ S'.pos];exact S'.hn) a1 b1 a2 b2 (by decide +kernel);exact Li.mp λz=>absurd ((cY S'.pos S.pos).mpr z) (Lf.mpr k)
theorem LN.spt{C CN:Addr}{H:Hp}{x:Addr}{l ns:List Int}{s:Int×Int×Int}(n:LN C CN H x l ns s):Spt l/\∀t m,ce l t m=ao l t m:=by obtain⟨u,v,w,d,ε,rfl,rfl,c⟩:=n.cm;exact⟨c.ns.spt,λ_ _=>rfl⟩
theorem oh{C CN:Addr}{H:Hp}{x y p o z o' z':Addr}{l l' ns ns':List Int}{s s' q q':Int×Int×Int}{wd:Str}{Q:VK}{E:XK}{r:Bool}(n:LN C CN H x l ns s)(n':LN C CN H y l' ns' s')(hw:wd="under"\/wd="over")(hp:H p=some (.tup [.str wd,.ref o,.ref z,.ref o',.ref z']))(e1:PEnd C H o (rt q.1 q.2.2) (rb q.1 q.2.2))(e2:PEnd C H z (rt q.2.1 q.2.2) (rb q.2.1 q.2.2))(e3:PEnd C H o' (rt q'.1 q'.2.2) (rb q'.1 q'.2.2))(e4:PEnd C H z' (rt q'.2.1 q'.2.2) (rb q'.2.1 q'.2.2))
 (hr:r=true↔jP ns ns' (rt s.1 s.2.2) (rb s.1 s.2.2) (rt s.2.1 s.2.2) (rb s.2.1 s.2.2) (rt s'.1 s'.2.2) (rb s'.1 s'.2.2) (rt s'.2.1 s'.2.2) (rb s'.2.1 s'.2.2) (rt q.1 q.2.2) (rb q.1 q.2.2) (rt q.2.1 q.2.2) (rb q.2.1 q.2.2) (rt q'.1 q'.2.2) (rb q'.1 q'.2.2) (rt q'.2.1 q'.2.2) (rb q'.2.1 q'.2.2) wd) (k:∀H',Same H H'->Q (.bl r) H'):cT C CN [.ref x,.ref y,.ref p] H Q E:=by
 obtain⟨a,L⟩:=n.lk;obtain⟨b,L'⟩:=n'.lk;refine⟨x,y,p,a,b,ns,ns',_,_,_,_,_,_,_,_,rfl,L,L',.inr ⟨wd,o,z,o',z',_,_,_,_,_,_,_,_,hw,hp,e1,e2,e3,e4,λr' H' sm hr'=>?_⟩⟩
 have:r'=r:=by cases r<;>cases r'<;>simp_all
 rw[this];exact k H' sm
theorem eM{C:Addr}{H:Hp}{o:Addr}{t n:Int}{k:Nat}(h:RA C H o (rt t n) (rb t n))(hn:0<n)(b1:Bits k t)(b2:Bits k n)(hk:k<=1000):PEnd C H o (rt t n) (rb t n):=⟨h,cR (by omega),(ib (by omega) b1).mono hk,(ig (by omega) b2).mono hk⟩
theorem om{l:List Int}{q s:Int×Int×Int}{way:Int}(a1:Bits 310 q.1)(a2:Bits 310 q.2.1)(a3:Bits 310 q.2.2)(b1:Bits 310 s.1)(b2:Bits 310 s.2.1)(b3:Bits 310 s.2.2):Bits 1000 (cE l q s way).1/\Bits 1000 (cE l q s way).2.1/\Bits 1000 (cE l q s way).2.2:=by
 have t2:Bits 2 (2:Int):=by show(2:Int).natAbs<2^2;decide
 unfold cE;split
 ·exact⟨((b1.mul a3).sub (a3.mul b3)).mono,(a2.mul b3).mono,(a3.mul b3).mono⟩
 split
 ·exact⟨(a1.mul b3).mono,((b2.mul a3).add (a3.mul b3)).mono,(a3.mul b3).mono⟩
 split
 ·exact⟨a2.mono,a2.mono,a3.mono⟩
 unfold ofG;split
 ·exact⟨(a1.add a2).mono,(t2.mul a2).mono,(t2.mul a3).mono⟩
 ·exact⟨(t2.mul a1).mono,(a1.add a2).mono,(t2.mul a3).mono⟩
def uc(C CN:Addr):Sp:=λvs H Q _=>∃(x y nb pl pr ts to:Addr) (l l' ns ns':List Int) (s s':Int×Int×Int) (j j':Nat) (due way turn:Int),vs=[.ref x,.ref y,.ref nb,.int due,.int way,.int turn]/\LN C CN H x l ns s/\LN C CN H y l' ns' s'/\H nb=some (.lst [.ref pl,.ref pr,.ref ts,.ref to])/\H pl=some (.tup (l.map V.int))/\H pr=some (.tup (l'.map V.int))/\ST H ts s/\ST H to s'/\SpK l/\SpK l'/\SpG l s j/\SpG l' s' j'/\j<=25/\j'<=25/\(due = -1/\LtS l l'\/due=1/\LtS l' l)/\0<=way/\way<=4/\∀(p:Addr) (H':Hp),Same H H'->H' p=some (.lst [.bl true,.bl true,.bl false])->Q (.ref p) H'
theorem DK(F:Fun K "_law_unlike" "_law_unlike" qd f fd)(T:Txt K mg)(R:RCI K mg C)(RN:NCI K mg CN)(Im:Cal P w K mg base 5 "_law_apart" ["_law_span_here","_law_left","_law_other","_law_right"] uS Kv Jz)(iK:Cal P w K mg base 4 "_law_ends" ["_law_span_here"] (oz C) GF Gk)(fR:Cal P w K mg base 6 "takes" ["first","second","paper"] (cT C CN) yf x5)(nZ:Cal P w K mg base 5 "_law_spoilt_span" ["_law_span_here","_law_spot","_law_wide","_law_way_here"] ow GC Gi):FnOk P w K mg base CX0 7 f fd ["_law_a","_law_b","_law_numbers_by","_law_due","_law_way_here","_law_turn"] (uc C CN):=by
 refine F.ok eu (λvs H Q E h=>?_) (λcdv A outer s H vs Q E hr h=>?_)
 ·obtain⟨x,y,nb,pl,pr,ts,to,l,l',ns,ns',s,s',j,j',due,way,turn,rfl,_⟩:=h;rfl
 ·obtain⟨x,y,nb,pl,pr,ts,to,l,l',ns,ns',sp,sp',j,j',due,way,turn,rfl,n,n',hnb,hpl,hpr,hts,hto,hl,hl',S,S',hj,hj',hd,w0,w4,k⟩:=h
  have far:∀i,208<=i->Off (hfN l i sp) (hfN l' i sp')\/Off (hfN l' i sp') (hfN l i sp):=λi hi=>by
   rcases hd with⟨_,lt⟩ |⟨_,lt⟩
   ·exact .inl (yd n n' lt (eU hl S i) (eU hl' S' i) (by omega) (by omega))
   ·exact .inr (yd n' n lt (eU hl' S' i) (eU hl S i) (by omega) (by omega))
  refine⟨_,(af (aj 6 eu (aN K (pv 2) ac))
   (af (aj 7 eu (aN K (pv 2) ac))
   (af (aj 8 eu (ak Im hr (aa (aN K (pv 2) ac) (aa (pv 6) (aa (aN K (pv 2) ac) (aa (pv 7) ad))))))
   (af (aj 9 eu (aN K (bh (aa cO (aa cO (aa cO ad)))) (ah bj (pv 3) ac)))
   (af (aj 10 eu (aN K (bh (aa cO (aa cO (aa cO ad)))) (ah bj (pv 3) ac)))
   (af (aj 11 eu (ak iK hr (aa (aN K (pv 8) ac) ad)))
   (af (aj 12 eu (ak iK hr (aa (aN K (pv 8) ac) ad)))
   (af (aj 13 eu (bh (aa (ak fR hr (aa (pv 0) (aa (pv 1) (aa (bJ (aa (pv 9) (aa (aN K (pv 11) ac) (aa (aN K (pv 11) ac) (aa (aN K (pv 12) ac) (aa (aN K (pv 12) ac) ad)))))) ad)))) ad)))
   (af (f8 (gE (pv 13) (aa (ak fR hr (aa (pv 1) (aa (pv 0) (aa (bJ (aa (pv 10) (aa (aN K (pv 12) ac) (aa (aN K (pv 12) ac) (aa (aN K (pv 11) ac) (aa (aN K (pv 11) ac) ad)))))) ad)))) ad)))
   (af (aM (aE bN (pv 4) ac)
     (ai (aj 9 eu (pv 10)))
     (ai (aM (aE bN (pv 5) ac)
       (ai (aj 11 eu (ak iK hr (aa (ak nZ hr (aa (aN K (pv 8) ac) (aa (pv 6) (aa (aN K (pv 2) ac) (aa (pv 4) ad))))) ad))))
       (ai (aj 12 eu (ak iK hr (aa (ak nZ hr (aa (aN K (pv 8) ac) (aa (pv 7) (aa (aN K (pv 2) ac) (aa (pv 4) ad))))) ad)))))))
   (af (f8 (gE (pv 13) (aa (ak fR hr (aa (pv 0) (aa (pv 1) (aa (bJ (aa (pv 9) (aa (aN K (pv 11) ac) (aa (aN K (pv 11) ac) (aa (aN K (pv 12) ac) (aa (aN K (pv 12) ac) ad)))))) ad)))) ad)))
   (ai (ax (pv 13)))))))))))))),?_⟩
  refine aA (aY (SqL.of hnb) rfl rfl ?_);refine aA (aY (SqL.of hnb) rfl rfl ?_);refine aA (aY (SqL.of hnb) rfl rfl ⟨_,rfl,(aY (SqL.of hnb) rfl rfl ⟨_,rfl,ts,pl,to,pr,l,l',sp,sp',j,j',rfl,hts,hto,hpl,hpr,hl,hl',S,S',hj,hj',far,λr ta tb i H1 s1 hi er ea eb ho=>?_⟩)⟩);have G:=eU hl S i;have G':=eU hl' S' i;have I:=rO hl S i;have I':=rO hl' S' i;obtain⟨b1,b2,b3⟩:=cU G (by omega);obtain⟨c1,c2,c3⟩:=cU G' (by omega);obtain⟨b4,b5,b6⟩:=cU S (by omega);obtain⟨c4,c5,c6⟩:=cU S' (by omega);have el:=n.spt.2;have el':=n'.spt.2;have wlt:=G.w;have wlt':=G'.w;have lp:=G.lp;have hn:=G.hn;have lp':=G'.lp;have hn':=G'.hn;rw[el]at lp hn;rw[el']at lp' hn';have pa:=G.pos;have pb:=G'.pos;generalize hfN l i sp=qa at *
  generalize hfN l' i sp'=qb at *
  have cA:dI ns qa:=(n.chg pa I).mpr ⟨by omega,lp,hn⟩;have cB:dI ns' qb:=(n'.chg pb I').mpr ⟨by omega,lp',hn'⟩
  obtain⟨wd,bk,aw,ab,hwb⟩:∃wd bk:Str,atI [V.str "under",V.str "",V.str "over"] (due+1)=some (V.str wd)/\atI [V.str "over",V.str "",V.str "under"] (due+1)=some (V.str bk)/\(wd="under"/\bk="over"/\Off qa qb/\¬Off qb qa\/wd="over"/\bk="under"/\Off qb qa/\¬Off qa qb):=by
   rcases hd with⟨e,lt⟩ |⟨e,lt⟩
   ·have no:=xp n.spt.1 n'.spt.1 pa pb lt lp hn';exact⟨"under","over",by rw[e];rfl,by rw[e];rfl,.inl ⟨rfl,rfl,ho.resolve_right no,no⟩⟩
   ·have no:=xp n'.spt.1 n.spt.1 pb pa lt lp' hn;exact⟨"over","under",by rw[e];rfl,by rw[e];rfl,.inr ⟨rfl,rfl,ho.resolve_left no,no⟩⟩
  show b8 _ _ _ [some (.ref x),some (.ref y),some (.ref nb),some (.int due),some (.int way),some (.int turn),some (.ref pl),some (.ref pr),some (.ref r),none,none,none,none,none] H1;refine aA ⟨by show 3<=sizeLine;decide,λa2 f2=>⟨_,rfl,(ae ⟨a2,_,_,_,rfl,rfl,SqL.of ay,aw,?_⟩)⟩⟩;refine dN (λσ' H'=>σ'=[some (.ref x),some (.ref y),some (.ref nb),some (.int due),some (.int way),some (.int turn),some (.ref pl),some (.ref pr),some (.ref r),some (.str wd),none,none,none,none]/\Same H1 H') ⟨rfl,Same.upd_new f2⟩ ?_;rintro σ' H2 ⟨rfl,s2⟩;refine aA ⟨by show 3<=sizeLine;decide,λa3 f3=>⟨_,rfl,(ae ⟨a3,_,_,_,rfl,rfl,SqL.of ay,ab,?_⟩)⟩⟩;refine dN (λσ' H'=>σ'=[some (.ref x),some (.ref y),some (.ref nb),some (.int due),some (.int way),some (.int turn),some (.ref pl),some (.ref pr),some (.ref r),some (.str wd),some (.str bk),none,none,none]/\Same H1 H') ⟨rfl,s2.then_new f3⟩ ?_;rintro σ' H3 ⟨rfl,s3⟩;refine aA (aY (SqL.of (s3 _ _ er)) rfl rfl ⟨ta,qa,rfl,s3 _ _ ea,pa,b3.mono,λp1 o z H4 s4 e4 ro rz=>?_⟩);have t4:=s3.trans s4;refine aA (aY (SqL.of (t4 _ _ er)) rfl rfl ⟨tb,qb,rfl,t4 _ _ eb,pb,c3.mono,λp2 o' z' H5 s5 e5 ro' rz'=>?_⟩);have t5:=t4.trans s5;have u5:=s1.trans t5;have e4':=s5 _ _ e4;have q1:=eM (ro.same s5) pa b1 b3 (by decide);have q2:=eM (rz.same s5) pa b2 b3 (by decide);have q3:=eM ro' pb c1 c3 (by decide);have q4:=eM rz' pb c2 c3 (by decide);have N:=n.same u5;have N':=n'.same u5;show b8 _ _ _ [some (.ref x),some (.ref y),some (.ref nb),some (.int due),some (.int way),some (.int turn),some (.ref pl),some (.ref pr),some (.ref r),some (.str wd),some (.str bk),some (.ref p1),some (.ref p2),none] H5;have wds:wd="under"\/wd="over":=by rcases hwb with⟨h,_⟩ |⟨h,_⟩<;>simp[h]
  have bks:bk="under"\/bk="over":=by rcases hwb with⟨_,h,_⟩ |⟨_,h,_⟩<;>simp[h]
  refine aA ⟨_,rfl,_,rfl,_,rfl,(aY (SqL.of e4') rfl rfl (aY (SqL.of e4') rfl rfl (aY (SqL.of e5) rfl rfl (aY (SqL.of e5) rfl rfl ⟨by show 5<=sizeLine;decide,λpt hpt=>cJ ?_⟩))))⟩;have s6:=Same.upd_new (o:=.tup [.str wd,.ref o,.ref z,.ref o',.ref z']) hpt;change cT C CN [.ref x,.ref y,.ref pt] _ _ _;refine oh (r:=true) (N.same s6) (N'.same s6) wds ay (q1.same s6) (q2.same s6) (q3.same s6) (q4.same s6) ?_ λH7 s7=>⟨by show 1<=sizeLine;decide,λpf hpf=>?_⟩
  ·rw[oe N N' pa pb I I' cA cB];refine⟨λ_=>?_,λ_=>rfl⟩;rcases hwb with⟨h,_,h2,_⟩ |⟨h,_,h2,_⟩<;>rw[h]
   ·exact⟨λ_=>h2,λy=>absurd y (by decide +kernel)⟩
   ·exact⟨λy=>absurd y (by decide +kernel),λ_=>h2⟩
  have s67:=s6.trans s7;show b8 _ _ _ _ _;refine dN (λσ' H'=>σ'=[some (.ref x),some (.ref y),some (.ref nb),some (.int due),some (.int way),some (.int turn),some (.ref pl),some (.ref pr),some (.ref r),some (.str wd),some (.str bk),some (.ref p1),some (.ref p2),some (.ref pf)]/\Same H5 H'/\H' pf=some (.lst [.bl true])) ⟨rfl,s67.then_new hpf,ay⟩ ?_;have pfn:H5 pf=none:=s67.free hpf;clear hpf s67 s7 s6 hpt;rintro σ' H8 ⟨rfl,s8,e8⟩;have e4b:=s8 _ _ e4';have e5b:=s8 _ _ e5;refine ie ⟨_,rfl,.inl ⟨rfl,_,SqL.of e8⟩,_,rfl,_,rfl,_,rfl,(aY (SqL.of e5b) rfl rfl (aY (SqL.of e5b) rfl rfl (aY (SqL.of e4b) rfl rfl (aY (SqL.of e4b) rfl rfl ⟨by show 5<=sizeLine;decide,λpt hpt=>cJ ?_⟩))))⟩;have s9:=Same.upd_new (o:=.tup [.str bk,.ref o',.ref z',.ref o,.ref z]) hpt;have t9:=s8.trans s9;change cT C CN [.ref y,.ref x,.ref pt] _ _ _;refine oh (r:=true) (N'.same t9) (N.same t9) bks ay (q3.same t9) (q4.same t9) (q1.same t9) (q2.same t9) ?_ λH10 s10=>⟨pf,_,_,rfl,rfl,(s9.trans s10) _ _ e8,by decide,?_⟩
  ·rw[oe N' N pb pa I' I cB cA];refine⟨λ_=>?_,λ_=>rfl⟩;rcases hwb with⟨_,h,h2,_⟩ |⟨_,h,h2,_⟩<;>rw[h]
   ·exact⟨λy=>absurd y (by decide +kernel),λ_=>h2⟩
   ·exact⟨λ_=>h2,λy=>absurd y (by decide +kernel)⟩
  refine dN (λσ' H'=>σ'=[some (.ref x),some (.ref y),some (.ref nb),some (.int due),some (.int way),some (.int turn),some (.ref pl),some (.ref pr),some (.ref r),some (.str wd),some (.str bk),some (.ref p1),some (.ref p2),some (.ref pf)]/\Same H5 H'/\H' pf=some (.lst [.bl true,.bl true])) ⟨rfl,fh (t9.trans s10) pfn,ay⟩ ?_;clear s10 t9 s9 hpt e5b e4b s8 e8;rintro σ' H8 ⟨rfl,s8,e8⟩;refine dP (λσ' H'=>∃(wd':Str) (p1' p2' o z o' z':Addr) (qx qy:Int×Int×Int),σ'=[some (.ref x),some (.ref y),some (.ref nb),some (.int due),some (.int way),some (.int turn),some (.ref pl),some (.ref pr),some (.ref r),some (.str wd'),some (.str bk),some (.ref p1'),some (.ref p2'),some (.ref pf)]/\Same H5 H'/\H' pf=some (.lst [.bl true,.bl true])/\H' p1'=some (.lst [.ref o,.ref z])/\H' p2'=some (.lst [.ref o',.ref z'])/\PEnd C H' o (rt qx.1 qx.2.2) (rb qx.1 qx.2.2)/\PEnd C H' z (rt qx.2.1 qx.2.2) (rb qx.2.1 qx.2.2)/\PEnd C H' o' (rt qy.1 qy.2.2) (rb qy.1 qy.2.2)/\PEnd C H' z' (rt qy.2.1 qy.2.2) (rb qy.2.1 qy.2.2)/\(wd'="under"\/wd'="over")/\¬jP ns ns' (rt sp.1 sp.2.2) (rb sp.1 sp.2.2) (rt sp.2.1 sp.2.2) (rb sp.2.1 sp.2.2) (rt sp'.1 sp'.2.2) (rb sp'.1 sp'.2.2) (rt sp'.2.1 sp'.2.2) (rb sp'.2.1 sp'.2.2) (rt qx.1 qx.2.2) (rb qx.1 qx.2.2) (rt qx.2.1 qx.2.2) (rb qx.2.1 qx.2.2) (rt qy.1 qy.2.2) (rb qy.1 qy.2.2) (rt qy.2.1 qy.2.2) (rb qy.2.1 qy.2.2) wd') ?_ ?_
  case refine_2 =>
   intro rest;refine⟨_,rfl,(ae ⟨_,rfl,aG (λz0=>?_) (λz0=>?_)⟩)⟩
   ·refine bG ⟨_,rfl,rest _ _ ⟨bk,p1,p2,o,z,o',z',qa,qb,rfl,s8,e8,s8 _ _ e4',s8 _ _ e5,q1.same s8,q2.same s8,q3.same s8,q4.same s8,bks,?_⟩⟩;rw[oe N N' pa pb I I' cA cB];rcases hwb with⟨_,h,_,h2⟩ |⟨_,h,_,h2⟩<;>rw[h]
    ·exactλy=>h2 (y.2 rfl)
    ·exactλy=>h2 (y.1 rfl)
   ·have wy:1<=way/\way<=4:=by have z0':¬way=0:=z0;omega
    have er8:=(t5.trans s8) _ _ er;have ea8:=(t5.trans s8) _ _ ea;have eb8:=(t5.trans s8) _ _ eb;have hnb8:=(u5.trans s8) _ _ hnb;refine fW ⟨_,rfl,(ae ⟨_,rfl,aG (λ_=>?_) (λ_=>?_)⟩)⟩
    ·obtain⟨np,bad⟩:=N.spoilt wy pa;obtain⟨d1,d2,d3⟩:=om (l:=l) (way:=way) b1 b2 b3 b4 b5 b6;refine bG (aY (SqL.of er8) rfl rfl ⟨_,rfl,(aY (SqL.of hnb8) rfl rfl ⟨_,rfl,ta,pl,ts,l,qa,sp,j+i,way,rfl,ea8,(u5.trans s8) _ _ hts,(u5.trans s8) _ _ hpl,hl,G,by omega,b4,b5,b6,λtn H9 s9 hn9 en=>?_⟩)⟩);refine⟨tn,_,rfl,en,np,d3.mono,λp1' o1 z1 Ha sa ea ro1 rz1=>rest _ _ ⟨wd,p1',p2,o1,z1,o',z',cE l qa sp way,qb,rfl,s8.trans (s9.trans sa),(s9.trans sa) _ _ e8,ea,(s8.trans (s9.trans sa)) _ _ e5,eM ro1 np d1 d3 (by decide),eM rz1 np d2 d3 (by decide),q3.same (s8.trans (s9.trans sa)),q4.same (s8.trans (s9.trans sa)),wds,λy=>bad y.1⟩⟩
    ·obtain⟨np,bad⟩:=N'.spoilt wy pb;obtain⟨d1,d2,d3⟩:=om (l:=l') (way:=way) c1 c2 c3 c4 c5 c6;refine bG (aY (SqL.of er8) rfl rfl ⟨_,rfl,(aY (SqL.of hnb8) rfl rfl ⟨_,rfl,tb,pr,to,l',qb,sp',j'+i,way,rfl,eb8,(u5.trans s8) _ _ hto,(u5.trans s8) _ _ hpr,hl',G',by omega,c4,c5,c6,λtn H9 s9 hn9 en=>?_⟩)⟩);refine⟨tn,_,rfl,en,np,d3.mono,λp2' o1 z1 Ha sa ea ro1 rz1=>rest _ _ ⟨wd,p1,p2',o,z,o1,z1,qa,cE l' qb sp' way,rfl,s8.trans (s9.trans sa),(s9.trans sa) _ _ e8,(s8.trans (s9.trans sa)) _ _ e4',ea,q1.same (s8.trans (s9.trans sa)),q2.same (s8.trans (s9.trans sa)),eM ro1 np d1 d3 (by decide),eM rz1 np d2 d3 (by decide),wds,λy=>bad y.2.1⟩⟩
  clear s8 e8;rintro σ' H8 ⟨wd',p1',p2',o,z,o',z',qx,qy,rfl,s8,e8,e1b,e2b,q1,q2,q3,q4,wds',bad⟩;refine ie ⟨_,rfl,.inl ⟨rfl,_,SqL.of e8⟩,_,rfl,_,rfl,_,rfl,(aY (SqL.of e1b) rfl rfl (aY (SqL.of e1b) rfl rfl (aY (SqL.of e2b) rfl rfl (aY (SqL.of e2b) rfl rfl ⟨by show 5<=sizeLine;decide,λpt hpt=>cJ ?_⟩))))⟩;have s9:=Same.upd_new (o:=.tup [.str wd',.ref o,.ref z,.ref o',.ref z']) hpt;have t9:=s8.trans s9;change cT C CN [.ref x,.ref y,.ref pt] _ _ _;refine oh (r:=false) (N.same t9) (N'.same t9) wds' ay (q1.same s9) (q2.same s9) (q3.same s9) (q4.same s9) ⟨λh=>Bool.noConfusion h,λh=>absurd h bad⟩ λH10 s10=>⟨pf,_,_,rfl,rfl,(s9.trans s10) _ _ e8,by decide,?_⟩
  exact aL ⟨_,rfl,k pf _ (u5.trans (fh (t9.trans s10) pfn)) ay⟩
theorem vp(g:Int)(l:List Int)(k:Nat):cf (am [g] l) k=g*cf l k:=by rw[aW,EG]
theorem vo{g:Int}{l:List Int}(hl:l≠[])(t n:Int):hv t n (am [g] l)=g*hv t n l:=by rw[nk (x:=g) (y:=0) l l (am [g] l) (mV hl).symm (mV hl).symm λk=>by rw[vp];omega];omega
theorem G3{g:Int}(hg:g≠0){ns:List Int}(hn:ns≠[])(x1 x2 y1 y2:Int):Chg (am [g] ns) x1 x2 y1 y2↔Chg ns x1 x2 y1 y2:=by
 unfold Chg;rw[vo hn,vo hn,kg,kg]
 have hs:sg g=1\/sg g = -1:=by
  rcases LC hg with z |z
  ·right;unfold sg;rw[if_pos z]
  ·left;unfold sg;rw[if_neg (by omega),if_pos z]
 rcases hs with h |h<;>rw[h]<;>omega
theorem Ba{g:Int}(hg:g≠0){ns:List Int}(hn:ns≠[])(ht:Tr ns):aQ ns (am [g] ns)=[]:=by have t1:Tr (am [g] ns):=gU (λn h=>by cases n with |zero=>exact hg |succ n=>simp at h) ht;exact Dv.rest (λz=>by have:=mV (c:=g) hn;rw[z]at this;exact hn (Lv.mp this.symm)) t1 ⟨g,[1],hg,λn=>by rw[<- aW,one_mul _ t1,vp]⟩
theorem GP{p d:List Int}(h:p.length<d.length)(ht:Tr p):aQ p d=p:=by
 have e:bz p d=0:=by unfold bz;omega
 unfold aQ;rw[e];exact lH ht
theorem sS{l l':List Int}(h:∀t m,ce l t m=ce l' t m):∀j,itG l j=itG l' j
 |0=>rfl
 |j+1=>by show hfG l (itG l j)=hfG l' (itG l' j);rw[sS h j];unfold hfG;rw[h]
theorem Ap{l l':List Int}(h:∀t m,ce l t m=ce l' t m)(q s:Int×Int×Int)(way:Int):cE l q s way=cE l' q s way:=by unfold cE ofG;rw[h]
theorem xC{l:List Int}(hl:SpK l){j:Nat}:∀k,InS (itG l j) (itG l (j+k))
 |0=>InS.refl _
 |k+1=>InS.trans (dD hl j).pos (dD hl (j+k)).pos (dD hl (j+(k+1))).pos (xC hl k) (InG (dD hl (j+k)))
theorem xB{l:List Int}(hl:SpK l){i j:Nat}(h:i<=j):InS (itG l i) (itG l j):=by obtain⟨k,rfl⟩:=Nat.le.dest h;exact xC hl k
theorem oi{C CN:Addr}{H:Hp}{x y p g o z:Addr}{l l' ns ns' gs:List Int}{s s' q:Int×Int×Int}{Q:VK}{E:XK}{r:Bool}(n:LN C CN H x l ns s)(n':LN C CN H y l' ns' s')(hp:H p=some (.tup [.str "alike",.ref g,.ref o,.ref z]))(e1:PEnd C H o (rt q.1 q.2.2) (rb q.1 q.2.2))(e2:PEnd C H z (rt q.2.1 q.2.2) (rb q.2.1 q.2.2))(hg:H g=some (.lst (gs.map V.int)))(gl:gs.length<=20)(gb:AllB 1000 gs)
 (hr:r=true↔2<=gs.length/\dI gs q/\(aQ ns gs=[]/\eZ s q)/\aQ ns' gs=[]/\eZ s' q) (k:∀H',Same H H'->Q (.bl r) H'):cT C CN [.ref x,.ref y,.ref p] H Q E:=by
 obtain⟨a,L⟩:=n.lk;obtain⟨b,L'⟩:=n'.lk;refine⟨x,y,p,a,b,ns,ns',_,_,_,_,_,_,_,_,rfl,L,L',.inl ⟨g,o,z,gs,_,_,_,_,hp,e1,e2,hg,gl,gb,λr' H' sm hr'=>?_⟩⟩
 have:r'=r:=by have hr'':r'=true↔2<=gs.length/\dI gs q/\(aQ ns gs=[]/\eZ s q)/\aQ ns' gs=[]/\eZ s' q:=hr';rw[<- hr]at hr'';cases r<;>cases r'<;>simp_all
 rw[this];exact k H' sm
def uW(C CN:Addr):Sp:=λvs H Q _=>∃(x y nb kp pl pr ts to:Addr) (l l' ns:List Int) (j j':Nat) (many way:Int),vs=[.ref x,.ref y,.ref nb,.ref kp,.int many,.int way]/\LN C CN H x l ns (itG l j)/\LN C CN H y l' ns (itG l' j')/\H nb=some (.lst [.ref pl,.ref pr,.ref ts,.ref to])/\H pl=some (.tup (l.map V.int))/\ST H ts (itG l j)/\ST H to (itG l' j')/\SpK l/\j<=25/\j'<=25/\(∀t m,ce l t m=ce l' t m)/\H kp=some (.lst (ns.map V.int))/\0<=way/\way<=5/\∀(p:Addr) (H':Hp),Same H H'->H' p=some (.lst [.bl true,.bl true,.bl false])->Q (.ref p) H'
theorem Ei(F:Fun K "_law_alike" "_law_alike" qN f fd)(T:Txt K mg)(R:RCI K mg C)(RN:NCI K mg CN)(iJ:Cal P w K mg base 4 "_law_half" ["_law_span_here","_law_spot"] lY yk yc)(zx:Cal P w K mg base 1 "_law_mul" ["_law_kp","_law_kq"] j7 Ko Js)(iK:Cal P w K mg base 4 "_law_ends" ["_law_span_here"] (oz C) GF Gk)(fR:Cal P w K mg base 6 "takes" ["first","second","paper"] (cT C CN) yf x5)(nZ:Cal P w K mg base 5 "_law_spoilt_span" ["_law_span_here","_law_spot","_law_wide","_law_way_here"] ow GC Gi):FnOk P w K mg base CX0 7 f fd ["_law_a","_law_b","_law_numbers_by","_law_kp","_law_many","_law_way_here"] (uW C CN):=by
 refine F.ok fc (λvs H Q E h=>?_) (λcdv A outer s H vs Q E hr h=>?_)
 ·obtain⟨x,y,nb,kp,pl,pr,ts,to,l,l',ns,j,j',many,way,rfl,_⟩:=h;rfl
 ·obtain⟨x,y,nb,kp,pl,pr,ts,to,l,l',ns,j,j',many,way,rfl,n,n',hnb,hpl,hts,hto,hl,hj,hj',hlk,hkp,w0,w5,k⟩:=h;have eI:=sS hlk;rw[<- eI]at n' hto;obtain⟨u,v,w,d,ε,el,en,cm⟩:=n.cm;obtain⟨pP,p2,p3,pb⟩:=fk cm.ok;rw[<- en]at pP p2 p3 pb;have S:=dD hl j;have S':=dD hl j';obtain⟨b4,b5,b6⟩:=cU S (by omega);obtain⟨c4,c5,c6⟩:=cU S' (by omega)
  refine⟨_,(af (aj 6 fc (aN K (pv 2) ac))
   (af (aM (aE ca (aq K (aN K (pv 2) ac) ac) (aq K (pv 6) ac))
     (ai (aj 6 fc (aN K (pv 2) ac)))
     aS)
   (af (cj PassesOwn.never rfl (ik rfl T.range_ (aa (ah bZ (pv 4) ac) ad)) (bH 7 fc)
     (ai (aj 6 fc (ak iJ hr (aa (pv 6) (aa (aN K (pv 2) ac) ad))))))
   (af (aj 8 fc (ak zx hr (aa (bh (aa (ah aD (ah bj ac (ah bZ (pv 4) ac)) (ah bB ac (ah aD ac (ah bZ (ah il (pv 4) ac) ac)))) ad)) (aa (pv 3) ad))))
   (af (aj 9 fc (ak iK hr (aa (pv 6) ad)))
   (af (aj 10 fc (bh (aa (ak fR hr (aa (pv 0) (aa (pv 1) (aa (bJ (aa cO (aa (pv 8) (aa (aN K (pv 9) ac) (aa (aN K (pv 9) ac) ad))))) ad)))) ad)))
   (af (f8 (gE (pv 10) (aa (ak fR hr (aa (pv 1) (aa (pv 0) (aa (bJ (aa cO (aa (pv 8) (aa (aN K (pv 9) ac) (aa (aN K (pv 9) ac) ad))))) ad)))) ad)))
   (af (aM (aE bN (pv 5) ac)
     (ai (aj 8 fc (aN K (bh (aa (bh ad) (aa (bh (aa ac ad)) ad))) (ah bZ (pv 4) ac))))
     (ai (aM (aE bN (pv 5) ac)
       (ai (aj 8 fc (ak zx hr (aa (pv 8) (aa (bh (aa ac (aa ac (aa ac ad)))) ad)))))
       (ai (aj 9 fc (ak iK hr (aa (ak nZ hr (aa (pv 6) (aa (aN K (pv 2) ac) (aa (aN K (pv 2) (ah bj ac (ah bZ (pv 4) ac))) (aa (pv 5) ad))))) ad)))))))
   (af (f8 (gE (pv 10) (aa (ak fR hr (aa (pv 0) (aa (pv 1) (aa (bJ (aa cO (aa (pv 8) (aa (aN K (pv 9) ac) (aa (aN K (pv 9) ac) ad))))) ad)))) ad)))
   (ai (ax (pv 10)))))))))))),?_⟩
  refine aA (aY (SqL.of hnb) rfl rfl ?_);refine dP (λσ' H'=>∃(t:Addr) (i:Nat),σ'=[some (.ref x),some (.ref y),some (.ref nb),some (.ref kp),some (.int many),some (.int way),some (.ref t),none,none,none,none]/\H=H'/\ST H t (itG l i)/\j<=i/\j'<=i/\i<=25) ?_ ?_
  case refine_2 =>
   intro rest;refine(aY (SqL.of hnb) rfl rfl ⟨to,_,_,_,rfl,rfl,SqT.of hto,rfl,(au (SqT.of hts) rfl rfl (ae ⟨_,rfl,aG (λz=>?_) (λz=>?_)⟩))⟩)
   ·have z':(itG l j).2.2<(itG l j').2.2:=z
    have le:j<=j':=LA λy=>by
     rw[S.n,S'.n]at z';have:(2:Nat)^j'<=2^j:=Mf (by decide) (by omega);have e2:∀k:Nat,((2:Int)^k)=((2^k:Nat):Int):=λk=>by rw[Mb];rfl
     rw[e2,e2]at z';omega
    exact bG (aY (SqL.of hnb) rfl rfl (rest _ _ ⟨to,j',rfl,rfl,hto,le,KH _,hj'⟩))
   ·have z':¬(itG l j).2.2<(itG l j').2.2:=z
    have le:j'<=j:=LA λy=>by
     rw[S.n,S'.n]at z';have:(2:Nat)^j<2^j':=Nat.pow_lt_pow_right (by decide) (by omega);have e2:∀k:Nat,((2:Int)^k)=((2^k:Nat):Int):=λk=>by rw[Mb];rfl
     rw[e2,e2]at z';omega
    exact rest _ _ ⟨ts,j,rfl,rfl,hts,KH _,le,hj⟩
  rintro σ' H' ⟨t,i,rfl,rfl,ht,ji,ji',i25⟩;obtain⟨m1,m2⟩:=dC (x:=many) (m:=10) (by decide);have em:(((many%10).toNat:Nat):Int)=many%10:=Mc m1;refine⟨_,rfl,(ae ⟨(by show(0:Int)<10;decide),(many%10).toNat,by rw[em],by omega,by omega,nD (lo:=0) (n:=(many%10).toNat) (λa σ' H'=>∃(t:Addr) (z:Option V),σ'=[some (.ref x),some (.ref y),some (.ref nb),some (.ref kp),some (.int many),some (.int way),some (.ref t),z,none,none,none]/\Same H H'/\ST H' t (itG l (i+a))) ⟨t,none,rfl,Same.refl _,ht⟩ ?_ ?_⟩)⟩
  ·rintro a σ' H3 ha ⟨t,z,rfl,s3,et⟩;refine bG ⟨_,rfl,(aY (SqL.of (s3 _ _ hnb)) rfl rfl ⟨t,pl,l,_,i+a,rfl,et,s3 _ _ hpl,hl,dD hl _,by omega,λt' H' s' ht' et'=>?_⟩)⟩;exact⟨t',_,rfl,s3.trans s',et'⟩
  rintro σ' H3 ⟨t,z7,rfl,s3,et⟩;have G:=dD hl (i+(many%10).toNat);have I:=xB hl (show j<=i+(many%10).toNat by omega);have I':=xB hl (show j'<=i+(many%10).toNat by omega);have hjq:i+(many%10).toNat<=300:=by omega
  obtain⟨b1,b2,b3⟩:=cU G hjq;have pq:=G.pos;have wlt:=G.w;have lp:=G.lp;have hn:=G.hn;have el':=n.spt.2;rw[el']at lp hn;have Lq:=(gk n.pos pq).mpr I;have Lq':=(gk n'.pos pq).mpr I';have cA:dI ns (itG l (i+(many%10).toNat)):=(n.chg pq I).mpr ⟨by omega,lp,hn⟩;generalize itG l (i+(many%10).toNat)=q at *
  obtain⟨a1,a2⟩:=dC (x:=many) (m:=9) (by decide);obtain⟨a3,a4⟩:=dC (x:=many/9) (m:=2) (by decide);obtain⟨cc,ec⟩:∃cc,(1+many%9)*(1-2*(many/9%2))=cc:=⟨_,rfl⟩;have B:∀{x:Int},-100<=x->x<=100->Bits 1000000 x:=λ{x} a b=>Bits.mono (j:=7) (by show x.natAbs<128;omega) (by decide)
  have hc:cc≠0 /\ -9<=cc/\cc<=9:=by
   have:many/9%2=0\/many/9%2=1:=by omega
   rcases this with h |h<;>rw[h]at ec<;>omega
  dsimp only
  refine aA ⟨_,rfl,(ae ⟨(by show(0:Int)<9;decide),(ae ⟨_,rfl,(ae ⟨⟨by show(0:Int)<9;decide,kd (by decide) (by decide)⟩,(ae ⟨(by show(0:Int)<2;decide),(ae ⟨⟨B (by decide) (by decide),B (by omega) (by omega)⟩,(ae (ae ⟨⟨B (by omega) (by omega),B (by omega) (by omega)⟩,by show 1<=sizeLine;decide,λv1 hv1=>⟨_,rfl,v1,kp,[cc],ns,rfl,by rw[<- ec];exact ay,(s3.then_new hv1) _ _ hkp,by show 1<=1000000;decide,by omega,λx hx=>by rw[KP.mp hx];exact B (by omega) (by omega),pb.mono,λpg H4 s4 hpg eg=>?_⟩⟩))⟩)⟩)⟩)⟩)⟩)⟩;have t4:=(s3.then_new hv1).trans s4;have et4:=((Same.upd_new hv1).trans s4) _ _ et;show b8 _ _ _ _ _;refine dN (λσ' H'=>σ'=[some (.ref x),some (.ref y),some (.ref nb),some (.ref kp),some (.int many),some (.int way),some (.ref t),z7,some (.ref pg),none,none]/\Same H H'/\ST H' t q/\H' pg=some (.lst ((am [cc] ns).map V.int))) ⟨rfl,t4,et4,eg⟩ ?_;clear eg et4 t4 s4 hpg et s3 hv1;rintro σ' H4 ⟨rfl,s4,et,eg⟩;refine aA ⟨_,rfl,t,q,rfl,et,pq,b3.mono,λp1 o z H5 s5 e1 ro rz=>?_⟩;have u5:=s4.trans s5;have et5:=s5 _ _ et;have eg5:=s5 _ _ eg;have q1:=eM ro pq b1 b3 (by decide);have q2:=eM rz pq b2 b3 (by decide);have N:=n.same u5;have N':=n'.same u5;have gl:(am [cc] ns).length=ns.length:=mV pP.ne;have gb:AllB 60 (am [cc] ns):=rB (i:=5) (j:=48) (λx hx=>by rw[KP.mp hx];show cc.natAbs<32;omega) pb (by show 5+48+1<=60;decide);have gd:=Ba hc.1 pP.ne pP.tr;have cG:∀q,dI (am [cc] ns) q↔dI ns q:=λq=>G3 hc.1 pP.ne _ _ _ _
  show b8 _ _ _ [some (.ref x),some (.ref y),some (.ref nb),some (.ref kp),some (.int many),some (.int way),some (.ref t),z7,some (.ref pg),some (.ref p1),none] H5;refine aA ⟨_,rfl,_,rfl,_,rfl,(aY (SqL.of e1) rfl rfl (aY (SqL.of e1) rfl rfl ⟨by show 4<=sizeLine;decide,λpt hpt=>cJ ?_⟩))⟩;have s6:=Same.upd_new (o:=.tup [.str "alike",.ref pg,.ref o,.ref z]) hpt;change cT C CN [.ref x,.ref y,.ref pt] _ _ _;refine oi (r:=true) (N.same s6) (N'.same s6) ay (q1.same s6) (q2.same s6) (s6 _ _ eg5) (by omega) (gb.mono) ⟨λ_=>⟨by omega,(cG q).mpr cA,⟨gd,Lq⟩,gd,Lq'⟩,λ_=>rfl⟩ λH7 s7=>⟨by show 1<=sizeLine;decide,λpf hpf=>?_⟩
  have s67:=s6.trans s7;show b8 _ _ _ _ _;refine dN (λσ' H'=>σ'=[some (.ref x),some (.ref y),some (.ref nb),some (.ref kp),some (.int many),some (.int way),some (.ref t),z7,some (.ref pg),some (.ref p1),some (.ref pf)]/\Same H5 H'/\H' pf=some (.lst [.bl true])) ⟨rfl,s67.then_new hpf,ay⟩ ?_;have pfn:H5 pf=none:=s67.free hpf;clear hpf s67 s7 s6 hpt;rintro σ' H8 ⟨rfl,s8,e8⟩;have e1b:=s8 _ _ e1;refine ie ⟨_,rfl,.inl ⟨rfl,_,SqL.of e8⟩,_,rfl,_,rfl,_,rfl,(aY (SqL.of e1b) rfl rfl (aY (SqL.of e1b) rfl rfl ⟨by show 4<=sizeLine;decide,λpt hpt=>cJ ?_⟩))⟩;have s9:=Same.upd_new (o:=.tup [.str "alike",.ref pg,.ref o,.ref z]) hpt;have t9:=s8.trans s9;change cT C CN [.ref y,.ref x,.ref pt] _ _ _;refine oi (r:=true) (N'.same t9) (N.same t9) ay (q1.same t9) (q2.same t9) (t9 _ _ eg5) (by omega) (gb.mono) ⟨λ_=>⟨by omega,(cG q).mpr cA,⟨gd,Lq'⟩,gd,Lq⟩,λ_=>rfl⟩ λH10 s10=>⟨pf,_,_,rfl,rfl,(s9.trans s10) _ _ e8,by decide,?_⟩
  refine dN (λσ' H'=>σ'=[some (.ref x),some (.ref y),some (.ref nb),some (.ref kp),some (.int many),some (.int way),some (.ref t),z7,some (.ref pg),some (.ref p1),some (.ref pf)]/\Same H5 H'/\H' pf=some (.lst [.bl true,.bl true])) ⟨rfl,fh (t9.trans s10) pfn,ay⟩ ?_;clear s10 t9 s9 hpt e1b s8 e8;rintro σ' H8 ⟨rfl,s8,e8⟩;refine dP (λσ' H'=>∃(pg' p1' o z:Addr) (gs:List Int) (qx:Int×Int×Int),σ'=[some (.ref x),some (.ref y),some (.ref nb),some (.ref kp),some (.int many),some (.int way),some (.ref t),z7,some (.ref pg'),some (.ref p1'),some (.ref pf)]/\Same H5 H'/\H' pf=some (.lst [.bl true,.bl true])/\H' p1'=some (.lst [.ref o,.ref z])/\H' pg'=some (.lst (gs.map V.int))/\PEnd C H' o (rt qx.1 qx.2.2) (rb qx.1 qx.2.2)/\PEnd C H' z (rt qx.2.1 qx.2.2) (rb qx.2.1 qx.2.2)/\gs.length<=20/\AllB 1000 gs/\¬(2<=gs.length/\dI gs qx/\(aQ ns gs=[]/\eZ (itG l j) qx)/\aQ ns gs=[]/\eZ (itG l j') qx)) ?_ ?_
  case refine_2 =>
   intro rest;refine⟨_,rfl,(ae ⟨_,rfl,aG (λz0=>?_) (λz0=>?_)⟩)⟩
   ·refine bG ⟨KJ _,λg1 h1=>⟨by show 1<=sizeLine;decide,λg2 h2=>⟨by show 2<=sizeLine;decide,λg3 h3=>?_⟩⟩⟩;have v1:=Same.upd_new (o:=.lst []) h1;have f1:upd H8 g1 (.lst []) g1=some (.lst (([]:List Int).map V.int)):=ay;have v2:=Same.upd_new (o:=.lst [.int 7]) h2;have f2:upd (upd H8 g1 (.lst [])) g2 (.lst [.int 7]) g2=some (.lst (([7]:List Int).map V.int)):=ay;have v3:=Same.upd_new (o:=.lst [.ref g1,.ref g2]) h3;obtain⟨k1,k2⟩:=dC (x:=many) (m:=2) (by decide);have hm:many%2=0\/many%2=1:=by omega
    have ex:∃(g:Addr) (gs:List Int),atI [V.ref g1,V.ref g2] (many%2)=some (.ref g)/\upd (upd (upd H8 g1 (.lst [])) g2 (.lst [.int 7])) g3 (.lst [.ref g1,.ref g2]) g=some (.lst (gs.map V.int))/\gs.length<=1/\AllB 1000 gs:=by
     rcases hm with h |h<;>rw[h]
     ·exact⟨g1,[],rfl,v3 _ _ (v2 _ _ f1),by decide,λx hx=>nomatch hx⟩
     ·exact⟨g2,[7],rfl,v3 _ _ f2,by decide,λx hx=>by rw[KP.mp hx];exact Bits.mono (j:=3) (by show(7:Int).natAbs<2^3;decide) (by decide)⟩
    obtain⟨g,gs,ag,fg,gl1,gb1⟩:=ex;have v:=v1.trans (v2.trans v3);exact⟨_,rfl,(ae ⟨(by show(0:Int)<2;decide),g3,_,_,_,rfl,rfl,SqL.of ay,ag,rest _ _ ⟨g,p1,o,z,gs,q,rfl,s8.trans v,v _ _ e8,(s8.trans v) _ _ e1,fg,q1.same (s8.trans v),q2.same (s8.trans v),by omega,gb1,λy=>by have:=y.1;omega⟩⟩)⟩
   ·refine fW ⟨_,rfl,(ae ⟨_,rfl,aG (λ_=>?_) (λz5=>?_)⟩)⟩
    ·refine bG ⟨_,rfl,by show 3<=sizeLine;decide,λv1 hv1=>?_⟩;have u1:=Same.upd_new (o:=.lst [.int 1,.int 0,.int 1]) hv1
     have bl:AllB 2 [1,0,1]:=λx hx=>by
      simp only[KS,LV,or_false]at hx;rcases hx with rfl |rfl |rfl
      ·show(1:Int).natAbs<2^2;decide
      ·show(0:Int).natAbs<2^2;decide
      ·show(1:Int).natAbs<2^2;decide
     refine⟨pg,v1,am [cc] ns,[1,0,1],rfl,(s8.trans u1) _ _ eg5,ay,by omega,by show 3<=1000000;decide,gb.mono,bl.mono,λpg' H9 s9 hpg' eg'=>?_⟩;have u9:=u1.trans s9
     have ln:(am (am [cc] ns) [1,0,1]).length=ns.length+2:=by rw[cs (λz=>by rw[z]at gl;exact pP.ne (Lv.mp gl.symm)) (by simp),gl];show ns.length+3-1=_;omega
     refine rest _ _ ⟨pg',p1,o,z,_,q,rfl,s8.trans u9,u9 _ _ e8,(s8.trans u9) _ _ e1,eg',q1.same (s8.trans u9),q2.same (s8.trans u9),by omega,rB (i:=60) (j:=2) gb bl (by omega),λy=>?_⟩;have:=y.2.2.1.1;rw[GP (by omega) pP.tr]at this;exact pP.ne this
    ·have wy:1<=way/\way<=4:=by have z0':¬way=0:=z0;have z5':¬way=5:=z5;omega
     obtain⟨k1,k2⟩:=dC (x:=many) (m:=2) (by decide);have hm:many%2=0\/many%2=1:=by omega
     have hnb8:=(u5.trans s8) _ _ hnb
     have ex:∃(tw:Addr) (sw:Int×Int×Int),atI [V.ref pl,V.ref pr,V.ref ts,V.ref to] (2+many%2)=some (.ref tw)/\ST H8 tw sw/\Bits 310 sw.1/\Bits 310 sw.2.1/\Bits 310 sw.2.2/\0<(cE l q sw way).2.2/\((eZ (itG l j) (cE l q sw way)/\eZ (itG l j') (cE l q sw way))->¬dI ns (cE l q sw way)):=by
      rcases hm with h |h<;>rw[h]
      ·obtain⟨np,bad⟩:=N.spoilt wy pq;exact⟨ts,_,rfl,(u5.trans s8) _ _ hts,b4,b5,b6,np,λy c=>bad ⟨y.1,c⟩⟩
      ·obtain⟨np,bad⟩:=N'.spoilt wy pq;rw[<- Ap hlk]at np bad;exact⟨to,_,rfl,(u5.trans s8) _ _ hto,c4,c5,c6,np,λy c=>bad ⟨y.2,c⟩⟩
     obtain⟨tw,sw,aw,etw,f1,f2,f3,np,bad⟩:=ex;obtain⟨d1,d2,d3⟩:=om (l:=l) (way:=way) b1 b2 b3 f1 f2 f3;refine bG ⟨_,rfl,(aY (SqL.of hnb8) rfl rfl ⟨_,rfl,_,rfl,(ae ⟨(by show(0:Int)<2;decide),(ae ⟨nb,_,_,_,rfl,rfl,SqL.of hnb8,aw,_,rfl,t,pl,tw,l,q,sw,_,way,rfl,s8 _ _ et5,etw,(u5.trans s8) _ _ hpl,hl,G,hjq,f1,f2,f3,λtn H9 s9 hn9 en9=>?_⟩)⟩)⟩)⟩;refine⟨tn,_,rfl,en9,np,d3.mono,λp1' o1 z1 Ha sa ea ro1 rz1=>rest _ _ ⟨pg,p1',o1,z1,_,cE l q sw way,rfl,s8.trans (s9.trans sa),(s9.trans sa) _ _ e8,ea,(s8.trans (s9.trans sa)) _ _ eg5,eM ro1 np d1 d3 (by decide),eM rz1 np d2 d3 (by decide),by omega,gb.mono,λy=>bad ⟨y.2.2.1.2,y.2.2.2.2⟩ ((cG _).mp y.2.1)⟩⟩
  clear s8 e8;rintro σ' H8 ⟨pg',p1',o,z,gs,qx,rfl,s8,e8,e1b,egb,q1,q2,gl',gb',bad⟩;refine ie ⟨_,rfl,.inl ⟨rfl,_,SqL.of e8⟩,_,rfl,_,rfl,_,rfl,(aY (SqL.of e1b) rfl rfl (aY (SqL.of e1b) rfl rfl ⟨by show 4<=sizeLine;decide,λpt hpt=>cJ ?_⟩))⟩;have s9:=Same.upd_new (o:=.tup [.str "alike",.ref pg',.ref o,.ref z]) hpt;have t9:=s8.trans s9;change cT C CN [.ref x,.ref y,.ref pt] _ _ _;refine oi (r:=false) (N.same t9) (N'.same t9) ay (q1.same s9) (q2.same s9) (s9 _ _ egb) gl' gb' ⟨λh=>Bool.noConfusion h,λh=>absurd h bad⟩ λH10 s10=>⟨pf,_,_,rfl,rfl,(s9.trans s10) _ _ e8,by decide,?_⟩
  exact aL ⟨_,rfl,k pf _ (u5.trans (fh (t9.trans s10) pfn)) ay⟩
theorem rY{ns:List Int}(hn:ns≠[])(ht:Tr ns):aQ ns ns=[]:=Dv.rest hn ht ⟨1,[1],by decide,λn=>by rw[<- aW,one_mul _ ht,K4]⟩
theorem CmN.lk{C CN:Addr}{H:Hp}{x:Addr}{u v w d l1 l2 h1 h2 ε:Int}(c:CmN C CN H x u v w d l1 l2 h1 h2 ε):∃q,LkN C CN H x q (aP u v w d) l1 l2 h1 h2:=by obtain⟨p1,p2,p3,pb⟩:=fk c.ok;obtain⟨q,lo,hi,na,row,rl,rh,en,ru⟩:=c.ns.nu;exact⟨q,⟨lo,hi,na,rl,rh⟩,row,by omega,pb.mono,en.bl1.mono,en.bl2.mono,en.bh1.mono,en.bh2.mono⟩
theorem Spn.pe{C:Addr}{H:Hp}{l1 l2 h1 h2:Int}{s:List Int}{o y:Addr}{x1 x2 y1 y2:Int}(h:Spn C H l1 l2 h1 h2 s o y x1 x2 y1 y2):PEnd C H o x1 x2/\PEnd C H y y1 y2:=⟨⟨h.ho,h.en.l2p,h.en.bl1.mono,h.en.bl2.mono⟩,⟨h.hy,h.en.h2p,h.en.bh1.mono,h.en.bh2.mono⟩⟩
theorem wA{C CN:Addr}{H:Hp}{x y p:Addr}{u v w d a b c d' l1 l2 h1 h2 ε m1 m2 n1 n2 ε' r:Int}{Q:VK}{E:XK}(hX:CmN C CN H x u v w d l1 l2 h1 h2 ε)(hY:CmN C CN H y a b c d' m1 m2 n1 n2 ε')(hs:r=0->aP u v w d=aP a b c d')(hP:OPap C H p (aP u v w d) [u,d*v*v,w,ar v] [a,d'*b*b,c,ar b] l1 l2 h1 h2 m1 m2 n1 n2 r)(k:∀H',Same H H'->Q (.bl true) H'):cT C CN [.ref x,.ref y,.ref p] H Q E:=by
 obtain⟨q,L⟩:=hX.lk;obtain⟨q',L'⟩:=hY.lk;obtain⟨pP,p2,p3,pb⟩:=fk hX.ok;have yes:∀{r:Bool} {H':Hp} {G:Prop},Same H H'->G->(r=true↔G)->Q (.bl r) H':=λ{r H' G} sm g h=>by rw[h.mpr g];exact k H' sm
 rcases hP with⟨er,g,o,z,x1,x2,y1,y2,hp,hg,sp,sp'⟩ |⟨er,o,z,o',z',x1,x2,y1,y2,p1,p2,q1,q2,hp,sp,sp',le⟩ |⟨er,o,z,o',z',x1,x2,y1,y2,p1,p2,q1,q2,hp,sp,sp',le⟩
 ·have d0:=rY pP.ne pP.tr;refine⟨x,y,p,q,q',_,_,_,_,_,_,_,_,_,_,rfl,L,L',.inl ⟨g,o,z,_,_,_,_,_,hp,sp.pe.1,sp.pe.2,hg,by omega,pb.mono,λr' H' sm hr'=>yes sm ⟨p2,sp.chg hX,⟨d0,sp.lo,sp.hi⟩,by rw[<- hs er];exact d0,sp'.lo,sp'.hi⟩ hr'⟩⟩
 ·exact⟨x,y,p,q,q',_,_,_,_,_,_,_,_,_,_,rfl,L,L',.inr ⟨_,o,z,o',z',_,_,_,_,_,_,_,_,.inl rfl,hp,sp.pe.1,sp.pe.2,sp'.pe.1,sp'.pe.2,λr' H' sm hr'=>yes sm ⟨⟨⟨sp.lo,sp.hi⟩,sp.chg hX⟩,⟨⟨sp'.lo,sp'.hi⟩,sp'.chg hY⟩,λ_=>le,λe=>absurd e (by decide +kernel)⟩ hr'⟩⟩
 ·exact⟨x,y,p,q,q',_,_,_,_,_,_,_,_,_,_,rfl,L,L',.inr ⟨_,o,z,o',z',_,_,_,_,_,_,_,_,.inr rfl,hp,sp.pe.1,sp.pe.2,sp'.pe.1,sp'.pe.2,λr' H' sm hr'=>yes sm ⟨⟨⟨sp.lo,sp.hi⟩,sp.chg hX⟩,⟨⟨sp'.lo,sp'.hi⟩,sp'.chg hY⟩,λe=>absurd e (by decide +kernel),λ_=>le⟩ hr'⟩⟩
theorem OPap.same{C:Addr}{H H':Hp}{p:Addr}{ns s s':List Int}{l1 l2 h1 h2 m1 m2 n1 n2 r:Int}(h:OPap C H p ns s s' l1 l2 h1 h2 m1 m2 n1 n2 r)(sm:Same H H'):OPap C H' p ns s s' l1 l2 h1 h2 m1 m2 n1 n2 r:=by
 rcases h with⟨er,g,o,z,x1,x2,y1,y2,hp,hg,sp,sp'⟩ |⟨er,o,z,o',z',x1,x2,y1,y2,p1,p2,q1,q2,hp,sp,sp',le⟩ |⟨er,o,z,o',z',x1,x2,y1,y2,p1,p2,q1,q2,hp,sp,sp',le⟩
 ·exact .inl ⟨er,g,o,z,x1,x2,y1,y2,sm _ _ hp,sm _ _ hg,sp.same sm,sp'.same sm⟩
 ·exact .inr (.inl ⟨er,o,z,o',z',x1,x2,y1,y2,p1,p2,q1,q2,sm _ _ hp,sp.same sm,sp'.same sm,le⟩)
 ·exact .inr (.inr ⟨er,o,z,o',z',x1,x2,y1,y2,p1,p2,q1,q2,sm _ _ hp,sp.same sm,sp'.same sm,le⟩)
theorem CD{C CN:Addr}{H:Hp}{x y:Addr}{u v w d a b c d' l1 l2 h1 h2 ε m1 m2 n1 n2 ε' r r':Int}(hX:CmN C CN H x u v w d l1 l2 h1 h2 ε)(hY:CmN C CN H y a b c d' m1 m2 n1 n2 ε')(h:gR u v w d a b c d' r)(h':gR a b c d' u v w d r'):r'=0-r:=by
 have e:=rd hY hX h';rcases h with⟨rfl,lt⟩ |⟨rfl,lt⟩ |⟨rfl,e1,e2,e3⟩
 ·rw[wv hY.ns.spt hX.ns.spt lt]at e;omega
 ·rw[rc hY.ns.spt hX.ns.spt lt]at e;omega
 ·rw[e3]at e;rw[wx (by unfold ar;split<;>simp) e1.symm e2.symm]at e;omega
theorem wz{u v w d a b c d':Int}(hW:WOk u v w d)(hW':WOk a b c d')(h:gR u v w d a b c d' 0):aP u v w d=aP a b c d'/\∀t m,ao [u,d*v*v,w,ar v] t m=ao [a,d'*b*b,c,ar b] t m:=by
 rcases h with⟨e,_⟩ |⟨e,_⟩ |⟨_,e1,e2,e3⟩
 ·omega
 ·omega
 ·have w1:=hW.w1;have w2:=hW'.w1;refine⟨?_,λt m=>?_⟩
  ·rw[fG (by have:=hW.d2;omega),fG (by have:=hW'.d2;omega)];exact vg (by omega) (by omega) e1 e2
  ·rw[e3];exact ke w1 w2 e1 e2
theorem Dp(F:Fun K "law" "law" mG f fd)(T:Txt K mg)(R:RCI K mg C)(RN:NCI K mg CN)(Ia:Cal P w K mg base 2 "_law_two" ["_law_script"] (ud K) J8 Jc)(zn:Cal P w K mg base 5 "_law_span" ["_law_spots","_law_spot","_law_more"] ug Ka Je)(gv:Cal P w K mg base 1 "_law_cell_at" ["_law_script","_law_k"] (iR K) GG Gm)(zo:Cal P w K mg base 35 "_law_shape" ["_law_factor"] uk Kd Jh)(zw:Cal P w K mg base 4 "_law_number" ["_law_kp","_law_span_here"] (uD C CN) Km Jq)(Ih:Cal P w K mg base 3 "_law_order" ["_law_one","_law_other"] uB Kk Jo)(Iq:Cal P w K mg base 7 "_law_alike" ["_law_a","_law_b","_law_numbers_by","_law_kp","_law_many","_law_way_here"] (uW C CN) Kx JB)(HZ:Cal P w K mg base 7 "_law_unlike" ["_law_a","_law_b","_law_numbers_by","_law_due","_law_way_here","_law_turn"] (uc C CN) J7 Jb)(zj:Cal P w K mg base 38 "order_paper" ["first","second"] (uA C CN) JS IN)(zv:Cal P w K mg base 3 "_law_paper_right" ["_law_paper","_law_a","_law_b","_law_due"] (uw C CN) Ki Jm)(fR:Cal P w K mg base 6 "takes" ["first","second","paper"] (cT C CN) yf x5):FnOk P w K mg base CX0 40 f fd ["_law_script"] (lW K):=by
 refine F.ok cW (λvs H Q E h=>?_) (λcdv A outer s H vs Q E hr h=>?_)
 ·obtain⟨sa,ns,rfl,_⟩:=h;rfl
 ·obtain⟨sa,ns,rfl,hA,hns,k⟩:=h;have hu2:(A.deeper (PyProof.Rows.envOfC (Str.ofString "law") (aC mG) s.heap.objs.size f cdv)).units+66<cLine:=by have:=hr.un;omega
  refine⟨_,(af (aj 1 cW (ak Ia hr (aa (pv 0) ad)))
   (af (aj 2 cW (ak zn hr (aa (aN K (pv 1) ac) (aa (aN K (pv 1) ac) (aa (ah bZ (ak gv hr (aa (pv 0) (aa ac ad))) ac) ad)))))
   (af (aj 3 cW (ak zn hr (aa (aN K (pv 1) ac) (aa (aN K (pv 1) ac) (aa (ah bZ (ak gv hr (aa (pv 0) (aa ac ad))) ac) ad)))))
   (af (aj 4 cW (ak zo hr (aa (aN K (pv 1) ac) ad)))
   (af (aj 5 cW (ak zw hr (aa (pv 4) (aa (pv 2) ad))))
   (af (aj 6 cW (ak zw hr (aa (ak zo hr (aa (aN K (pv 1) ac) ad)) (aa (pv 3) ad))))
   (af (aj 7 cW (ak Ih hr (aa (aN K (pv 1) ac) (aa (aN K (pv 1) ac) ad))))
   (af (aj 8 cW (bh (aa (aN K (pv 1) ac) (aa (aN K (pv 1) ac) (aa (pv 2) (aa (pv 3) ad))))))
   (af (aj 9 cW (ah bZ (ak gv hr (aa (pv 0) (aa ac ad))) ac))
   (af (aM (aE bN (pv 7) ac)
     (ai (aj 10 cW (ak Iq hr (aa (pv 5) (aa (pv 6) (aa (pv 8) (aa (pv 4) (aa (pv 9) (aa (ah bZ (ak gv hr (aa (pv 0) (aa ac ad))) ac) ad)))))))))
     (ai (aj 10 cW (ak HZ hr (aa (pv 5) (aa (pv 6) (aa (pv 8) (aa (pv 7) (aa (ah bZ (ak gv hr (aa (pv 0) (aa ac ad))) ac) (aa (ah bZ (pv 9) ac) ad))))))))))
   (af (cj PassesOwn.never rfl (dQ (K:=K) rfl (pv 10)) (bH 11 cW)
     (ai (aM (cF (cw (cQ (jK (K:=K) rfl) (by rfl) T.isinstance_ PyProof.Rows.boot_isinstance (aa (pv 11) (aa (kD (v:=.ty "bool") (by rfl) T.bool_ PyProof.Rows.boot_bool (by rfl)) ad)))))
       (ai (ax cq))
       aS)))
   (af (aM (aE (CI (K:=K) rfl hu2) (pv 10) (bh (aa cq (aa cq (aa cq ad)))))
     (ai (ax cq))
     aS)
   (af (aj 12 cW (ak zj hr (aa (pv 5) (aa (pv 6) ad))))
   (af (aj 13 cW (ak zj hr (aa (pv 6) (aa (pv 5) ad))))
   (af (aM (PW.pt (du (cF (cw (ak zv hr (aa (pv 12) (aa (pv 5) (aa (pv 6) (aa (pv 7) ad))))))) (fe (cF (cw (ak zv hr (aa (pv 13) (aa (pv 6) (aa (pv 5) (aa (ah bB ac (pv 7)) ad))))))))))
     (ai (ax cq))
     aS)
   (ai (ax (eQ (bR wD (ak fR hr (aa (pv 5) (aa (pv 6) (aa (pv 12) ad)))) cq) (eN (bR wD (ak fR hr (aa (pv 6) (aa (pv 5) (aa (pv 13) ad)))) cq)))))))))))))))))))),?_⟩
  refine aA ⟨_,rfl,sa,ns,rfl,hA,λp pl pr po pt ws ws' f f' l l' H1 s1 ⟨ep,epl,epr,epo,ept,hW,hW',Ff,Ff',c1,c2,hl,hl'⟩=>?_⟩;obtain⟨u1,e1,b1,rfl,z1⟩:=id Ff;obtain⟨u2,e2,b2,rfl,z2⟩:=id Ff';obtain⟨σ1,rfl,_⟩:=ip (show 0<=e1 from c1) hl;obtain⟨σ2,rfl,_⟩:=ip (show 0<=e2 from c2) hl';obtain⟨m1,m2⟩:=dC (x:=ns.getD 3 0) (m:=10) (by decide);obtain⟨m3,m4⟩:=dC (x:=ns.getD 4 0) (m:=10) (by decide);refine aA (aY (SqL.of ep) rfl rfl (aY (SqL.of ep) rfl rfl ⟨_,rfl,sa,ns,3,rfl,s1.seq hA,(ae ⟨(by show(0:Int)<10;decide),po,pl,_,ws,_,_,8,rfl,m1,by show ns.getD 3 0%10<=20;omega,by decide,λs j S h=>ye Ff c1 hl S h,epo,hW,epl,hl,λx hx=>(j3 Ff c1 hx).k,λta H2 ja s2 _ eta hAa hja=>?_⟩)⟩));have t2:=s1.trans s2;refine aA (aY (SqL.of (s2 _ _ ep)) rfl rfl (aY (SqL.of (s2 _ _ ep)) rfl rfl ⟨_,rfl,sa,ns,4,rfl,t2.seq hA,(ae ⟨(by show(0:Int)<10;decide),pt,pr,_,ws',_,_,8,rfl,m3,by show ns.getD 4 0%10<=20;omega,by decide,λs j S h=>ye Ff' c2 hl' S h,s2 _ _ ept,hW'.same s2,s2 _ _ epr,hl',λx hx=>(j3 Ff' c2 hx).k,λtb H3 jb s3 _ etb hAb hjb=>?_⟩)⟩));have s23:=s2.trans s3;have ja25:ja<=25:=by have hja':ja<=8+(ns.getD 3 0%10).toNat:=hja;omega
  have jb25:jb<=25:=by have hjb':jb<=8+(ns.getD 4 0%10).toNat:=hjb;omega
  have kA:=(j3 Ff c1 hl);have kB:=(j3 Ff' c2 hl');have Sa:=dD kA.k ja;have Sb:=dD kB.k jb;have eta3:=s3 _ _ eta;have ep3:=s23 _ _ ep;have epl3:=s23 _ _ epl;have epr3:=s23 _ _ epr;refine aA (aY (SqL.of ep3) rfl rfl ⟨pl,[u1,e1,b1],σ1,rfl,epl3,nE Ff,λkp H4 s4 _ ekp=>?_⟩);refine aA ⟨_,rfl,_,rfl,kp,ta,_,_,rfl,ekp,s4 _ _ eta3,Sa.pos,(cU Sa (by omega)).2.2.mono,λx qx lx hx H5 s5 nax rowx rlx rhx=>?_⟩;have s45:=s4.trans s5;refine aA (aY (SqL.of (s45 _ _ ep3)) rfl rfl ⟨pr,[u2,e2,b2],σ2,rfl,s45 _ _ epr3,nE Ff',λkq H6 s6 _ ekq=>?_⟩);refine⟨_,rfl,kq,tb,_,_,rfl,ekq,(s45.trans s6) _ _ etb,Sb.pos,(cU Sb (by omega)).2.2.mono,λy qy ly hy H7 s7 nay rowy rly rhy=>?_⟩;have s67:=s6.trans s7;have s47:=s45.trans s67;obtain⟨u,v,w,d,ε,el,es,cx⟩:=yJ Ff c1 hl Sa hAa ja25 (nax.same s67) (s67 _ _ rowx) (rlx.same s67) (rhx.same s67);obtain⟨a,b,c,d',ε',el',es',cy⟩:=yJ Ff' c2 hl' Sb hAb jb25 nay rowy rly rhy;obtain⟨r,h3⟩:=CC cx cy;have eo:jr [u1,e1,b1,σ1] [u2,e2,b2,σ2]=r:=by rw[el,el'];exact rd cx cy h3
  have n:LN C CN H7 x [u1,e1,b1,σ1] (aJ [u1,e1,b1]) (itG [u1,e1,b1,σ1] ja):=⟨⟨u,v,w,d,ε,el,es,cx⟩,Sa.pos⟩;have n':LN C CN H7 y [u2,e2,b2,σ2] (aJ [u2,e2,b2]) (itG [u2,e2,b2,σ2] jb):=⟨⟨a,b,c,d',ε',el',es',cy⟩,Sb.pos⟩;have ep7:=s47 _ _ ep3;have epl7:=s47 _ _ epl3;have epr7:=s47 _ _ epr3;have ekp7:=(s5.trans s67) _ _ ekp;have eta7:=s47 _ _ eta3;have etb7:=s47 _ _ etb;have t7:=(s1.trans s23).trans s47;refine aA (aY (SqL.of ep7) rfl rfl (aY (SqL.of ep7) rfl rfl ⟨pl,pr,_,_,rfl,epl7,epr7,kA,kB,?_⟩));rw[eo];refine dN (λσ' H'=>σ'=[some (.ref sa),some (.ref p),some (.ref ta),some (.ref tb),some (.ref kp),some (.ref x),some (.ref y),some (.int r),none,none,none,none,none,none]/\H7=H') ⟨rfl,rfl⟩ ?_;rintro σ' H' ⟨rfl,rfl⟩;refine aA (aY (SqL.of ep7) rfl rfl (aY (SqL.of ep7) rfl rfl ⟨_,rfl,_,rfl,by show 4<=sizeLine;decide,λnb hnb=>?_⟩));have s8:=Same.upd_new (o:=.lst [.ref pl,.ref pr,.ref ta,.ref tb]) hnb;have e8:upd H7 nb (.lst [.ref pl,.ref pr,.ref ta,.ref tb]) nb=some (.lst [.ref pl,.ref pr,.ref ta,.ref tb]):=ay;generalize upd H7 nb (.lst [.ref pl,.ref pr,.ref ta,.ref tb])=H8 at s8 e8 ⊢
  have hA8:=(t7.trans s8).seq hA;refine aA ⟨_,rfl,sa,ns,5,rfl,hA8,_,_,rfl,rfl,(by show(0:Int)<2520;decide),?_⟩;refine dN (λσ' H'=>∃many:Int,σ'=[some (.ref sa),some (.ref p),some (.ref ta),some (.ref tb),some (.ref kp),some (.ref x),some (.ref y),some (.int r),some (.ref nb),some (.int many),none,none,none,none]/\H8=H') ⟨_,rfl,rfl⟩ ?_;rintro σ' H' ⟨many,rfl,rfl⟩;refine dP (λσ' H'=>∃pf:Addr,σ'=[some (.ref sa),some (.ref p),some (.ref ta),some (.ref tb),some (.ref kp),some (.ref x),some (.ref y),some (.int r),some (.ref nb),some (.int many),some (.ref pf),none,none,none]/\Same H8 H'/\H' pf=some (.lst [.bl true,.bl true,.bl false])) ?_ ?_
  case refine_2 =>
   intro rest;refine⟨_,rfl,(ae ⟨_,rfl,aG (λz=>?_) (λz=>?_)⟩)⟩
   ·have z':r=0:=z;rw[z']at h3;obtain⟨k1,k2⟩:=wz cx.ok cy.ok h3;obtain⟨m5,m6⟩:=dC (x:=ns.getD 6 0) (m:=6) (by decide);refine bG ⟨_,rfl,_,rfl,_,rfl,_,rfl,_,rfl,_,rfl,sa,ns,6,rfl,hA8,_,_,rfl,rfl,(by show(0:Int)<6;decide),x,y,nb,kp,pl,pr,ta,tb,[u1,e1,b1,σ1],[u2,e2,b2,σ2],aJ [u1,e1,b1],ja,jb,many,_,rfl,n.same s8,?_,e8,s8 _ _ epl7,s8 _ _ eta7,s8 _ _ etb7,kA.k,ja25,jb25,λt m=>?_,s8 _ _ ekp7,m5,by show ns.getD 6 0%6<=5;omega,λpf H' s' ef=>rest _ _ ⟨pf,rfl,s',ef⟩⟩
    ·rw[es,k1,<- es'];exact n'.same s8
    ·show ao [u1,e1,b1,σ1] t m=ao [u2,e2,b2,σ2] t m;rw[el,el'];exact k2 t m
   ·have z':¬r=0:=z;obtain⟨m5,m6⟩:=dC (x:=ns.getD 6 0) (m:=5) (by decide);refine bG ⟨_,rfl,_,rfl,_,rfl,_,rfl,_,rfl,sa,ns,6,rfl,hA8,_,_,rfl,rfl,(by show(0:Int)<5;decide),_,rfl,(ae ⟨(by show(0:Int)<2;decide),x,y,nb,pl,pr,ta,tb,[u1,e1,b1,σ1],[u2,e2,b2,σ2],_,_,_,_,ja,jb,r,_,_,rfl,n.same s8,n'.same s8,e8,s8 _ _ epl7,s8 _ _ epr7,s8 _ _ eta7,s8 _ _ etb7,kA.k,kB.k,Sa,Sb,ja25,jb25,?_,m5,by show ns.getD 6 0%5<=4;omega,λpf H' s' ef=>rest _ _ ⟨pf,rfl,s',ef⟩⟩)⟩;rw[el,el'];rcases h3 with⟨e,lt⟩ |⟨e,lt⟩ |⟨e,_⟩
    ·exact .inl ⟨e,lt⟩
    ·exact .inr ⟨e,lt⟩
    ·exact absurd e z'
  rintro σ' H9 ⟨pf,rfl,s9,ef⟩;refine⟨_,rfl,pf,rfl,⟨_,SqL.of ef⟩,iw (K:=K) (a:=pf) (xs:=[.bl true,.bl true,.bl false]) (λi σ' H'=>∃z:Option V,σ'=[some (.ref sa),some (.ref p),some (.ref ta),some (.ref tb),some (.ref kp),some (.ref x),some (.ref y),some (.int r),some (.ref nb),some (.int many),some (.ref pf),z,none,none]/\H9=H') ⟨none,rfl,rfl⟩ ?_ ?_ ?_⟩
  ·rintro i σ' H' _ ⟨z,rfl,rfl⟩;exact SqL.of ef
  ·rintro i xv σ' H' hi ⟨z,rfl,rfl⟩
   obtain⟨bb,rfl⟩:∃bb:Bool,xv=.bl bb:=by have hm:=List.mem_of_getElem? hi;simp only[KS,LV,or_false]at hm;rcases hm with rfl |rfl |rfl<;>exact⟨_,rfl⟩
   exact fW (cI (mJ (jd ⟨_,rfl,kP (.bl _) (k:=true) (by rfl) ⟨_,rfl,bU ⟨_,rfl,rfl⟩⟩⟩)))
  rintro σ' H' ⟨z,rfl,rfl⟩;dsimp only
  refine aU ⟨_,rfl,by show 3<=sizeLine;decide,λa2 f2=>⟨pf,a2,[true,true,false],rfl,rfl,SqL.of ((Same.upd_new f2) _ _ ef),SqL.of ay,_,rfl,bU ?_⟩⟩;refine dN (λσ' H'=>σ'=[some (.ref sa),some (.ref p),some (.ref ta),some (.ref tb),some (.ref kp),some (.ref x),some (.ref y),some (.int r),some (.ref nb),some (.int many),some (.ref pf),z,none,none]/\Same H7 H') ⟨rfl,s8.trans (s9.then_new f2)⟩ ?_;clear f2 a2 ef s9;rintro σ' H9 ⟨rfl,s9⟩;have cx9:=cx.same s9;have cy9:=cy.same s9;refine aA ⟨_,rfl,_,rfl,x,y,u,v,w,d,a,b,c,d',_,_,_,_,ε,_,_,_,_,ε',rfl,cx9,cy9,λr1 p1 Ha sa1 o1 P1=>?_⟩;have er1:r1=r:=by rw[<- rd cx cy o1,<- el,<- el',eo]
  subst er1;refine aA ⟨_,rfl,_,rfl,y,x,a,b,c,d',u,v,w,d,_,_,_,_,ε',_,_,_,_,ε,rfl,cy9.same sa1,cx9.same sa1,λr2 p2 Hb sb o2 P2=>?_⟩;have er2:=CD cx cy h3 o2;subst er2;have like:r1=0->aP u v w d=aP a b c d':=λz=>by rw[z]at h3;exact(wz cx.ok cy.ok h3).1
  have t9:=s9.trans (sa1.trans sb);have cxb:=cx.same t9;have cyb:=cy.same t9;show b8 _ _ _ _ _;refine dN (λσ' H'=>σ'=[some (.ref sa),some (.ref p),some (.ref ta),some (.ref tb),some (.ref kp),some (.ref x),some (.ref y),some (.int r1),some (.ref nb),some (.int many),some (.ref pf),z,some (.ref p1),some (.ref p2)]/\Hb=H') ⟨rfl,rfl⟩ ?_;rintro σ' H' ⟨rfl,rfl⟩;have P1b:=P1.same sb;refine aU (dM (cI ⟨_,rfl,_,rfl,_,rfl,_,rfl,p1,x,y,u,v,w,d,a,b,c,d',_,_,_,_,ε,_,_,_,_,ε',r1,rfl,cxb,cyb,like,P1b,λHc sc=>⟨_,rfl,bU ?_⟩⟩));refine cI ⟨_,rfl,_,rfl,_,rfl,_,rfl,(ae ⟨p2,y,x,a,b,c,d',u,v,w,d,_,_,_,_,ε',_,_,_,_,ε,0-r1,rfl,cyb.same sc,cxb.same sc,λz=>(like (by omega)).symm,P2.same sc,λHd sd=>⟨_,rfl,bU ?_⟩⟩)⟩;have scd:=sc.trans sd;refine aL (eH ⟨_,rfl,_,rfl,_,rfl,cJ ?_⟩);change cT C CN [.ref x,.ref y,.ref p1] _ _ _;refine wA (cxb.same scd) (cyb.same scd) like (P1b.same scd) λHe se=>⟨true,true,rfl,rfl,_,rfl,dm ?_⟩
  refine⟨_,rfl,_,rfl,_,rfl,cJ ?_⟩;change cT C CN [.ref y,.ref x,.ref p2] _ _ _;exact wA (cyb.same (scd.trans se)) (cxb.same (scd.trans se)) (λz=>(like (by omega)).symm) (P2.same (scd.trans se)) λHf sf=>⟨true,true,rfl,rfl,k _⟩
end
def FnL(K:PySem.W.Frag)(n:Str)(st:Stmt):Prop:=∃f fd,PySem.W.nsIn K mainGlobals n=some (some (.ref f))/\Fun K n n st f fd
def MtL(K:PySem.W.Frag)(C:Addr)(n q:Str)(st:Stmt):Prop:=∃f fd,PySem.W.findIn K (.ref C) n=some (some (.ref f))/\PySem.W.isFn K (.ref f)=true/\Fun K n q st f fd
structure ClL(K:PySem.W.Frag)(n:Str)(C:Addr):Prop where
 a:PySem.W.nsIn K mainGlobals n=some (some (.ref C))
 pg:PySem.W.plainGet K C Str.empty=true
 hd:PySem.W.hasDictIn K C=true
 po:PySem.W.plainOver K C=true
 sa:PySem.W.findIn K (.ref C) "__setattr__"=some (some (.builtin "object.__setattr__"))
 mkr:PySem.W.makesIn K C=true
 kc:PySem.W.keepIn K (.ref C)=true
 ha:PySem.W.findIn K (.ref C) "__class__"=some (some (.builtin "object.__class__"))
 hn:PySem.W.specialIn K (.builtin "object.__class__") "__get__"=some (some (.builtin "getset_descriptor.__get__"))
 ht:PySem.W.takesIn K (.builtin "object.__class__")=some true
 hm:PySem.W.mroIn K C (.type "object")=some true
section
variable {P:Program}{w:World}{K:PySem.W.Frag}{mg:Str->Option Value}{h base:Heap}{n q:Str}{st:Stmt}{f C:Addr}{oc kV dc pm cd ct:Value}{od an:Option Addr}{sl:Array (Option Value)}{fd:FuncData}{k:Nat}{ps:List Str}{sp:Sp}
theorem fnL(a:PySem.W.nsIn K mainGlobals n=some (some (.ref f)))(l:K.lookup f=some ⟨oc,od,.func (PySem.W.fnOf n n (eX st) (dH st) (aC st) .none kV dc pm an cd ct),sl⟩)(c:PySem.W.codeIn K cd n=true)(k:PySem.W.keepIn K (.ref f)=true):FnL K n st:=⟨_,_,a,xV l c k⟩
theorem mtL(a:PySem.W.findIn K (.ref C) n=some (some (.ref f)))(i:PySem.W.isFn K (.ref f)=true)(l:K.lookup f=some ⟨oc,od,.func (PySem.W.fnOf n q (eX st) (dH st) (aC st) .none kV dc pm an cd ct),sl⟩)(c:PySem.W.codeIn K cd q=true)(k:PySem.W.keepIn K (.ref f)=true):MtL K C n q st:=⟨_,_,a,i,xV l c k⟩
def Bx(P:Program)(w:World)(base:Heap):Prop:=P=P/\w=w/\base=base
def BdR(n q:Str)(st:Stmt)(ps:List Str):Prop:=∀(kV doc pm:Value) (an:Option Addr) (cdv ct:Value) (us:List Value),us.length=ps.length->bindArgs (PySem.W.fnOf n q (eX st) (dH st) (aC st) .none kV doc pm an cdv ct) ⟨us,[]⟩=pure (ps.zip us)
theorem cal(_:Bx P w base)(X:K.In h)(G:h.Ns mainGlobals mg)(a:PySem.W.nsIn K mainGlobals n=some (some (.ref f)))(F:Fun K n n st f fd)(o:FnOk P w K mg base CX0 k f fd ps sp)(b:BdR n n st ps):Cal P w K mg base k n ps sp f fd:=⟨o,PySem.W.mg_of X G a,F.kp,F.binds b⟩
theorem mY(_:Bx P w base)(a:PySem.W.findIn K (.ref C) n=some (some (.ref f)))(i:PySem.W.isFn K (.ref f)=true)(F:Fun K n q st f fd)(o:FnOk P w K mg base CX0 k f fd ps sp)(b:BdR n q st ps):MCal P w K mg base k C n ps sp f fd:=⟨o,⟨a,i,F.kp⟩,F.binds b⟩
theorem us1{A:List Value->Prop}(h:∀a,A [a]):∀us:List Value,us.length=1->A us
 | [a],_=>h a
theorem us2{A:List Value->Prop}(h:∀a b,A [a,b]):∀us:List Value,us.length=2->A us
 | [a,b],_=>h a b
theorem us3{A:List Value->Prop}(h:∀a b c,A [a,b,c]):∀us:List Value,us.length=3->A us
 | [a,b,c],_=>h a b c
theorem us4{A:List Value->Prop}(h:∀a b c d,A [a,b,c,d]):∀us:List Value,us.length=4->A us
 | [a,b,c,d],_=>h a b c d
theorem us6{A:List Value->Prop}(h:∀a b c d e f,A [a,b,c,d,e,f]):∀us:List Value,us.length=6->A us
 | [a,b,c,d,e,f],_=>h a b c d e f
end
theorem all_mk{l:PySem.W.OpenLaw}{w:World}{K:PySem.W.Frag}{h:Heap}{mg:Str->Option Value}{fa CC1 CC2 f4 dt4:Addr}(X:K.In h)(G:h.Ns mainGlobals mg)(hfa:mg "law"=some (.ref fa))
 {od4 an4 odt4:Option Addr} {sl4 slt4:Array (Option Value)} {oc4 kV4 dc4 pm4 cd4 ct4 oct4:Value} {nt4:Nat} {tk4_0:Tok}
 (cc1:ClL K "Ratio" CC1)
 (n1_top:PySem.W.findIn K (.ref CC1) "top"=some none)
 (n1_bottom:PySem.W.findIn K (.ref CC1) "bottom"=some none)
 (cc2:ClL K "Number" CC2)
 (n2_poly:PySem.W.findIn K (.ref CC2) "poly"=some none)
 (n2_low:PySem.W.findIn K (.ref CC2) "low"=some none)
 (n2_high:PySem.W.findIn K (.ref CC2) "high"=some none)
 (a4:PySem.W.findIn K (.ref CC1) "__init__"=some (some (.ref f4))) (i4:PySem.W.isFn K (.ref f4)=true)
 (l4:K.lookup f4=some ⟨oc4,od4,.func (PySem.W.fnOf "__init__" "Ratio.__init__" (eX jc) (dH jc) (aC jc) (.ref dt4) kV4 dc4 pm4 an4 cd4 ct4),sl4⟩) (c4:PySem.W.codeIn K cd4 "Ratio.__init__"=true) (k4:PySem.W.keepIn K (.ref f4)=true)
 (t4:K.lookup dt4=some ⟨oct4,odt4,.seq #[.int 1 tk4_0] nt4,slt4⟩)
 (z0:PySem.W.nsIn K mainGlobals "abs"=some none)
 (z1:PySem.W.nsIn K mainGlobals "len"=some none)
 (z2:PySem.W.nsIn K mainGlobals "max"=some none)
 (z3:PySem.W.nsIn K mainGlobals "range"=some none)
 (z4:PySem.W.nsIn K mainGlobals "enumerate"=some none)
 (z5:PySem.W.nsIn K mainGlobals "reversed"=some none)
 (z6:PySem.W.nsIn K mainGlobals "list"=some none)
 (z7:PySem.W.nsIn K mainGlobals "all"=some none)
 (z8:PySem.W.nsIn K mainGlobals "sum"=some none)
 (z9:PySem.W.nsIn K mainGlobals "int"=some none)
 (z10:PySem.W.nsIn K mainGlobals "isinstance"=some none)
 (z11:PySem.W.nsIn K mainGlobals "bool"=some none)
 (z12:PySem.W.nsIn K mainGlobals "tuple"=some none)
 (l1:FnL K "shared_by_two" pk)
 (l2:FnL K "shared" pp)
 (l3:FnL K "whole_sign" o0)
 (l5:MtL K CC1 "against" "Ratio.against" qS)
 (l6:FnL K "poly" pB)
 (l7:FnL K "degree" pN)
 (l8:FnL K "coefficient" pS)
 (l9:FnL K "taken" o5)
 (l10:FnL K "slope" o9)
 (l11:FnL K "shrunk" mF)
 (l12:FnL K "plain" pC)
 (l13:FnL K "scaled" pz)
 (l14:FnL K "lowered" pH)
 (l15:FnL K "divided" pM)
 (l16:FnL K "value_parts" o3)
 (l17:FnL K "sign_at" pd)
 (l18:FnL K "row_from" pA)
 (l19:FnL K "changes" pU)
 (l20:FnL K "count" pO)
 (l21:FnL K "common" pR)
 (l22:MtL K CC2 "__init__" "Number.__init__" qT)
 (l23:FnL K "divides" pL)
 (l24:FnL K "added" pZ)
 (l25:FnL K "multiplied" pF)
 (l26:MtL K CC1 "plus" "Ratio.plus" qQ)
 (l27:MtL K CC1 "minus" "Ratio.minus" qR)
 (l28:MtL K CC1 "times" "Ratio.times" qO)
 (l29:FnL K "halvings" pJ)
 (l30:FnL K "stretched" o6)
 (l31:FnL K "spread" o7)
 (l32:FnL K "moved" pG)
 (l33:FnL K "halved" pK)
 (l34:FnL K "along" pW)
 (l35:FnL K "narrowed" pE)
 (l36:FnL K "beside" pV)
 (l37:FnL K "against" pY)
 (l38:FnL K "side" ph)
 (l39:FnL K "compare" pQ)
 (l40:FnL K "span_of" o8)
 (l41:FnL K "changes_on" pT)
 (l42:FnL K "lies_in" pI)
 (l43:FnL K "shows_in" pi)
 (l44:FnL K "shows_alike" pj)
 (l45:FnL K "set_apart" px)
 (l46:FnL K "alike_paper" pX)
 (l47:FnL K "order_paper" pD)
 (l48:FnL K "takes" o4)
 (l49:FnL K "_law_cell_at" qK)
 (l50:FnL K "_law_mul" qA)
 (l51:FnL K "_law_gcd" qG)
 (l52:FnL K "_law_shrunk" mH)
 (l53:FnL K "_law_plain" qp)
 (l54:FnL K "_law_shape" qk)
 (l55:FnL K "_law_sure" qg)
 (l56:FnL K "_law_side" qj)
 (l57:FnL K "_law_roots_of" ql)
 (l58:FnL K "_law_norm" qz)
 (l59:FnL K "_law_way" qc)
 (l60:FnL K "_law_alone" mI)
 (l61:FnL K "_law_half" qF)
 (l62:FnL K "_law_span" qi)
 (l63:FnL K "_law_whole" p8)
 (l64:FnL K "_law_trim" qf)
 (l65:FnL K "_law_is_poly" qE)
 (l66:FnL K "_law_factor_by" qH)
 (l67:FnL K "_law_number" qw)
 (l68:FnL K "_law_real" qo)
 (l69:FnL K "_law_less" qC)
 (l70:FnL K "_law_lies_in" qB)
 (l71:FnL K "_law_at" qL)
 (l72:FnL K "_law_changes_on" qJ)
 (l73:FnL K "_law_is_ratio" qD)
 (l74:FnL K "_law_ends" qI)
 (l75:FnL K "_law_off" qv)
 (l76:FnL K "_law_pair_sign" qt)
 (l77:FnL K "_law_order" qu)
 (l78:FnL K "_law_two" qe)
 (l79:FnL K "_law_rest" qm)
 (l80:FnL K "_law_paper_right" qr)
 (l81:FnL K "_law_spoilt_span" qh)
 (l82:FnL K "_law_apart" qM)
 (l83:FnL K "_law_unlike" qd)
 (l84:FnL K "_law_alike" qN)
 (l85:FnL K "law" mG)
 (hTr:l.prog.given.tree=none)
 : ∃fd:FuncData,(∀(s:Shared) (v:Value),BindsTo s fd ⟨[v],[]⟩ [("_law_script",v)])/\∀base:Heap,K.In base->base.Ns mainGlobals mg->base.NoSeer->FnOk l.prog w K mg base CX0 40 fa fd ["_law_script"] (lW K):=by
 obtain⟨_,_,a1,F1⟩:=l1;obtain⟨_,_,a2,F2⟩:=l2;obtain⟨_,_,a3,F3⟩:=l3;obtain⟨_,_,a5,i5,F5⟩:=l5;obtain⟨_,_,a6,F6⟩:=l6;obtain⟨_,_,a7,F7⟩:=l7;obtain⟨_,_,a8,F8⟩:=l8;obtain⟨_,_,a9,F9⟩:=l9;obtain⟨_,_,a10,F10⟩:=l10;obtain⟨_,_,a11,F11⟩:=l11;obtain⟨_,_,a12,F12⟩:=l12;obtain⟨_,_,a13,F13⟩:=l13;obtain⟨_,_,a14,F14⟩:=l14;obtain⟨_,_,a15,F15⟩:=l15;obtain⟨_,_,a16,F16⟩:=l16;obtain⟨_,_,a17,F17⟩:=l17;obtain⟨_,_,a18,F18⟩:=l18;obtain⟨_,_,a19,F19⟩:=l19;obtain⟨_,_,a20,F20⟩:=l20;obtain⟨_,_,a21,F21⟩:=l21;obtain⟨_,_,a22,i22,F22⟩:=l22;obtain⟨_,_,a23,F23⟩:=l23;obtain⟨_,_,a24,F24⟩:=l24;obtain⟨_,_,a25,F25⟩:=l25;obtain⟨_,_,a26,i26,F26⟩:=l26;obtain⟨_,_,a27,i27,F27⟩:=l27;obtain⟨_,_,a28,i28,F28⟩:=l28;obtain⟨_,_,a29,F29⟩:=l29;obtain⟨_,_,a30,F30⟩:=l30;obtain⟨_,_,a31,F31⟩:=l31;obtain⟨_,_,a32,F32⟩:=l32;obtain⟨_,_,a33,F33⟩:=l33;obtain⟨_,_,a34,F34⟩:=l34;obtain⟨_,_,a35,F35⟩:=l35;obtain⟨_,_,a36,F36⟩:=l36;obtain⟨_,_,a37,F37⟩:=l37;obtain⟨_,_,a38,F38⟩:=l38;obtain⟨_,_,a39,F39⟩:=l39;obtain⟨_,_,a40,F40⟩:=l40;obtain⟨_,_,a41,F41⟩:=l41;obtain⟨_,_,a42,F42⟩:=l42;obtain⟨_,_,a43,F43⟩:=l43;obtain⟨_,_,a44,F44⟩:=l44;obtain⟨_,_,a45,F45⟩:=l45;obtain⟨_,_,a46,F46⟩:=l46;obtain⟨_,_,a47,F47⟩:=l47;obtain⟨_,_,a48,F48⟩:=l48;obtain⟨_,_,a49,F49⟩:=l49;obtain⟨_,_,a50,F50⟩:=l50;obtain⟨_,_,a51,F51⟩:=l51;obtain⟨_,_,a52,F52⟩:=l52;obtain⟨_,_,a53,F53⟩:=l53;obtain⟨_,_,a54,F54⟩:=l54;obtain⟨_,_,a55,F55⟩:=l55;obtain⟨_,_,a56,F56⟩:=l56;obtain⟨_,_,a57,F57⟩:=l57;obtain⟨_,_,a58,F58⟩:=l58;obtain⟨_,_,a59,F59⟩:=l59;obtain⟨_,_,a60,F60⟩:=l60;obtain⟨_,_,a61,F61⟩:=l61;obtain⟨_,_,a62,F62⟩:=l62;obtain⟨_,_,a63,F63⟩:=l63;obtain⟨_,_,a64,F64⟩:=l64;obtain⟨_,_,a65,F65⟩:=l65;obtain⟨_,_,a66,F66⟩:=l66;obtain⟨_,_,a67,F67⟩:=l67;obtain⟨_,_,a68,F68⟩:=l68;obtain⟨_,_,a69,F69⟩:=l69;obtain⟨_,_,a70,F70⟩:=l70;obtain⟨_,_,a71,F71⟩:=l71;obtain⟨_,_,a72,F72⟩:=l72;obtain⟨_,_,a73,F73⟩:=l73;obtain⟨_,_,a74,F74⟩:=l74;obtain⟨_,_,a75,F75⟩:=l75;obtain⟨_,_,a76,F76⟩:=l76;obtain⟨_,_,a77,F77⟩:=l77;obtain⟨_,_,a78,F78⟩:=l78;obtain⟨_,_,a79,F79⟩:=l79;obtain⟨_,_,a80,F80⟩:=l80;obtain⟨_,_,a81,F81⟩:=l81;obtain⟨_,_,a82,F82⟩:=l82;obtain⟨_,_,a83,F83⟩:=l83;obtain⟨_,_,a84,F84⟩:=l84;obtain⟨_,fdL,a85,F85⟩:=l85;cases hfa.symm.trans (PySem.W.mg_of X G a85);have T:Txt K mg:=⟨PySem.W.mg_none_of X G z0,PySem.W.mg_none_of X G z1,PySem.W.mg_none_of X G z2,PySem.W.mg_none_of X G z3,PySem.W.mg_none_of X G z4,PySem.W.mg_none_of X G z5,PySem.W.mg_none_of X G z6,PySem.W.mg_none_of X G z7,PySem.W.mg_none_of X G z8,PySem.W.mg_none_of X G z9,PySem.W.mg_none_of X G z10,PySem.W.mg_none_of X G z11,PySem.W.mg_none_of X G z12⟩;have R1:RCI K mg CC1:=⟨⟨cc1.pg,cc1.hd,cc1.po,cc1.sa⟩,n1_top,n1_bottom,PySem.W.mg_of X G cc1.a,cc1.ha,cc1.hn,cc1.ht,cc1.hm⟩;have R2:NCI K mg CC2:=⟨⟨cc2.pg,cc2.hd,cc2.po,cc2.sa⟩,n2_poly,n2_low,n2_high,PySem.W.mg_of X G cc2.a,cc2.ha,cc2.hn,cc2.ht,cc2.hm⟩;have F4:=FV (st:=jc) l4 c4 k4;have b4:=FunD.bindsD (ps:=["self","top","bottom"]) (ds:=[]) (tup:=[.int 1 tk4_0]) 3 F4 t4 rfl rfl λ_ _ _ _ _ _=>us3 λ_ _ _=>⟨_,rfl,rfl⟩
 have bD4:=FunD.bindsD (ps:=["self","top","bottom"]) (ds:=[.int 1 tk4_0]) (tup:=[.int 1 tk4_0]) 2 F4 t4 rfl rfl λ_ _ _ _ _ _=>us2 λ_ _=>⟨_,rfl,rfl⟩
 obtain⟨_,_,_,_,_,_,_,_,_,e,_,_⟩:=F85.ex;refine⟨fdL,λs v=>.of_eq (by rw[e];rfl),λbase KB GB hNS=>?_⟩;have Z:Bx l.prog w base:=⟨rfl,rfl,rfl⟩;have C1:=cal Z X G a1 F1 (Dc F1 T) λ_ _ _ _ _ _=>us2 λ_ _=>rfl
 have C2:=cal Z X G a2 F2 (Dd F2 T C1) λ_ _ _ _ _ _=>us1 λ_=>rfl
 have C3:=cal Z X G a3 F3 (CO F3 T) λ_ _ _ _ _ _=>us1 λ_=>rfl
 have K1:KCal l.prog w K mg base 2 CC1 "Ratio" ["self","top","bottom"] (fC CC1) _ _ _ [.int 1]:=⟨En F4 T R1 C1,⟨cc1.mkr,a4,i4,cc1.kc⟩,PySem.W.mg_of X G cc1.a,b4,bD4,.cons ⟨_,rfl⟩ .nil⟩;have C5:=mY Z a5 i5 F5 (Em F5 T R1 C3) λ_ _ _ _ _ _=>us2 λ_ _=>rfl
 have C6:=cal Z X G a6 F6 (Dh F6 T) λ_ _ _ _ _ _=>us1 λ_=>rfl
 have C7:=cal Z X G a7 F7 (Du F7 T) λ_ _ _ _ _ _=>us1 λ_=>rfl
 have C8:=cal Z X G a8 F8 (Dz F8 T) λ_ _ _ _ _ _=>us2 λ_ _=>rfl
 have C9:=cal Z X G a9 F9 (CS F9 T C6 C8) λ_ _ _ _ _ _=>us2 λ_ _=>rfl
 have C10:=cal Z X G a10 F10 (CW F10 T) λ_ _ _ _ _ _=>us1 λ_=>rfl
 have C11:=cal Z X G a11 F11 (C4 F11 T hNS hTr C2) λ_ _ _ _ _ _=>us1 λ_=>rfl
 have C12:=cal Z X G a12 F12 (Di F12 T C11) λ_ _ _ _ _ _=>us1 λ_=>rfl
 have C13:=cal Z X G a13 F13 (Df F13 T) λ_ _ _ _ _ _=>us2 λ_ _=>rfl
 have C14:=cal Z X G a14 F14 (Dn F14 T) λ_ _ _ _ _ _=>us4 λ_ _ _ _=>rfl
 have C15:=cal Z X G a15 F15 (Dt F15 T C3 C7 C13 C14 C6) λ_ _ _ _ _ _=>us2 λ_ _=>rfl
 have C16:=cal Z X G a16 F16 (CP F16 T) λ_ _ _ _ _ _=>us3 λ_ _ _=>rfl
 have C17:=cal Z X G a17 F17 (CY F17 T R1 C16 C3) λ_ _ _ _ _ _=>us2 λ_ _=>rfl
 have C18:=cal Z X G a18 F18 (Dg F18 T C11 C15 C9) λ_ _ _ _ _ _=>us2 λ_ _=>rfl
 have C19:=cal Z X G a19 F19 (DB F19 T R1 C17) λ_ _ _ _ _ _=>us2 λ_ _=>rfl
 have C20:=cal Z X G a20 F20 (Dw F20 T R1 C19) λ_ _ _ _ _ _=>us3 λ_ _ _=>rfl
 have C21:=cal Z X G a21 F21 (Dy F21 T C12 C15) λ_ _ _ _ _ _=>us2 λ_ _=>rfl
 have b22:Binds K _ ["self","row","low","high"] []:=F22.binds (λ_ _ _ _ _ _=>us4 λ_ _ _ _=>rfl);have K2:KCal l.prog w K mg base 1 CC2 "Number" ["self","row","low","high"] (lX CC2) _ _ _ []:=⟨Eo F22 T R2,⟨cc2.mkr,a22,i22,cc2.kc⟩,PySem.W.mg_of X G cc2.a,b22,b22,.nil⟩;have C23:=cal Z X G a23 F23 (Ds F23 T C15) λ_ _ _ _ _ _=>us2 λ_ _=>rfl
 have C24:=cal Z X G a24 F24 (DH F24 T C6 C8) λ_ _ _ _ _ _=>us2 λ_ _=>rfl
 have C25:=cal Z X G a25 F25 (Dl F25 T) λ_ _ _ _ _ _=>us2 λ_ _=>rfl
 have C26:=mY Z a26 i26 F26 (Ek F26 T R1 K1) λ_ _ _ _ _ _=>us2 λ_ _=>rfl
 have C27:=mY Z a27 i27 F27 (El F27 T R1 K1) λ_ _ _ _ _ _=>us2 λ_ _=>rfl
 have C28:=mY Z a28 i28 F28 (Ej F28 T R1 K1) λ_ _ _ _ _ _=>us2 λ_ _=>rfl
 have C29:=cal Z X G a29 F29 (Dq F29 T R1) λ_ _ _ _ _ _=>us2 λ_ _=>rfl
 have C30:=cal Z X G a30 F30 (CT F30 T R1 C2 C24 C25 C6) λ_ _ _ _ _ _=>us3 λ_ _ _=>rfl
 have C31:=cal Z X G a31 F31 (CU F31 T) λ_ _ _ _ _ _=>us1 λ_=>rfl
 have C32:=cal Z X G a32 F32 (Dm F32 T C7) λ_ _ _ _ _ _=>us1 λ_=>rfl
 have C33:=cal Z X G a33 F33 (Dr F33 T C31 C3 C32) λ_ _ _ _ _ _=>us3 λ_ _ _=>rfl
 have C34:=cal Z X G a34 F34 (DE F34 T R1 C26 C28 K1) λ_ _ _ _ _ _=>us4 λ_ _ _ _=>rfl
 have C35:=cal Z X G a35 F35 (Dk F35 T R1 C27 C29 C33 C30 C17 C34) λ_ _ _ _ _ _=>us4 λ_ _ _ _=>rfl
 have C36:=cal Z X G a36 F36 (DC F36 T R1 R2 C17) λ_ _ _ _ _ _=>us2 λ_ _=>rfl
 have C37:=cal Z X G a37 F37 (DG F37 T R1 R2 C5 C36 C17) λ_ _ _ _ _ _=>us2 λ_ _=>rfl
 have C38:=cal Z X G a38 F38 (CZ F38 T R1 R2 C17 C20 C18 C25 C10) λ_ _ _ _ _ _=>us2 λ_ _=>rfl
 have C39:=cal Z X G a39 F39 (Dx F39 T R1 R2 C37 C36 C38) λ_ _ _ _ _ _=>us2 λ_ _=>rfl
 have C40:=cal Z X G a40 F40 (CV F40 T R1 R2 C35) λ_ _ _ _ _ _=>us2 λ_ _=>rfl
 have C41:=cal Z X G a41 F41 (DA F41 T R1 C17 C5) λ_ _ _ _ _ _=>us3 λ_ _ _=>rfl
 have C42:=cal Z X G a42 F42 (Do F42 T R1 R2 C5) λ_ _ _ _ _ _=>us3 λ_ _ _=>rfl
 have C43:=cal Z X G a43 F43 (Da F43 T R1 R2 C42 C41) λ_ _ _ _ _ _=>us3 λ_ _ _=>rfl
 have C44:=cal Z X G a44 F44 (Db F44 T R1 R2 C7 C41 C23 C42) λ_ _ _ _ _ _=>us3 λ_ _ _=>rfl
 have C45:=cal Z X G a45 F45 (De F45 T R1 R2 K1 C40 C5 C28) λ_ _ _ _ _ _=>us2 λ_ _=>rfl
 have C46:=cal Z X G a46 F46 (DF F46 T R1 R2 C5 C21) λ_ _ _ _ _ _=>us2 λ_ _=>rfl
 have C47:=cal Z X G a47 F47 (Dj F47 T R1 R2 C39 C46 C45) λ_ _ _ _ _ _=>us2 λ_ _=>rfl
 have C48:=cal Z X G a48 F48 (CQ F48 T R1 R2 C44 C43 C5) λ_ _ _ _ _ _=>us3 λ_ _ _=>rfl
 have C49:=cal Z X G a49 F49 (Ee F49 T) λ_ _ _ _ _ _=>us2 λ_ _=>rfl
 have C50:=cal Z X G a50 F50 (D4 F50 T) λ_ _ _ _ _ _=>us2 λ_ _=>rfl
 have C51:=cal Z X G a51 F51 (Ea F51 T) λ_ _ _ _ _ _=>us2 λ_ _=>rfl
 have C52:=cal Z X G a52 F52 (DR F52 T hNS hTr C51) λ_ _ _ _ _ _=>us1 λ_=>rfl
 have C53:=cal Z X G a53 F53 (DW F53 T C52) λ_ _ _ _ _ _=>us1 λ_=>rfl
 have C54:=cal Z X G a54 F54 (DS F54 T C53) λ_ _ _ _ _ _=>us1 λ_=>rfl
 have C55:=cal Z X G a55 F55 (DN F55 T) λ_ _ _ _ _ _=>us2 λ_ _=>rfl
 have C56:=cal Z X G a56 F56 (DQ F56 T C55) λ_ _ _ _ _ _=>us3 λ_ _ _=>rfl
 have C57:=cal Z X G a57 F57 (DT F57 T) λ_ _ _ _ _ _=>us1 λ_=>rfl
 have C58:=cal Z X G a58 F58 (D3 F58 T) λ_ _ _ _ _ _=>us4 λ_ _ _ _=>rfl
 have C59:=cal Z X G a59 F59 (DJ F59 T C58 C56) λ_ _ _ _ _ _=>us3 λ_ _ _=>rfl
 have C60:=cal Z X G a60 F60 (Eh F60 T C59) λ_ _ _ _ _ _=>us3 λ_ _ _=>rfl
 have C61:=cal Z X G a61 F61 (D9 F61 T C59) λ_ _ _ _ _ _=>us2 λ_ _=>rfl
 have C62:=cal Z X G a62 F62 (DP F62 T C60 C61) λ_ _ _ _ _ _=>us3 λ_ _ _=>rfl
 have C63:=cal Z X G a63 F63 (DI F63 T) λ_ _ _ _ _ _=>us1 λ_=>rfl
 have C64:=cal Z X G a64 F64 (DM F64 T) λ_ _ _ _ _ _=>us1 λ_=>rfl
 have C65:=cal Z X G a65 F65 (D8 F65 T C63) λ_ _ _ _ _ _=>us1 λ_=>rfl
 have C66:=cal Z X G a66 F66 (Eb F66 T) λ_ _ _ _ _ _=>us2 λ_ _=>rfl
 have C67:=cal Z X G a67 F67 (D1 F67 T R1 R2 K1 K2) λ_ _ _ _ _ _=>us2 λ_ _=>rfl
 have C68:=cal Z X G a68 F68 (DV F68 T) λ_ _ _ _ _ _=>us1 λ_=>rfl
 have C69:=cal Z X G a69 F69 (D6 F69 T R1) λ_ _ _ _ _ _=>us2 λ_ _=>rfl
 have C70:=cal Z X G a70 F70 (D5 F70 T R1 R2 C69) λ_ _ _ _ _ _=>us3 λ_ _ _=>rfl
 have C71:=cal Z X G a71 F71 (Ef F71 T) λ_ _ _ _ _ _=>us3 λ_ _ _=>rfl
 have C72:=cal Z X G a72 F72 (Ed F72 T R1 C71 C69) λ_ _ _ _ _ _=>us3 λ_ _ _=>rfl
 have C73:=cal Z X G a73 F73 (D7 F73 T R1 C63 C51) λ_ _ _ _ _ _=>us1 λ_=>rfl
 have C74:=cal Z X G a74 F74 (Ec F74 T R1 K1) λ_ _ _ _ _ _=>us1 λ_=>rfl
 have C75:=cal Z X G a75 F75 (D0 F75 T C59) λ_ _ _ _ _ _=>us2 λ_ _=>rfl
 have C76:=cal Z X G a76 F76 (DY F76 T C55) λ_ _ _ _ _ _=>us3 λ_ _ _=>rfl
 have C77:=cal Z X G a77 F77 (DZ F77 T C76) λ_ _ _ _ _ _=>us2 λ_ _=>rfl
 have C78:=cal Z X G a78 F78 (DL F78 T C49 C68 C66 C57) λ_ _ _ _ _ _=>us1 λ_=>rfl
 have C79:=cal Z X G a79 F79 (DU F79 T C64) λ_ _ _ _ _ _=>us2 λ_ _=>rfl
 have C80:=cal Z X G a80 F80 (DX F80 T R1 R2 C73 C65 C79 C70 C72 C69) λ_ _ _ _ _ _=>us4 λ_ _ _ _=>rfl
 have C81:=cal Z X G a81 F81 (DO F81 T C75) λ_ _ _ _ _ _=>us4 λ_ _ _ _=>rfl
 have C82:=cal Z X G a82 F82 (Eg F82 T C61) λ_ _ _ _ _ _=>us4 λ_ _ _ _=>rfl
 have C83:=cal Z X G a83 F83 (DK F83 T R1 R2 C82 C74 C48 C81) λ_ _ _ _ _ _=>us6 λ_ _ _ _ _ _=>rfl
 have C84:=cal Z X G a84 F84 (Ei F84 T R1 R2 C61 C50 C74 C48 C81) λ_ _ _ _ _ _=>us6 λ_ _ _ _ _ _=>rfl
 exact Dp F85 T R1 R2 C78 C62 C49 C54 C67 C77 C84 C83 C47 C80 C48
theorem walk{l:PySem.W.OpenLaw}{q:Program}{loose:List Str}{XP:(Str->Option Value)->Heap->Prop}{YP:World->Heap->Prop}{d:DefRec}{K:Params->PySem.W.Frag}(hi:PyProof.Rows.importsNone q=true)(hn:l.most=some 63)(hdf:d.params.defaults=[])
 (hY:∀(w:World) (h:Heap),YP w h->(K w.params).In h)
 (F:∀(w:World) (mg:Str->Option Value) (fa:Addr) (h:Heap),(K w.params).In h->h.Ns mainGlobals mg->mg d.name=some (.ref fa) ->
   ∃fd:FuncData,(∀(s:Shared) (u:Value),BindsTo s fd ⟨[u],[]⟩ [("_law_script",u)])/\∀base:Heap,(K w.params).In base->base.Ns mainGlobals mg->base.NoSeer->FnOk l.prog w (K w.params) mg base CX0 40 fa fd ["_law_script"] (lW (K w.params))) :
 PySem.W.WalkO q loose XP YP l.row.toRowW d [] (λf vs=>PySem.call f vs) :=
 L2.walk_ofS (n:=63) (k:=40) (x:="_law_script") (CX:=λ_=>CX0) (sp:=λw=>lW (K w.params)) hi hn (by decide) hdf ⟨rfl,by decide,by decide⟩ hY F (λ_ _ a ns hl _ hS=>⟨a,ns,rfl,hS,hl,λ_=>rfl⟩) λ_ _ _ _ _ z=>z
section
end
end R85
open PySem PySem.W PyProof.Rows
set_option maxRecDepth 100000 in
set_option maxHeartbeats 0 in
theorem PySem.Challenge.cw_rootspan_k85_papers_by_hand_holds : PySem.Challenge.rw_rootspan_k85_papers_by_hand.Holds := by
 w_on;o_law;k_head;(case hw=>w_witness2)
 k_fill
 refine R85.walk (l:=PySem.Challenge.rw_rootspan_k85_papers_by_hand) (by decide +kernel) rfl rfl (λw h Y=>PySem.W.kIn_of Y) ?F
 case F =>
  intro w mg fa h KX G hmg
  refine' R85.all_mk KX G hmg ?cc1 ?n1_top ?n1_bottom ?cc2 ?n2_poly ?n2_low ?n2_high ?a4 ?i4 ?l4 ?c4 ?k4 ?t4 ?_ ?_ ?_ ?_ ?_ ?_ ?_ ?_ ?_ ?_ ?_ ?_ ?_ ?_ ?_ ?_ ?_ ?_ ?_ ?_ ?_ ?_ ?_ ?_ ?_ ?_ ?_ ?_ ?_ ?_ ?_ ?_ ?_ ?_ ?_ ?_ ?_ ?_ ?_ ?_ ?_ ?_ ?_ ?_ ?_ ?_ ?_ ?_ ?_ ?_ ?_ ?_ ?_ ?_ ?_ ?_ ?_ ?_ ?_ ?_ ?_ ?_ ?_ ?_ ?_ ?_ ?_ ?_ ?_ ?_ ?_ ?_ ?_ ?_ ?_ ?_ ?_ ?_ ?_ ?_ ?_ ?_ ?_ ?_ ?_ ?_ ?_ ?_ ?_ ?_ ?_ ?_ ?_ ?_ ?_ ?_ ?_ rfl
  (case cc1=>apply R85.ClL.mk<;>k_is)
  (case n1_top=>k_is)
  (case n1_bottom=>k_is)
  (case cc2=>apply R85.ClL.mk<;>k_is)
  (case n2_poly=>k_is)
  (case n2_low=>k_is)
  (case n2_high=>k_is)
  (case a4=>k_is)
  (case i4=>k_is)
  (case l4=>k_is)
  (case c4=>k_is)
  (case k4=>k_is)
  (case t4=>k_is)
  all_goals first | (apply R85.fnL<;>k_is) | (apply R85.mtL<;>k_is) |k_is
