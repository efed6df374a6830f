import PyProof.Rows.All
import Wide.All
import OpenK.AllK
import Wide.FinOn
import Lean
import PyProof.EqAt
import PyProof.EqKinds
import PyProof.TupleCall
import PyProof.NeKinds
import KE.LcSums
import KE.KRevSl
import OpenK.KTop
import PyProof.Draws
import PyProof.EnumMake
import KE.KIntText
import KE.KxText
import PyProof.StrLawsTight
import PyProof.StrLawsChain
import PyProof.StrLawsIn
import PyProof.StrLawsJoin
import PyProof.CallStr
import PyProof.MeetsStr
import PyProof.MeetsStr2
import PyProof.StrCalls2
import PyProof.StrLoop
import PyProof.ConsumeWalk
import PyProof.ExcBaseAll.ValueError
import PyProof.NsDelKeeps
import KE.KIsAll
import PyProof.ExcAttrAll.ValueError
import PySem.Challenge.RW_asitruns_k76_empty_policy
set_option Elab.async false
set_option linter.all false
namespace L3
open PySem PySem.W
noncomputable def pickH (os : List Obj) : Nat → List Nat → List (Option Obj) :=
  @List.rec Obj (fun _ => Nat → List Nat → List (Option Obj)) (fun _ _ => []) (fun o _ ih g gs => @Nat.rec (fun _ => List (Option Obj)) ((@Bool.rec (fun _ => Option Obj) none (some o) o.alive) :: @List.rec Nat (fun _ => List (Option Obj)) [] (fun g' r _ => ih g' r) gs) (fun g' _ => ih g' gs) g) os
noncomputable def pickL (os : List Obj) (gs : List Nat) : List (Option Obj) := @List.rec Nat (fun _ => List (Option Obj)) [] (fun g r _ => pickH os g r) gs
noncomputable def gapsH (as : List Nat) : Nat → List Nat := @List.rec Nat (fun _ => Nat → List Nat) (fun _ => []) (fun a _ ih i => Nat.sub a i :: ih (Nat.add a 1)) as
noncomputable def absH (gs : List Nat) : Nat → List Nat := @List.rec Nat (fun _ => Nat → List Nat) (fun _ => []) (fun g _ ih i => Nat.add i g :: ih (Nat.add (Nat.add i g) 1)) gs
theorem upH {os : List Obj} {o : Obj} {i : Nat} : ∀ {bs : List Nat} {ss : List Obj}, bs.map (fun a => if i + 1 ≤ a then os[a - (i + 1)]? else none) = ss.map some → bs.map (fun a => if i ≤ a then (o :: os)[a - i]? else none) = ss.map some
  | [], ss, e => by cases ss with | nil => rfl | cons x y => cases e
  | b :: bs, [], e => by cases e
  | b :: bs, x :: y, e => by
    have e1 : (if i + 1 ≤ b then os[b - (i + 1)]? else none) = some x := (List.cons.inj e).1
    by_cases c : i + 1 ≤ b
    · rw [if_pos c] at e1
      rw [List.map_cons, List.map_cons, upH (List.cons.inj e).2, if_pos (by omega), show b - i = (b - (i + 1)) + 1 by omega, List.getElem?_cons_succ, e1]
    · rw [if_neg c] at e1; cases e1
theorem pickH_ok : ∀ {os : List Obj} {g i : Nat} {r : List Nat} {rs : List Obj}, pickH os g r = rs.map some → (g :: r).length = rs.length → (absH (g :: r) i).map (fun a => if i ≤ a then os[a - i]? else none) = rs.map some ∧ ∀ x ∈ rs, x.alive = true
  | [], g, i, r, rs, h, hl => by
    have h : [] = rs.map some := h
    cases rs with
    | nil => cases hl
    | cons a b => cases h
  | o :: os, 0, i, r, [], h, hl => by cases hl
  | o :: os, 0, i, r, x :: rs, h, hl => by
    have h : (@Bool.rec (fun _ => Option Obj) none (some o) o.alive) :: @List.rec Nat (fun _ => List (Option Obj)) [] (fun g' r _ => pickH os g' r) r = some x :: rs.map some := h
    have h1 := (List.cons.inj h).1
    have h2 := (List.cons.inj h).2
    cases al : o.alive with
    | false => rw [al] at h1; cases h1
    | true =>
      rw [al] at h1
      cases h1
      have z : (absH r (i + 1)).map (fun a => if i + 1 ≤ a then os[a - (i + 1)]? else none) = rs.map some ∧ ∀ x ∈ rs, x.alive = true := by
        cases r with
        | nil =>
          have : rs = [] := List.length_eq_zero_iff.mp (Nat.succ.inj hl).symm
          subst this
          exact ⟨rfl, fun _ z => nomatch z⟩
        | cons g' r' => exact pickH_ok h2 (Nat.succ.inj hl)
      refine ⟨?_, fun y hy => ?_⟩
      · show (Nat.add i 0 :: absH r (Nat.add (Nat.add i 0) 1)).map _ = _
        show ((if i ≤ i then (o :: os)[i - i]? else none) :: (absH r (i + 1)).map _) = some o :: rs.map some
        rw [if_pos (Nat.le_refl _), Nat.sub_self, List.getElem?_cons_zero, upH z.1]
      · rcases List.mem_cons.mp hy with rfl | hy
        · exact al
        · exact z.2 y hy
  | o :: os, g + 1, i, r, rs, h, hl => by
    have z := pickH_ok (i := i + 1) (show pickH os g r = rs.map some from h) hl
    refine ⟨?_, z.2⟩
    have e : absH ((g + 1) :: r) i = absH (g :: r) (i + 1) := by
      show (i + (g + 1)) :: absH r (i + (g + 1) + 1) = (i + 1 + g) :: absH r (i + 1 + g + 1)
      rw [show i + (g + 1) = i + 1 + g by omega]
    rw [e]
    exact upH z.1
noncomputable def lookH (K : Params → Frag) (as : List Addr) (e : ∀ P, as = (K P).map (·.1)) (ha : absH (gapsH as 0) 0 = as) : Hook :=
  ⟨List (Option Obj), fun s => pickL s.heap.objs.toList (gapsH as 0), fun w => (K w.params).map fun p => some p.2, InK K, fun w s x => InK.of e w s (by
    have x : pickL s.heap.objs.toList (gapsH as 0) = ((K w.params).map (·.2)).map some := by rw [List.map_map]; exact x
    have hl : as.length = ((K w.params).map (·.2)).length := by rw [e w.params, List.length_map, List.length_map]
    rw [show ((K w.params).map fun p => some p.2) = ((K w.params).map (·.2)).map some by rw [List.map_map]; rfl]
    have gl : ∀ (bs : List Nat) (i : Nat), (gapsH bs i).length = bs.length := fun bs => by
      induction bs with
      | nil => exact fun _ => rfl
      | cons b bs ih => exact fun i => congrArg Nat.succ (ih _)
    have y : (absH (gapsH as 0) 0).map (fun a => if 0 ≤ a then s.heap.objs.toList[a - 0]? else none) = ((K w.params).map (·.2)).map some ∧ ∀ x ∈ (K w.params).map (·.2), x.alive = true := by
      have := gl as 0
      cases q : gapsH as 0 with
      | nil =>
        rw [q] at this x
        have z : (K w.params).map (·.2) = [] := List.length_eq_zero_iff.mp (hl.symm.trans this.symm)
        rw [z]
        exact ⟨rfl, fun _ z => nomatch z⟩
      | cons g r =>
        rw [q] at this x
        exact pickH_ok x (this.trans hl)
    rw [ha] at y
    obtain ⟨y, al⟩ := y
    have go : ∀ {bs : List Nat} {ss : List Obj}, (∀ r ∈ ss, r.alive = true) → bs.map (fun a => if 0 ≤ a then s.heap.objs.toList[a - 0]? else none) = ss.map some → bs.map s.heap.get? = ss.map some := by
      intro bs
      induction bs with
      | nil => intro ss _ e; cases ss with | nil => rfl | cons x y => cases e
      | cons b bs ih =>
        intro ss al e
        cases ss with
        | nil => cases e
        | cons x y =>
          have e1 : (if 0 ≤ b then s.heap.objs.toList[b - 0]? else none) = some x := (List.cons.inj e).1
          rw [if_pos (Nat.zero_le _), Nat.sub_zero, Array.getElem?_toList] at e1
          rw [List.map_cons, List.map_cons, (Heap.get?_eq_some _ _ _).mpr ⟨e1, al x (List.mem_cons_self ..)⟩, ih (fun r hr => al r (List.mem_cons_of_mem _ hr)) (List.cons.inj e).2]
    exact go al y), InK.keeps⟩
end L3

namespace PySem.W.Fast
def tw13769068553240189044:Nat:=0
def tw10213151174380704940:Nat:=0
def tw14804448094636086888:Nat:=0
def tw192972036655641277:Nat:=0
def tw16671793347999511412:Nat:=0
def tw1714077978471341284:Nat:=0
def tw11326554951797005392:Nat:=0
def tw8799930721803804895:Nat:=0
def tw10596216672017301864:Nat:=0
def tw3324727392491541081:Nat:=0
def tw2489446456315803864:Nat:=0
def tw2019565263315085511:Nat:=0
def tw5917061015114120526:Nat:=0
def tw5434871482389582899:Nat:=0
def tw6717732380103529046:Nat:=0
def tw5649933073096538408:Nat:=0
def tw2786882539076075953:Nat:=0
def tw680777887055832333:Nat:=0
def tw1458138271686536499:Nat:=0
def tw12088285158352963715:Nat:=0
def tw18216668912946177547:Nat:=0
def tw16439094953493800406:Nat:=0
def tw10950853120261448869:Nat:=0
def tw5411901004737504663:Nat:=0
def tw18067020010060225359:Nat:=0
def tw9175116872860543994:Nat:=0
def tw12666748082723199629:Nat:=0
def tw9129931848232773900:Nat:=0
def tw18391722204792780645:Nat:=0
def tw10627086546310134480:Nat:=0
def tw1506455474189698867:Nat:=0
def tw15433053704363121906:Nat:=0
def tw9097965213347254310:Nat:=0
def tw164148003977500469:Nat:=0
def tw15798338398246963018:Nat:=0
def tw11719736933649952010:Nat:=0
def tw12248167237608568984:Nat:=0
def tw12983989637123142857:Nat:=0
def tw5165058922346419233:Nat:=0
def tw1134260316218622718:Nat:=0
def tw13401507538230045853:Nat:=0
def tw9486396559494642842:Nat:=0
def tw15642093017205517770:Nat:=0
def tw4035886449586414165:Nat:=0
def tw12339247404794374341:Nat:=0
def tw15549531719117825319:Nat:=0
def tw75740938850952642:Nat:=0
def tw16076371573099689573:Nat:=0
def tw7177661434288976187:Nat:=0
def tw145182278674178684:Nat:=0
def tw8018919284819574383:Nat:=0
def tw13792765632310342642:Nat:=0
def tw17419570261451201050:Nat:=0
def tw10653331510305090365:Nat:=0
def tw18440462362523125690:Nat:=0
def tw17197419330735232054:Nat:=0
def tw17224035620693570869:Nat:=0
def tw15527090604081856605:Nat:=0
def tw371598937724375076:Nat:=0
def tw18409129805486626229:Nat:=0
def tw17998497987349869144:Nat:=0
def tw12103993088590940781:Nat:=0
def tw4355034656422374169:Nat:=0
def tw12677305168414567511:Nat:=0
def tw5592026243082329056:Nat:=0
def tw9629686719855428955:Nat:=0
def tw4031308351370019509:Nat:=0
def tw815529639220549616:Nat:=0
def tw4985675538635206326:Nat:=0
def tw2539411796742816662:Nat:=0
def tw17257705279961387156:Nat:=0
def tw8533303203324092712:Nat:=0
def tw12475482979317565436:Nat:=0
def tw4684371198041494926:Nat:=0
def tw5693358489532097110:Nat:=0
def tw10973842480113720154:Nat:=0
def tw5911274808839936131:Nat:=0
def tw757896189672505673:Nat:=0
def tw12973177950041178822:Nat:=0
def tw7368593574492001422:Nat:=0
def tw5297273686281179098:Nat:=0
def tw56876097959562943:Nat:=0
def tw17510376089511599213:Nat:=0
def tw7725618302172929459:Nat:=0
def tw8900262220040929705:Nat:=0
def tw10255034307756858649:Nat:=0
def tw12053542703115606426:Nat:=0
def tw8269420751430049235:Nat:=0
def tw5588851215310539355:Nat:=0
def tw857732588302477712:Nat:=0
def tw16951453115203044333:Nat:=0
def tw15385724246313008414:Nat:=0
def tw16137604881344516301:Nat:=0
def tw13243222121186965512:Nat:=0
def tw2093643864327670613:Nat:=0
def tw10253471855066736880:Nat:=0
def tw7661224596191828981:Nat:=0
def tw12949500833330071054:Nat:=0
def tw15570334617499316737:Nat:=0
def tw6501605786077848580:Nat:=0
def tw4328768004904486397:Nat:=0
def tw18041284757990934185:Nat:=0
def tw11441260355249615181:Nat:=0
def tw12588006181359913594:Nat:=0
def tw14988602771000642917:Nat:=0
def tw12908836931483608642:Nat:=0
def tw5821655683108285503:Nat:=0
def tw14198406598073581988:Nat:=0
def tw17931844004150868438:Nat:=0
def tw1909802996114253134:Nat:=0
def tw16144465367985721130:Nat:=0
def tw7685460677424063758:Nat:=0
def tw561713713119753131:Nat:=0
def tw4153686157474484704:Nat:=0
def tw7697314515171783978:Nat:=0
def tw2137511512969250803:Nat:=0
def tw17630901164955680253:Nat:=0
def tw12483807009331176164:Nat:=0
def tw10342545493452983250:Nat:=0
def tw3126544792913036710:Nat:=0
def tw1960448662146521957:Nat:=0
def tw11413286032044944738:Nat:=0
def tw9514718958047161753:Nat:=0
def tw11244299239096976191:Nat:=0
def tw16864322375129856540:Nat:=0
def tw11629351303334763517:Nat:=0
def tw17044944918669750148:Nat:=0
def tw10195771572932848698:Nat:=0
def tw15416762137747703024:Nat:=0
def tw7376363886878714284:Nat:=0
def tw10984169674468641514:Nat:=0
def tw14579005696326229827:Nat:=0
def tw6627715206870096894:Nat:=0
def tw2173563369796917963:Nat:=0
def tw15819535699614604671:Nat:=0
def tw5159393100202430537:Nat:=0
def tw8624552347497563031:Nat:=0
def tw18395900727709100885:Nat:=0
def tw13775408667031116986:Nat:=0
def tw13845842220922592999:Nat:=0
def tw3072821568970418424:Nat:=0
def tw5764971450333477039:Nat:=0
def tw10072001548796694309:Nat:=0
def tw11469086177686569892:Nat:=0
def tw13558334563384142812:Nat:=0
def tw15057612979133410284:Nat:=0
def tw4379774764781709796:Nat:=0
def tw13576502121880335462:Nat:=0
def tw12417486314403032075:Nat:=0
def tw3210056594714143338:Nat:=0
def tw5400561682668780639:Nat:=0
def tw4780658188103387420:Nat:=0
def tw10173254017051519506:Nat:=0
def tw13499242856058931879:Nat:=0
def tw13488233443308732800:Nat:=0
def tw8193421149215939056:Nat:=0
def tw5149781070832489603:Nat:=0
def tw178453246282791066:Nat:=0
def tw2651137863632522486:Nat:=0
def tw11694514446129533910:Nat:=0
def tw14387987429526803552:Nat:=0
def tw6383859109187761352:Nat:=0
def tw8980137611659394810:Nat:=0
def tw531219828892121737:Nat:=0
def tw8945359579544116722:Nat:=0
def tw13885926100703676382:Nat:=0
def tw14335010499859182058:Nat:=0
def tw18351996395029675857:Nat:=0
def tw14696343857350288454:Nat:=0
def tw6570823828815807970:Nat:=0
def tw12643670608821556043:Nat:=0
def tw2437942325160448684:Nat:=0
def tw13178031665315344824:Nat:=0
def tw8257353183374582374:Nat:=0
def tw7776480838589193085:Nat:=0
def tw9499641247242711950:Nat:=0
def tw16279903964538909068:Nat:=0
def tw3313886138690526670:Nat:=0
def tw11158629731383017890:Nat:=0
def tw6924188402503903945:Nat:=0
def tw4822112580424171859:Nat:=0
def tw18355819547063911425:Nat:=0
def tw12347146857290923881:Nat:=0
def tw8854321629685866623:Nat:=0
def tw14659646659567405473:Nat:=0
def tw7056056985836969786:Nat:=0
def tw1214524500157668098:Nat:=0
def tw1338425833000338412:Nat:=0
def tw15153970532679693362:Nat:=0
def tw2888286587034359400:Nat:=0
def tw12414864788365850019:Nat:=0
def tw3007727056953071134:Nat:=0
def tw530089906308345951:Nat:=0
def tw6902705215731644153:Nat:=0
def tw4490462096413010331:Nat:=0
def tw16108903259726496497:Nat:=0
def tw9645206252644188841:Nat:=0
def tw5076922261613281832:Nat:=0
def tw7632937053174128719:Nat:=0
def tw15392295878448923668:Nat:=0
def tw16595557277701593253:Nat:=0
def tw3637365485397181967:Nat:=0
def tw13227863439374436659:Nat:=0
def tw11930085036704098019:Nat:=0
def tw14580871826426465977:Nat:=0
def tw5837399664666330319:Nat:=0
def tw14182408634529336752:Nat:=0
def tw5997381603633411694:Nat:=0
def tw586278846082590126:Nat:=0
def tw17216741850867908394:Nat:=0
def tw15210116001654841693:Nat:=0
def tw7082882996853391606:Nat:=0
def tw7173163566354560204:Nat:=0
def tw14197621495060132972:Nat:=0
def tw12056086523775801189:Nat:=0
def tw7628398105251421995:Nat:=0
def tw3935272253735218052:Nat:=0
def tw18378460290157720056:Nat:=0
def tw2285369613075632706:Nat:=0
def tw13939678326066141004:Nat:=0
def tw16023966940484546796:Nat:=0
def tw13442443016978908091:Nat:=0
def tw14792993016634076989:Nat:=0
def tw4122213629068835919:Nat:=0
def tw3164582157081626448:Nat:=0
def tw18010946365195502745:Nat:=0
def tw7153087058119287589:Nat:=0
def tw12012010811653946848:Nat:=0
def tw6356842319162202960:Nat:=0
def tw9119499463970293025:Nat:=0
def tw453521830101555717:Nat:=0
def tw9398405725324753413:Nat:=0
def tw16090674920755994562:Nat:=0
def tw15207583307476186645:Nat:=0
def tw10682548772372447811:Nat:=0
def tw7706401512438629099:Nat:=0
def tw9469306284953339402:Nat:=0
def tw12611761511483546429:Nat:=0
def tw11095003606129096784:Nat:=0
def tw5083596841373930217:Nat:=0
def tw3090862748438523354:Nat:=0
def tw2433312683186655321:Nat:=0
def tw639792321129699033:Nat:=0
def tw12010897072394020264:Nat:=0
def tw9695421741424106154:Nat:=0
def tw11450307698139178764:Nat:=0
def tw4963679463364631573:Nat:=0
def tw14756512084549027331:Nat:=0
def tw7451018641814360829:Nat:=0
def tw18406548615789843451:Nat:=0
def tw15283367767128142680:Nat:=0
def tw14429199397030414567:Nat:=0
def tw14261472982440114222:Nat:=0
def tw76877905656473552:Nat:=0
def tw6392085317929360306:Nat:=0
def tw16103135913331185136:Nat:=0
def tw14176539235111111799:Nat:=0
def tw2488024333460127684:Nat:=0
def tw15678221513301432201:Nat:=0
def tw10100912129985246645:Nat:=0
def tw18335337345081782704:Nat:=0
def tw16240013327058972078:Nat:=0
def tw11630419453361914510:Nat:=0
def tw3731312103672371462:Nat:=0
def tw1572757742574557573:Nat:=0
def tw6563318059861210262:Nat:=0
def tw9262786022034564052:Nat:=0
def tw5179791852649929367:Nat:=0
def tw16359091458169927525:Nat:=0
def tw11367687897240006040:Nat:=0
def tw2440819399279274604:Nat:=0
def tw14189513923203823859:Nat:=0
def tw13282716340988819950:Nat:=0
def tw6060258849182690901:Nat:=0
def tw17025591685284955090:Nat:=0
def tw11008825603091391576:Nat:=0
def tw13007729875491935627:Nat:=0
def tw4814140919907801960:Nat:=0
def tw14643054447795294114:Nat:=0
def tw17201016494200293600:Nat:=0
def tw10993228381404467520:Nat:=0
def tw5006337220082943021:Nat:=0
def tw13873433366272506657:Nat:=0
def tw12918940025185725741:Nat:=0
def tw295914472214805305:Nat:=0
def tw12548024294845021040:Nat:=0
def tw17048330262785934007:Nat:=0
def tw194756492016480916:Nat:=0
def tw8881505720924336782:Nat:=0
def tw9099992472892036588:Nat:=0
def tw10553601244048205233:Nat:=0
def tw4783191050932040192:Nat:=0
def tw3756637143638012468:Nat:=0
def tw13890915109761000412:Nat:=0
def tw17183273536487682584:Nat:=0
def tw16501528603863113644:Nat:=0
def tw18063087886564589711:Nat:=0
def tw1970859407124384667:Nat:=0
def tw6107464130189364674:Nat:=0
def tw10322481905646703924:Nat:=0
def tw8840539556867358038:Nat:=0
def tw4272576679491856629:Nat:=0
def tw15287017570044923166:Nat:=0
def tw12821633493894558249:Nat:=0
def tw14601073297520761221:Nat:=0
def tw14173969483476333202:Nat:=0
def tw6459291817066636652:Nat:=0
def tw2102455816791219998:Nat:=0
def tw10938340001639837602:Nat:=0
def tw17028499990727464543:Nat:=0
def tw6964529301850501855:Nat:=0
def tw18346399842393162990:Nat:=0
def tw10321966032105567286:Nat:=0
def tw17067098704595544470:Nat:=0
def tw16340202877028833460:Nat:=0
def tw15666652433427197657:Nat:=0
def tw7835158511783839337:Nat:=0
def tw12137178055368325852:Nat:=0
def tw14747396257726603279:Nat:=0
def tw15245553508646212172:Nat:=0
def tw3942481887484113608:Nat:=0
def tw16039195132795381510:Nat:=0
def tw6550697960918029503:Nat:=0
def tw17712026367199649825:Nat:=0
def tw17569340669135440983:Nat:=0
def tw10090693389961965705:Nat:=0
def tw6026197214783996021:Nat:=0
def tw6837662098094775155:Nat:=0
def tw17083026029779756067:Nat:=0
def tw10542277756025513597:Nat:=0
def tw16690220745153252944:Nat:=0
def tw18343074964352747042:Nat:=0
def tw7926467987377796318:Nat:=0
def tw4240902617158428303:Nat:=0
def tw11645497571849981253:Nat:=0
def tw17974568128527126048:Nat:=0
def tw2949661526491467780:Nat:=0
def tw10935128640391398438:Nat:=0
def tw815028868204812209:Nat:=0
def tw1269444053541302224:Nat:=0
def tw1305214719994180443:Nat:=0
def tw9881646920914369356:Nat:=0
def tw6469362447187255531:Nat:=0
def tw3632729612918769213:Nat:=0
def tw4541830090976843146:Nat:=0
def tw16979795041233115388:Nat:=0
def tw6126543326331032724:Nat:=0
def tw13802335128837178438:Nat:=0
def tw9961262643226493605:Nat:=0
def tw7920121718350575395:Nat:=0
def tw919885829884948107:Nat:=0
def tw12453037834625613700:Nat:=0
def tw18085817551386695042:Nat:=0
def tw17167420077871958250:Nat:=0
def tw7381110641673296113:Nat:=0
def tw16299626365175350656:Nat:=0
def tw15205565155797425835:Nat:=0
def tw16697841169350007778:Nat:=0
def tw2703064351285709764:Nat:=0
def tw8880790934929373195:Nat:=0
def tw12206325175958405498:Nat:=0
def tw5055845053151682823:Nat:=0
def tw10745566537273122175:Nat:=0
def tw15564905854005374234:Nat:=0
def tw6558847997306739318:Nat:=0
def tw3893119968482826319:Nat:=0
def tw14356472067727450269:Nat:=0
def tw4271713141448188293:Nat:=0
def tw9111496235484421245:Nat:=0
def tw15537053120954979946:Nat:=0
def tw638574968529153119:Nat:=0
def tw17355395608460544661:Nat:=0
def tw3601905918934267902:Nat:=0
def tw5217640515583909885:Nat:=0
def tw11259071803154629103:Nat:=0
def tw17473619763658339359:Nat:=0
def tw1858067529720959386:Nat:=0
def tw14621789899414527246:Nat:=0
def tw6323077603397988334:Nat:=0
def tw3481749774370885870:Nat:=0
def tw13579740891314798300:Nat:=0
def tw13037014564980368258:Nat:=0
def tw8785130442549959140:Nat:=0
def tw17013589502138337342:Nat:=0
def tw436663512680934738:Nat:=0
def tw3623073941432769669:Nat:=0
def tw14067575190811677767:Nat:=0
def tw14224733546135236341:Nat:=0
def tw5487552573443806404:Nat:=0
def tw5593373468360981964:Nat:=0
def tw2615492374337656623:Nat:=0
def tw8057575406490877796:Nat:=0
def tw6465934663819027172:Nat:=0
def tw10066034940532259679:Nat:=0
def tw7567549460316911759:Nat:=0
def tw11091908546092385507:Nat:=0
def tw13734363770382531729:Nat:=0
def tw2618984905118746718:Nat:=0
def tw7399343725747308013:Nat:=0
def tw4205460297460855934:Nat:=0
def tw11797442147737263368:Nat:=0
def tw7617787263749775164:Nat:=0
def tw862744676386161323:Nat:=0
def tw15884985539472239907:Nat:=0
def tw10855874598706954050:Nat:=0
def tw3685737829307478022:Nat:=0
def tw8009936060252486693:Nat:=0
def tw17422213750785748828:Nat:=0
def tw14970452894523527976:Nat:=0
def tw1255701423928876964:Nat:=0
def tw6512372975509748080:Nat:=0
end PySem.W.Fast
section
open PySem PySem.W PyProof.Rows
local macro_rules | `(tactic| o_head ($h:term $k:term $a:term $g:term $t:term)) => `(tactic| o_head ((L3.lookH $k $a $g) (by kernel_rfl)))
set_option maxRecDepth 100000 in
set_option maxHeartbeats 0 in
open_top K76H for PySem.Challenge.rw_asitruns_k76_empty_policy
end
set_option Elab.async false
set_option linter.all false
set_option maxRecDepth 100000
set_option hygiene false
local macro_rules|`(tactic|k_dat 0"r0")=>`(tactic|(refine qO rfl (by decide) ?_))
local macro_rules|`(tactic|k_dat 0"r1")=>`(tactic|(obtain⟨φ,st,ρ,P,pre,ht,hq⟩:=h))
local macro_rules|`(tactic|k_dat 0"r2")=>`(tactic|(intro pins s σ H Q I h))
local macro_rules|`(tactic|k_dat 0"r3")=>`(tactic|(have ba:atI (g.bs.map Dt.int) a=some (.int (bx g a)):=qp ok a0 a1))
local macro_rules|`(tactic|k_dat 0"r4")=>`(tactic|(have bb:atI (g.bs.map Dt.int) b=some (.int (bx g b)):=qp ok b0 b1))
local macro_rules|`(tactic|k_dat 0"r5")=>`(tactic|(have bc:atI (g.bs.map Dt.int) (c%8)=some (.int (bx g (c%8))):=qp ok (by lia) (by lia)))
local macro_rules|`(tactic|k_dat 0"r6")=>`(tactic|(have va:=qw ok a0 a1))
local macro_rules|`(tactic|k_dat 0"r7")=>`(tactic|(have vb:=qw ok b0 b1))
local macro_rules|`(tactic|k_dat 0"r8")=>`(tactic|(have vc:=qw ok (i:=c%8) (by lia) (by lia)))
local macro_rules|`(tactic|k_dat 0"r9")=>`(tactic|(refine⟨φ,st,ρ,_,pre,ht,fun x st1 h1 φ1 H1 v b1 dx=>?_⟩))
local macro_rules|`(tactic|k_dat 0"r10")=>`(tactic|(obtain⟨φ,st,x,y,P,R,dx,dy,hr,hq⟩:=h))
local macro_rules|`(tactic|k_dat 0"r11")=>`(tactic|(refine wpAny_bind ?_))
local macro_rules|`(tactic|k_dat 0"r12")=>`(tactic|(simp only [DL] at h))
local macro_rules|`(tactic|k_dat 0"r13")=>`(tactic|(intro pins s σ H v w u1 u2 Q I r1 r2 h))
local macro_rules|`(tactic|k_dat 0"r14")=>`(tactic|(obtain⟨φ,st,ρ,P,pre,ht,n,b,c,r⟩:=h))
local macro_rules|`(tactic|k_dat 0"r15")=>`(tactic|(intro pins s σ H D I h))
local macro_rules|`(tactic|k_dat 0"r16")=>`(tactic|(intro pins s σ H x y v u Q I rx ry h))
local macro_rules|`(tactic|k_dat 0"r17")=>`(tactic|(refine wpAny_pure ?_))
local macro_rules|`(tactic|k_dat 0"r18")=>`(tactic|(refine step_eq rfl (by decide) ?_))
local macro_rules|`(tactic|k_dat 0"r19")=>`(tactic|(obtain⟨x,H1,I1,r1,q1⟩:=hqz))
local macro_rules|`(tactic|k_dat 0"r20")=>`(tactic|(obtain⟨t,rfl⟩:=rx))
local macro_rules|`(tactic|k_dat 0"r21")=>`(tactic|(intro pins s σ H vs us Q I rv h))
local macro_rules|`(tactic|k_dat 0"r22")=>`(tactic|(intro X hP hw hK hc i pins s σ H E I hf st hg))
local macro_rules|`(tactic|k_dat 0"r23")=>`(tactic|(obtain⟨φ,st,ds,P,R,dl,hr,hq⟩:=h))
local macro_rules|`(tactic|k_dat 0"r24")=>`(tactic|(intro pins s σ H xs us Q I r h))
local macro_rules|`(tactic|k_dat 0"r25")=>`(tactic|(refine⟨φ,st,ρ,_,pre,ht,fun d st1 h1 φ1 H1 v b1 dx=>?_⟩))
local macro_rules|`(tactic|k_dat 0"r26")=>`(tactic|(obtain⟨f0,f1,f2,f3,f4,f5⟩:=hf it (by simp)))
local macro_rules|`(tactic|k_dat 0"r27")=>`(tactic|(obtain rfl:u=Value.ref a:=rx))
local macro_rules|`(tactic|k_dat 0"r28")=>`(tactic|(obtain⟨v,rfl,dx⟩:=dl.one))
local macro_rules|`(tactic|k_dat 0"r29")=>`(tactic|(refine⟨φ1,st1,ρ,_,pre.on b1,h1,fun y st2 h2 φ2 H2 w b2 dy=>?_⟩))
local macro_rules|`(tactic|k_dat 0"r30")=>`(tactic|(rcases ds with _ | ⟨x,_ | ⟨y,r⟩⟩))
local macro_rules|`(tactic|k_dat 0"r31")=>`(tactic|(obtain⟨o',e1⟩:=I.base.there b o e hx))
local macro_rules|`(tactic|k_dat 0"r32")=>`(tactic|(obtain⟨vs,(h | ⟨ob,h⟩) | h⟩:=h))
local macro_rules|`(tactic|k_dat 0"r33")=>`(tactic|(refine⟨φ,st,ρ,_,pre,ht,fun k st1 h1 φ1 H1 b1=>?_⟩))
local macro_rules|`(tactic|k_dat 0"r34")=>`(tactic|(obtain⟨its2,rv2,pl2,_⟩:=I.list s2))
local macro_rules|`(tactic|k_dat 0"r35")=>`(tactic|(rcases ds with _ | ⟨d,_ | ⟨d2,r⟩⟩))
local macro_rules|`(tactic|k_dat 0"r36")=>`(tactic|(obtain⟨φ,st,ds,Pd,R,dl,hs,hq⟩:=h))
local macro_rules|`(tactic|k_dat 0"r37")=>`(tactic|(obtain⟨C,f,fd,ps,h1,h2,h3,h4,h5⟩:=F.ex))
local macro_rules|`(tactic|k_dat 0"r38")=>`(tactic|(simp only [tseq,qR,qX,qE,qB,qD,qP,qI,qA,qG,qAf,qAc,qBw,qGx,qCA,qBG,qAp,qBl,qM,qo,qCk,qJ,qAo,qD2,qCN,qBN,qBh,qBr,qBF,qAU,qBD,qBE,qAa,qd,qAs,qL,qAB,qBu,L3.qAT,L3.qC2,qAk,qCK,qZ,qBV,qCJ,qAO,qU,qCZ,qAj,qAq,qB6,List.map_cons,List.map_nil,List.length_cons,List.length_nil,List.cons_append,List.nil_append,List.replicate,List.set,List.getElem?_cons_zero,List.getElem?_cons_succ,Option.map_some,SO.items,GS.d]))
local macro_rules|`(tactic|k_dat 0"r39")=>`(tactic|(simp only [tseq,qX,qI,qA,qG,qE,qB,qD,qL,qd,qAB,RW8,List.getElem?_cons_zero,List.getElem?_cons_succ,bb,bc]))
local macro_rules|`(tactic|k_dat 0"r40")=>`(tactic|(simp only [Bool.and_eq_true,decide_eq_true_eq] at hm))
local macro_rules|`(tactic|k_dat 0"r41")=>`(tactic|(obtain⟨_,_,_,_,_,h,_⟩:=h;exact h.elim))
local macro_rules|`(tactic|k_dat 0"r42")=>`(tactic|(generalize st.set _ _=s1 at a1 k1 ⊢))
local macro_rules|`(tactic|k_dat 0"r43")=>`(tactic|(exact I1.qPi (Nat.le_refl _) (I1.hok.fresh (Nat.le_refl _))))
local macro_rules|`(tactic|k_dat 0"r44")=>`(tactic|(rw [show qDA f v ((k,x)::r)=(if k=f then (k,v)::r else (k,x)::qDA f v r) from rfl]))
local macro_rules|`(tactic|k_dat 0"r45")=>`(tactic|(intro pins s σ H x v vl vu lo hi sl Q I rx hs pl pu h))
local macro_rules|`(tactic|k_dat 0"r46")=>`(tactic|(intro value slice pins s σ H x y v u Q I rx ry h hs))
local macro_rules|`(tactic|k_dat 0"r47")=>`(tactic|(obtain⟨oc,od,kV,doc,pm,an,cdv,ct,osl,rfl,lk,hcd⟩:=F.ex))
local macro_rules|`(tactic|k_dat 0"r48")=>`(tactic|(exact (no h1 h2 (fun _ z=>by cases z) (fun _ _ z=>by cases z)).elim))
local macro_rules|`(tactic|k_dat 0"r49")=>`(tactic|(have l1:its.toArray.size=a.length:=rv.length.symm.trans hd.length.symm))
local macro_rules|`(tactic|k_dat 0"r50")=>`(tactic|(have l2:its2.toArray.size=b.length:=rv2.length.symm.trans hd2.length.symm))
local macro_rules|`(tactic|k_dat 0"r51")=>`(tactic|(refine⟨φ,st,ρ,_,pre,ht,fun items ok st1 h1 φ1 H1 J b1 hJ=>?_⟩))
local macro_rules|`(tactic|k_dat 0"r52")=>`(tactic|(exact qBI (qGC o (Int.emod_nonneg _ (by decide)) (Int.emod_lt_of_pos _ (by decide)))))
local macro_rules|`(tactic|k_dat 0"r53")=>`(tactic|(show (match st[n]? with | some (.ob c' fs)=>_ | _=>_)))
local macro_rules|`(tactic|k_dat 0"r54")=>`(tactic|(obtain⟨k,rfl⟩:∃ k:Nat,a=(k:Nat):=⟨a.toNat,by lia⟩))
local macro_rules|`(tactic|k_dat 0"r55")=>`(tactic|(refine seq1 (ifS (inS (ss:=["add", "sub", "mul", "div"]) (qC (i:=5) rfl) (qe (fun _ h=>h) (by show 4≤sizeLine;decide)) h1) (fun e=>nomatch e) fun _=>?_)))
local macro_rules|`(tactic|k_dat 0"r56")=>`(tactic|(refine qD0 (by decide +kernel) (by decide +kernel) (by decide +kernel) (qB5 l1 (by decide +kernel) fun s2 k2 l2=>?_)))
local macro_rules|`(tactic|k_dat 0"r57")=>`(tactic|(have hv:d = .int ((i:Nat):Int):=by rw [(qBS hi).2];congr 1;lia))
local macro_rules|`(tactic|k_dat 0"r58")=>`(tactic|(have I1:Inv X pins σ H { s with heap:=h' }:=I.turned (t':=s.toks) (fun b o hb e=>(sb.2 b hb).trans e) f0 f1 f3 f4 f5))
local macro_rules|`(tactic|k_dat 0"r59")=>`(tactic|(show wpAny _ _ (if (((sIx items.size 0 lo:Nat):Int)==0&&(1:Int)==1&&(sIx items.size items.size hi - sIx items.size 0 lo)==items.size)=true then _ else _) _ _ s))
local macro_rules|`(tactic|k_dat 0"r60")=>`(tactic|(exact⟨φ1,st1,ρ,P,pre.on b1,h1,fun k st2 h2 φ2 H2 b2=>hq k st2 h2 φ2 H2 (b1.trans b2)⟩))
local macro_rules|`(tactic|k_dat 0"r61")=>`(tactic|(refine⟨φ,st,ρ,_,pre,ht,fun ds st1 h1 φ1 H1 vs b1 dx=>⟨by rw [← dx.length];exact h1.1,fun p hp=>?_⟩⟩))
local macro_rules|`(tactic|k_dat 0"r62")=>`(tactic|(have hu9:X.A.units+8+1<cLine:=Nat.lt_of_le_of_lt (Nat.add_le_add_left (by decide:9≤16) _) hu))
local macro_rules|`(tactic|k_dat 0"r63")=>`(tactic|(have I1:Inv X pins σ H { s with heap:=h' }:=I.kept (t':=s.toks) fun b o e=>hx b o (Nat.ne_of_lt (Heap.lt_size e)) e))
local macro_rules|`(tactic|k_dat 0"r64")=>`(tactic|(refine⟨_,ht,φ,st,qU N ds,_,⟨R,qKB dl N⟩,hb ds st Pd hs,fun ρ' st' h' φ' H' σ' b' d'=>hq _ st' h' φ' H' _ b' D.qH5,fun ρ' st' h'=>h'.elim,fun ρ' st' h'=>h'.elim,fun d st' h' φ' H' v b' d'=>hq d st' h' φ' H' v b' d'⟩))
local macro_rules|`(tactic|k_dat 0"r65")=>`(tactic|(refine⟨φ1 n,da,vs,dx.ins.2,hv,?_,φ1,st1,ρ,_,pre.on b1,h1,fun ds st2 h2 φ2 H2 us b2 dl=>?_⟩))
local macro_rules|`(tactic|k_dat 0"r66")=>`(tactic|(unfold Builtin.SmallTypes.nextOf;refine wpAny_bind (wpAny_callSpecial?_slot (name:=Str.ofString "__next__") hit.typeIs slot_tupleiter_next (wpAny_call_entry slot_tupleiter_next hit.typeIs entry_tupleiter_next ?_ (args_tupleiter_next _)))))
local macro_rules|`(tactic|k_dat 0"r67")=>`(tactic|(show wpAny _ _ (field (.ref it) 0 >>= _) _ _ s;refine wpAny_bind (wpAny_field ho hd (x:=.ref t) rfl ?_)))
local macro_rules|`(tactic|k_dat 0"r68")=>`(tactic|(show wpAny _ _ (if (Value.ref t==Value.none)=true then _ else _) _ _ s;rw [if_neg (show ¬ ((Value.ref t==Value.none)=true) from Bool.false_ne_true)]))
local macro_rules|`(tactic|k_dat 0"r69")=>`(tactic|(show wpAny _ _ (field (.ref it) 1 >>= _) _ _ s;refine wpAny_bind (wpAny_field ho hd (x:=.int i 0) rfl ?_)))
local macro_rules|`(tactic|k_dat 0"r70")=>`(tactic|(show wpAny _ _ (seqItems? (.ref t) >>= _) _ _ s;refine wpAny_bind (wpAny_seqItems hol hdl ?_);simp only [Int.toNat_natCast,hx]))
local macro_rules|`(tactic|k_dat 0"r71")=>`(tactic|(rw [z,q1] at q4;cases q4;rw [q2] at q5;injection q5 with q7;exact absurd q7 (by decide)))
local macro_rules|`(tactic|k_dat 0"r72")=>`(tactic|(simp only [tseq,qR,qX,qE,qB,qD,qP,qI,qA,qG,qAf,qAc,qBw,qGx,qCA,qBG,qAp,qBl,qM,qo,qCk,qJ,qAo,qD2,qCN,qBN,qBh,qBr,qBF,qAU,qBD,qBE,qAa,qd,qAs,qL,qAB,qBu,L3.qAT,L3.qC2,qAk,qCK,qZ,qBV,qCJ,qAO,qU,qCZ,qAj,qAq,qB6,List.map_cons,List.map_nil,List.length_cons,List.length_nil,List.cons_append,List.nil_append,List.replicate,List.set,List.getElem?_cons_zero,List.getElem?_cons_succ,Option.map_some,SO.items]))
local macro_rules|`(tactic|k_dat 0"r73")=>`(tactic|(simp only [tseq,qR,qX,qE,qB,qD,qP,qI,qA,qG,qAf,qAc,qBw,qGx,qCA,qBG,qAp,qBl,qM,qo,qCk,qJ,qAo,qD2,qCN,qBN,qBh,qBr,qBF,qAU,qBD,qBE,qAa,qd,qAs,qL,qAB,qBu,L3.qAT,L3.qC2,qAk,qCK,qZ,qBV,qCJ,qAO,qU,qCZ,qAj,qAq,qB6,List.map_cons,List.map_nil,List.length_cons,List.length_nil,List.cons_append,List.nil_append,List.replicate,List.set,List.getElem?_cons_zero,List.getElem?_cons_succ,Option.map_some,SO.items,msD]))
local macro_rules|`(tactic|k_dat 0"r74")=>`(tactic|(simp only [tseq,qR,qX,qE,qB,qD,qP,qI,qA,qG,qAf,qAc,qBw,qGx,qCA,qBG,qAp,qBl,qM,qo,qCk,qJ,qAo,qD2,qCN,qBN,qBh,qBr,qBF,qAU,qBD,qBE,qAa,qd,qAs,qL,qAB,qBu,L3.qAT,L3.qC2,qAk,qCK,qZ,qBV,qCJ,qAO,qU,qCZ,qAj,qAq,qB6,List.map_cons,List.map_nil,List.length_cons,List.length_nil,List.cons_append,List.nil_append,List.replicate,List.set,List.getElem?_cons_zero,List.getElem?_cons_succ,Option.map_some,SO.items,GS.d,svD,at3]))
local macro_rules|`(tactic|k_dat 0"r75")=>`(tactic|(rw [List.getElem?_map,List.getElem?_eq_getElem hi,List.getD_eq_getElem?_getD,List.getElem?_eq_getElem hi];rfl))
local macro_rules|`(tactic|k_dat 0"r76")=>`(tactic|(exact rdR (qAm (qL8 (qC (i:=1) rfl) (qC (i:=0) rfl) h1 h2) (d1:=.non) (fun e=>nomatch e) fun _=>qF) hP))
local macro_rules|`(tactic|k_dat 0"r77")=>`(tactic|(refine seq1 (ifS (inS (ss:=["put", "hear"]) (qC (i:=5) rfl) (qe (fun _ h=>h) (by show 2≤sizeLine;decide)) h2) (fun e=>nomatch e) fun _=>?_)))
set_option hygiene true
namespace L2
open PySem PySem.Spec PyProof.Rows
noncomputable abbrev Key:=Sum Int Str
noncomputable def qIG:Key→Value→Bool
  | .inl k,v=>Value.isInt k v
  | .inr x,v=>Value.isStrOf x v
noncomputable def qVt (w:World):Key→Int
  | .inl k=>hashInt k
  | .inr x=>hashStr w x
theorem qAt:∀ {k:Key} {v:Value},qIG k v=true→(∃ i t,k=Sum.inl i∧v=Value.int i t)∨(∃ x t,k=Sum.inr x∧v=Value.str x t)
  | .inl i,v,h=>by
    obtain⟨t,e⟩:=Value.isInt_shape (k:=i) (v:=v) h
    exact .inl ⟨i,t,rfl,e⟩
  | .inr x,v,h=>by
    obtain⟨t,e⟩:=Value.isStrOf_shape (x:=x) (v:=v) h
    exact .inr ⟨x,t,rfl,e⟩
theorem qMa (i:Int) (t:Tok):qIG (.inl i) (.int i t)=true:=by simp [qIG,Value.isInt]
theorem qM4 (x:Str) (t:Tok):qIG (.inr x) (.str x t)=true:=by simp [qIG,Value.isStrOf]
theorem qTZ (a b:Int):decide ((Sum.inl a:Key)=Sum.inl b)=(a==b):=by
  by_cases e:a=b
  · subst e;simp
  · have h:¬ (Sum.inl a:Key)=Sum.inl b:=fun q=>e (Sum.inl.inj q)
    rw [decide_eq_false h]
    exact (beq_eq_false_iff_ne.mpr e).symm
theorem qTz (a b:Str):decide ((Sum.inr a:Key)=Sum.inr b)=decide (a=b):=by
  by_cases e:a=b
  · subst e;simp
  · have h:¬ (Sum.inr a:Key)=Sum.inr b:=fun q=>e (Sum.inr.inj q)
    rw [decide_eq_false h,decide_eq_false e]
theorem qSy (a:Int) (b:Str):decide ((Sum.inl a:Key)=Sum.inr b)=false:=decide_eq_false (fun q=>nomatch q)
theorem qTV (a:Str) (b:Int):decide ((Sum.inr a:Key)=Sum.inl b)=false:=decide_eq_false (fun q=>nomatch q)
noncomputable def qAg (prog:Program) (w:World):PySem.KeyKind prog w Key where
  is:=qIG
  hash:=qVt w
  inj :=fun v a b ha hb=>by
    rcases qAt ha with ⟨i,t,rfl,rfl⟩ | ⟨x,t,rfl,rfl⟩
    · rcases qAt hb with ⟨j,u,rfl,e⟩ | ⟨y,u,rfl,e⟩
      · injection e with e1 _;rw [e1]
      · exact nomatch e
    · rcases qAt hb with ⟨j,u,rfl,e⟩ | ⟨y,u,rfl,e⟩
      · exact nomatch e
      · injection e with e1 _;rw [e1]
  byValue:=fun k v h=>by
    rcases qAt h with ⟨i,t,rfl,rfl⟩ | ⟨x,t,rfl,rfl⟩<;>rfl
  pyHash:=fun hv h=>by
    rcases qAt hv with ⟨i,t,rfl,rfl⟩ | ⟨x,t,rfl,rfl⟩
    · exact wpAny_pyHash_int h
    · exact wpAny_pyHash_str h
  eqBool:=fun hu hv h=>by
    rcases qAt hu with ⟨i,t,rfl,rfl⟩ | ⟨x,t,rfl,rfl⟩
    · rcases qAt hv with ⟨j,u,rfl,rfl⟩ | ⟨y,u,rfl,rfl⟩
      · rw [qTZ] at h;exact wpAny_eqBool_int h
      · rw [qSy] at h;exact SeqAt.EqAt.int_str i t y u _ _ _ _ h
    · rcases qAt hv with ⟨j,u,rfl,rfl⟩ | ⟨y,u,rfl,rfl⟩
      · rw [qTV] at h;exact SeqAt.EqAt.str_int x t j u _ _ _ _ h
      · rw [qTz] at h;exact wpAny_eqBool_str h
  «strs»:=fun k x t v h=>by
    rcases qAt h with ⟨i,u,rfl,e⟩ | ⟨y,u,rfl,e⟩
    · exact nomatch e
    · injection e with e1 _
      subst e1
      cases v<;>rfl
theorem qKY (prog:Program) (w:World) (i:Int) (t:Tok):(qAg prog w).is (.inl i) (.int i t)=true:=qMa i t
theorem qKG (prog:Program) (w:World) (x:Str) (t:Tok):(qAg prog w).is (.inr x) (.str x t)=true:=qM4 x t
end L2
namespace L2
open PySem PySem.Spec PyProof.Rows
inductive V where
  | non | bl (b:Bool) | int (i:Int) | str (x:Str) | byt (b:Array UInt8) | flt (b:UInt64) | ref (a:Addr) | ty (n:String)
  deriving DecidableEq
noncomputable def RelV:V→Value→Prop
  | .non,u=>u=Value.none
  | .bl b,u=>u=Value.bool b
  | .int i,u=>∃ t,u=Value.int i t
  | .str x,u=>∃ t,u=Value.str x t
  | .byt b,u=>∃ t,u=Value.bytes b t
  | .flt b,u=>∃ t,u=Value.float b t
  | .ref a,u=>u=Value.ref a
  | .ty n,u=>u=Value.type n
noncomputable abbrev Vals:List V→List Value→Prop:=Paired RelV
theorem Vals.length {xs:List V} {us:List Value} (r:Vals xs us):xs.length=us.length:=Paired.length r
theorem Vals.get:∀ {xs:List V} {us:List Value} {i:Nat} {x:V},Vals xs us→xs[i]? = some x→∃ u,us[i]? = some u∧RelV x u
  | _,_,_,_,.nil,e=>by simp at e
  | _,_,0,_,.cons r _,e=>by simp at e;subst e;exact⟨_,rfl,r⟩
  | _,_,i+1,x,.cons _ t,e=>by
    obtain⟨u,h1,h2⟩:=Vals.get (i:=i) (x:=x) t (by simpa using e)
    exact⟨u,by simpa using h1,h2⟩
theorem Vals.set {x:V} {u:Value} (r:RelV x u):∀ {xs:List V} {us:List Value} (i:Nat),Vals xs us→Vals (xs.set i x) (us.set i u)
  | _,_,_,.nil=>.nil
  | _,_,0,.cons _ t=>.cons r t
  | _,_,i+1,.cons q t=>.cons q (Vals.set r i t)
theorem Vals.append:∀ {xs ys:List V} {us ws:List Value},Vals xs us→Vals ys ws→Vals (xs++ys) (us++ws)
  | _,_,_,_,.nil,s=>s
  | _,_,_,_,.cons r t,s=>.cons r (Vals.append t s)
theorem Vals.take:∀ {xs:List V} {us:List Value} (n:Nat),Vals xs us→Vals (xs.take n) (us.take n)
  | _,_,0,_=>.nil
  | _,_,_+1,.nil=>.nil
  | _,_,n+1,.cons r t=>.cons r (Vals.take n t)
theorem Vals.drop:∀ {xs:List V} {us:List Value} (n:Nat),Vals xs us→Vals (xs.drop n) (us.drop n)
  | _,_,0,r=>r
  | _,_,_+1,.nil=>.nil
  | _,_,n+1,.cons _ t=>Vals.drop n t
noncomputable def qDS:Option V→Option Value→Prop
  | some v,some u=>RelV v u
  | none,none=>True
  | _,_=>False
noncomputable def KV {κ:Type}:List (κ×V)→List (κ×Value)→Prop:=Paired fun (p:κ×V) (q:κ×Value)=>p.1=q.1∧RelV p.2 q.2
noncomputable def kV:Key→V
  | .inl i=>.int i
  | .inr x=>.str x
inductive HO where
  /-- a list -/
  | lst (xs:List V)
  /-- a tuple (never changes) -/
  | tup (xs:List V)
  /-- a dict whose keys are ints and texts;one whose keys are tuples of ints and texts (the empty one is both) -/
  | dK (kvs:List (Key×V)) | dT (kvs:List (List Key×V))
  /-- a set of ints: its members,its size -/
  | set (S:Int→Bool) (n:Nat)
  /-- an instance of the class at C,its dict at dx,its attributes -/
  | ins (C dx:Addr) (fs:List (Str×V))
  /-- the dict of the instance at x -/
  | own (x:Addr)
  /-- the dict of an exception -/
  | xd (fs:List (Str×V))
  /-- a bound method,f of x -/
  | met (f x:Addr)
  /-- a range object lo,lo+1,.. below hi -/
  | rng (lo hi:Int)
  /-- a thing that is known to the object (the script;a dict while a loop walks it): read,never written while it is so -/
  | frz (o:Obj) (u:HO)
  /-- a code object's table -/
  | tbl (ps:Array Value)
  /-- any other thing,by what is true of its one object (a def of one's own: SetO a S n:=HO.ext fun h=>..) -/
  | ext (φ:Heap→Prop)
noncomputable abbrev Hp:=Addr→Option HO
noncomputable def upd (H:Hp) (a:Addr) (o:HO):Hp:=fun b=>if b=a then some o else H b
theorem qAH {H:Hp} {a:Addr} {o:HO}:upd H a o a=some o:=by unfold upd;rw [if_pos rfl]
theorem qg {H:Hp} {a b:Addr} {o:HO} (h:b≠a):upd H a o b=H b:=by unfold upd;rw [if_neg h]
theorem qIA {H:Hp} {a b:Addr} {o u:HO} (h:H a=some o) (h':H b=some u) (d:o≠u):a≠b:=by
  intro e;subst e;rw [h] at h';exact d (Option.some.inj h')
theorem qAD {H:Hp} {a b:Addr} {o:HO} (h:H a=some o) (h':H b=none):a≠b:=by
  intro e;subst e;rw [h] at h';cases h'
def qCH (h:Heap) (a:Addr) (items:Array Value):Prop:=∃ o,h.get? a=some o∧(o.cls = .type "tuple" ∧ o.dict=none)∧∃ n,o.data = .seq items n
theorem qCH.tup {h:Heap} {a:Addr} {items:Array Value} (x:qCH h a items):IsTup h a items:=let ⟨o,e,c,n,d⟩:=x;⟨o,e,c.1,n,d⟩
theorem qCH.lt {h:Heap} {a:Addr} {items:Array Value} (x:qCH h a items):a<h.objs.size:=x.tup.lt
theorem qCH.new (h:Heap) (items:Array Value):qCH (h.push { cls:=.type "tuple",data:=.seq items }) h.objs.size items:=⟨_,Heap.get?_push_size _ rfl,⟨rfl,rfl⟩,_,rfl⟩
def SqT (K:W.Frag) (H:Hp) (a:Addr) (xs:List V):Prop :=
  H a=some (.tup xs) ∨
    ∃ (o:Obj) (its:Array Value) (n:Nat),K.lookup a=some o∧(o.cls = .type "tuple" ∧ o.dict=none)∧o.data = .seq its n∧its.size≤sizeLine∧Vals xs its.toList
section
variable (K:W.Frag) (P:Program) (w:World)
noncomputable def qBH (H:Hp) (h:Heap) (a:Addr):HO→Prop
  | .lst xs=>xs.length≤sizeLine∧∃ (its:List Value) (n:Nat),Vals xs its∧h.get? a=some { cls:=.type "list",data:=.seq its.toArray n }
  | .tup xs=>xs.length≤sizeLine∧∃ its:List Value,Vals xs its∧qCH h a its.toArray
  | .dK kvs=>kvs.length≤sizeLine∧(a==sysModules)=false∧∃ vs,KV kvs vs∧h.DictOf (qAg P w) a vs
  | .dT kvs=>kvs.length≤sizeLine∧(a==sysModules)=false∧∃ xs:List (List Key×Addr×Value),
      Paired (fun (p:List Key×V) (q:List Key×Addr×Value)=>p.1=q.1∧SqT K H q.2.1 (p.1.map kV)∧RelV p.2 q.2.2) kvs xs ∧
      ∃ o es ep,h.get? a=some o∧o.ExactDict∧o.data = .dict es ep∧es.toList=xs.map (entryOfKey (tupleKind (qAg P w)))∧(xs.map (·.1)).Nodup
  | .set S n=>h.SetOf (intKind P w) a S n
  | .ins C dx fs=>H dx=some (.own a)∧fs.length≤1000∧dx≠a∧h.get? a=some (W.instObj C dx) ∧
      ∃ mA,h.Ns1 dx mA∧(∀ f,qDS (fs.lookup f) (mA f))∧PySem.Within mA (fs.map (·.1))
  | .own _=>∃ o,h.get? a=some o
  | .xd fs=>∃ mA,h.Ns1 a mA∧∀ f,qDS (fs.lookup f) (mA f)
  | .rng lo hi=>∃ t u v,h.get? a=some { cls:=.type "range",data:=.fields #[.int lo t,.int hi u,.int 1 v] }
  | .frz o u=>h.get? a=some o∧qBH H h a u
  | .tbl ps=>h.get? a=some { cls:=.none,data:=.fields ps }
  | .met f x=>h.get? a=some (W.methodObj (.ref f) (.ref x))
  | .ext φ=>φ h∧(∃ o,h.get? a=some o)∧∀ h1 h2:Heap,φ h1→(∀ o,h1.get? a=some o→h2.get? a=some o)→φ h2
def HOk (H:Hp) (h:Heap):Prop:=∀ a o,H a=some o→qBH K P w H h a o
end
section
variable {K:W.Frag} {P:Program} {w:World} {H H':Hp} {h h':Heap} {a:Addr} {o:HO}
theorem qBH.lt (x:qBH K P w H h a o):a<h.objs.size:=by
  cases o with
  | lst xs=>obtain⟨_,_,_,_,e⟩:=x;exact Heap.lt_size e
  | tup xs=>obtain⟨_,_,_,p⟩:=x;exact p.lt
  | dK kvs=>obtain⟨_,_,_,_,o,_,_,e,_⟩:=x;exact Heap.lt_size e
  | dT kvs=>obtain⟨_,_,_,_,o,_,_,e,_⟩:=x;exact Heap.lt_size e
  | set S n=>obtain⟨o,_,_,_,e,_⟩:=x;exact Heap.lt_size e
  | ins C dx fs=>obtain⟨_,_,_,e,_⟩:=x;exact Heap.lt_size e
  | own y=>obtain⟨_,e⟩:=x;exact Heap.lt_size e
  | xd fs=>obtain⟨_,⟨_,_,_,e,_⟩,_⟩:=x;exact Heap.lt_size e
  | rng lo hi=>obtain⟨_,_,_,e⟩:=x;exact Heap.lt_size e
  | frz ob u=>obtain⟨e,_⟩:=x;exact Heap.lt_size e
  | tbl ps=>exact Heap.lt_size (show h.get? a=some _ from x)
  | met f y=>exact Heap.lt_size (show h.get? a=some _ from x)
  | ext φ=>obtain⟨_,⟨_,e⟩,_⟩:=x;exact Heap.lt_size e
theorem Paired.qT4 {α β:Type} {F G:α→β→Prop}:∀ {l₁:List α} {l₂:List β},Paired F l₁ l₂→(∀ a b,F a b→G a b)→Paired G l₁ l₂
  | _,_,.nil,_=>.nil
  | _,_,.cons r t,f=>.cons (f _ _ r) (Paired.qT4 t f)
theorem qBH.stay (x:qBH K P w H h a o) (k:∀ b u,(b=a∨H b=some (.own a))→h.get? b=some u→h'.get? b=some u)
    (ho:∀ b,H b=some (.own a)→H' b=some (.own a)) (ht:∀ b xs,H b=some (.tup xs)→H' b=some (.tup xs)):qBH K P w H' h' a o:=by
  induction o with
  | lst xs=>obtain⟨z,its,n,r,e⟩:=x;exact⟨z,its,n,r,k _ _ (.inl rfl) e⟩
  | tup xs=>obtain⟨z,its,r,ob,e,c⟩:=x;exact⟨z,its,r,ob,k _ _ (.inl rfl) e,c⟩
  | dK kvs=>obtain⟨z,y,vs,r,ob,es,ep,e,c⟩:=x;exact⟨z,y,vs,r,ob,es,ep,k _ _ (.inl rfl) e,c⟩
  | dT kvs =>
    obtain⟨z,y,xs,r,ob,es,ep,e,c⟩:=x
    exact⟨z,y,xs,Paired.qT4 r fun p q z=>⟨z.1,z.2.1.elim (fun y=>.inl (ht _ _ y)) .inr,z.2.2⟩,ob,es,ep,k _ _ (.inl rfl) e,c⟩
  | set S n=>obtain⟨ob,es,ep,t,e,c⟩:=x;exact⟨ob,es,ep,t,k _ _ (.inl rfl) e,c⟩
  | ins C dx fs =>
    obtain⟨d,z,ne,e,mA,⟨od,es,ep,e2,c⟩,r⟩:=x
    exact⟨ho _ d,z,ne,k _ _ (.inl rfl) e,mA,⟨od,es,ep,k _ _ (.inr d) e2,c⟩,r⟩
  | own y=>obtain⟨ob,e⟩:=x;exact⟨ob,k _ _ (.inl rfl) e⟩
  | xd fs=>obtain⟨mA,⟨od,es,ep,e,c⟩,r⟩:=x;exact⟨mA,⟨od,es,ep,k _ _ (.inl rfl) e,c⟩,r⟩
  | rng lo hi=>obtain⟨t,u,v,e⟩:=x;exact⟨t,u,v,k _ _ (.inl rfl) e⟩
  | frz ob u ih=>obtain⟨e,q⟩:=x;exact⟨k _ _ (.inl rfl) e,ih q⟩
  | tbl ps =>
    have e:h.get? a=some { cls:=.none,data:=.fields ps }:=x
    show h'.get? a=some { cls:=.none,data:=.fields ps }
    exact k a _ (.inl rfl) e
  | met f y =>
    have e:h.get? a=some (W.methodObj (.ref f) (.ref y)):=x
    show h'.get? a=some (W.methodObj (.ref f) (.ref y))
    exact k a _ (.inl rfl) e
  | ext φ=>obtain⟨p,⟨o,e⟩,st⟩:=x;exact⟨st _ _ p fun o q=>k _ _ (.inl rfl) q,⟨o,k _ _ (.inl rfl) e⟩,st⟩
theorem HOk.lt (x:HOk K P w H h) (e:H a=some o):a<h.objs.size:=(x a o e).lt
theorem HOk.fresh (x:HOk K P w H h) (e:h.objs.size≤a):H a=none:=by
  cases q:H a with
  | none=>rfl
  | some u=>exact absurd (Nat.lt_of_lt_of_le (x.lt q) e) (Nat.lt_irrefl _)
theorem HOk.kept (x:HOk K P w H h) (k:∀ b u,h.get? b=some u→h'.get? b=some u):HOk K P w H h':=fun a o e =>
  (x a o e).stay (fun b u _ q=>k b u q) (fun _ q=>q) fun _ _ q=>q
theorem HOk.laid (x:HOk K P w H h) (k:∀ b u,h.get? b=some u→h'.get? b=some u) (hp:h.objs.size≤a) (new:qBH K P w (upd H a o) h' a o):HOk K P w (upd H a o) h':=fun b u e=>by
  have hn:=x.fresh hp
  by_cases hb:b=a
  · subst hb;rw [qAH] at e;cases e;exact new
  · rw [qg hb] at e
    exact (x b u e).stay (fun c v _ q=>k c v q) (fun c q=>by rw [qg (qAD q hn)];exact q) fun c xs q=>by rw [qg (qAD q hn)];exact q
end
def Rd (H:Hp) (a:Addr) (u:HO):Prop:=H a=some u∨∃ o,H a=some (.frz o u)
theorem Rd.ok {K:W.Frag} {P:Program} {w:World} {H:Hp} {h:Heap} {a:Addr} {u:HO} (r:Rd H a u) (x:HOk K P w H h):qBH K P w H h a u:=by
  rcases r with r | ⟨o,r⟩
  · exact x a u r
  · obtain⟨_,q⟩:=x a _ r
    exact q
noncomputable def Mut:Option HO→Prop
  | some (.lst _)=>True
  | some (.dK _)=>True
  | some (.dT _)=>True
  | some (.set _ _)=>True
  | some (.ins _ _ _)=>True
  | some (.ext _)=>True
  | _=>False
section
variable {K:W.Frag} {P:Program} {w:World} {H:Hp} {h h':Heap} {x e:Addr} {o':HO}
theorem HOk.write (ok:HOk K P w H h) (mu:Mut (H x)) (he:e=x∨H e=some (.own x)) (k:∀ b u,b≠e→h.get? b=some u→h'.get? b=some u) (heo:∃ u,h'.get? e=some u)
    (new:qBH K P w (upd H x o') h' x o'):HOk K P w (upd H x o') h':=fun b u q=>by
  have nown:∀ c y,H c=some (.own y)→c≠x:=fun c y r z=>by subst z;rw [r] at mu;exact mu
  have ntup:∀ c xs,H c=some (.tup xs)→c≠x:=fun c xs r z=>by subst z;rw [r] at mu;exact mu
  by_cases hb:b=x
  · subst hb;rw [qAH] at q;cases q;exact new
  · rw [qg hb] at q
    by_cases hbe:b=e
    · have q':H b=some (.own x):=by
        rcases he with z | z
        · exact absurd (hbe.trans z) hb
        · rw [hbe];exact z
      rw [q] at q';cases q'
      obtain⟨v,hv⟩:=heo
      exact⟨v,by rw [hbe];exact hv⟩
    · refine (ok b u q).stay (fun c v hc r=>k c v ?_ r) (fun c r=>by rw [qg (nown c b r)];exact r) fun c xs r=>by rw [qg (ntup c xs r)];exact r
      rcases hc with rfl | hc
      · exact hbe
      · rintro rfl
        rcases he with z | z
        · exact nown c b hc z
        · rw [hc] at z;cases z;exact hb rfl
end
structure Un (fs ex:List Addr) (H H':Hp) (h h':Heap):Prop where
  keep:∀ b o,h.get? b=some o→H b=none→b ∉ fs→b ∉ ex→h'.get? b=some o
  slot:∀ b o,h.get? b=some o→H b=none→b∈fs→b ∉ ex→∃ sl,h'.get? b=some { o with slots:=sl }
  free:∀ b o,h.get? b=some o→H b=none→b ∉ ex→H' b=none
  there:∀ b o,h.get? b=some o→b ∉ ex→∃ o',h'.get? b=some o'
  tups:∀ b xs,H b=some (.tup xs)→H' b=some (.tup xs)
  frzs:∀ b o u,H b=some (.frz o u)→H' b=some (.frz o u)
  tbls:∀ b ps,H b=some (.tbl ps)→∃ more,H' b=some (.tbl (ps++more))
section
variable {fs fs' ex ex':List Addr} {H H1 H2:Hp} {h h1 h2 h':Heap} {a x e:Addr} {o:HO}
theorem Un.any (u:Un fs ex H H1 h h1) {b:Addr} {ob:Obj} (q:h.get? b=some ob) (n:H b=none) (hx:b ∉ ex):∃ sl,h1.get? b=some { ob with slots:=sl }:=by
  by_cases hb:b∈fs
  · exact u.slot b ob q n hb hx
  · exact⟨ob.slots,u.keep b ob q n hb hx⟩
theorem Un.kept (k:∀ b u,h.get? b=some u→h'.get? b=some u):Un fs ex H H h h' :=
  ⟨fun b ob q _ _ _=>k b ob q,fun b ob q _ _ _=>⟨ob.slots,k b ob q⟩,fun _ _ _ n _=>n,fun b ob q _=>⟨ob,k b ob q⟩,fun _ _ q=>q,fun _ _ _ q=>q,fun _ ps q=>⟨#[],by rw [q];simp⟩⟩
theorem Un.refl:Un fs ex H H h h:=Un.kept fun _ _ q=>q
theorem Un.laid (k:∀ b u,h.get? b=some u→h'.get? b=some u) (hp:h.objs.size≤a) (hn:H a=none):Un fs ex H (upd H a o) h h' where
  keep:=fun b u q _ _ _=>k b u q
  slot:=fun b u q _ _ _=>⟨u.slots,k b u q⟩
  free:=fun b u q n _=>by rw [qg (Nat.ne_of_lt (Nat.lt_of_lt_of_le (Heap.lt_size q) hp))];exact n
  there:=fun b u q _=>⟨u,k b u q⟩
  tups:=fun b xs q=>by rw [qg (qAD q hn)];exact q
  frzs:=fun b u xs q=>by rw [qg (qAD q hn)];exact q
  tbls:=fun b ps q=>⟨#[],by rw [qg (qAD q hn),q];simp⟩
theorem Un.write (mu:Mut (H x)) (he:e=x∨H e=some (.own x)) (k:∀ b u,b≠e→h.get? b=some u→h'.get? b=some u) (heo:∃ u,h'.get? e=some u):Un fs ex H (upd H x o) h h':=by
  have hx:∀ b,H b=none→b≠x:=fun b n z=>by subst z;rw [n] at mu;exact mu
  have hb:∀ b,H b=none→b≠e:=fun b n z=>by
    subst z
    rcases he with r | r
    · exact hx b n r
    · rw [n] at r;cases r
  have hm:∀ b u,H b=some u→¬ Mut (some u)→b≠x:=fun b u q nm z=>by subst z;rw [q] at mu;exact nm mu
  refine⟨fun b u q n _ _=>k b u (hb b n) q,fun b u q n _ _=>⟨u.slots,k b u (hb b n) q⟩,fun b u q n _=>by rw [qg (hx b n)];exact n,fun b u q _=>?_,
    fun b xs q=>by rw [qg (hm b _ q fun z=>z)];exact q,fun b u xs q=>by rw [qg (hm b _ q fun z=>z)];exact q,fun b ps q=>⟨#[],by rw [qg (hm b _ q fun z=>z),q];simp⟩⟩
  by_cases hbe:b=e
  · subst hbe;exact heo
  · exact⟨u,k b u hbe q⟩
end
noncomputable def trk (h:Heap) (H:Hp):List Addr:=(List.range h.objs.size).filter fun a=>(H a).isSome
noncomputable def qIc (h:Heap) (H:Hp):Heap:=W.hideAll h (trk h H)
theorem qMc (h:Heap) (H:Hp):(qIc h H).objs.size=h.objs.size:=W.hideAll_size _ _
theorem qNZ {h:Heap} {H:Hp} {b:Addr} {o:Obj} (e:h.get? b=some o) (n:H b=none):(qIc h H).get? b=some o :=
  W.hideAll_get _ e fun hm=>by
    have q:(H b).isSome=true:=(List.mem_filter.mp hm).2
    rw [n] at q;simp at q
theorem qQ9 {h:Heap} {H:Hp} {b:Addr} {o:Obj} (e:(qIc h H).get? b=some o):h.get? b=some o∧H b=none:=by
  have e':h.get? b=some o:=W.of_hideAll (trk h H) e
  refine⟨e',?_⟩
  cases q:H b with
  | none=>rfl
  | some x =>
    have hm:b∈trk h H:=List.mem_filter.mpr ⟨List.mem_range.mpr (Heap.lt_size e'),by simp [q]⟩
    have z:(qIc h H).get? b=none:=W.hideAll_none (trk h H) hm
    rw [z] at e;cases e
noncomputable def qQD (g h:Heap) (L:Addr):List (Addr×Obj):=(List.range h.objs.size).filterMap fun a=>if a=L∨(g.get? a).isSome=true then none else (h.get? a).map fun o=>(a,o)
noncomputable def rest (g h:Heap) (L d:Addr):List (Addr×Obj):=(qQD g h L).filter fun p=>decide (p.1≠d)
end L2
namespace L2
open PySem PySem.Spec PyProof.Rows
structure Mod (K:W.Frag) (mg:Str→Option Value) (base:Heap):Prop where
  kin:K.In base
  glob:base.Ns mainGlobals mg
  blt:∃ mb,base.Ns builtinsNs mb∧∀ x:Str,x ≠ "__name__" → mb x=bootBuiltins x
  nolimit:base.NoLimit
structure Cx where
  prog:Program
  w:World
  K:W.Frag
  mg:Str→Option Value
  base:Heap
  A:Around
  N:List Str
  s₀:Shared
  H₀:Hp
  env:Env
  outer:List Env
  stack:List Env
  ex:List Addr
  fn:Str→Bool
  calm:Bool
  pn:List (Addr×Obj)
  xe:Value→Shared→Prop
noncomputable def frs (l:List Env):List Addr:=l.filterMap (·.frame)
noncomputable abbrev Cx.fs (X:Cx):List Addr:=frs X.outer
def Vis (sc:Scope) (x:Str):Prop:=sc.names.lookup x=some .local∨sc.names.lookup x=some .cell∨sc.names.lookup x=some .free
def Loc (sc:Scope) (x:Str):Prop:=sc.names.lookup x=some .local∨sc.names.lookup x=some .cell
def Look (env:Env) (h:Heap) (m:Str→Option Value) (x:Str) (u:Value):Prop :=
  (env.kindOf x=some .local∧m x=some u)∨((env.kindOf x=some .cell∨env.kindOf x=some .free)∧∃ c,env.cells.lookup x=some c∧h.IsCell c (some u))
structure Cx.Ok (X:Cx):Prop where
  mod:Mod X.K X.mg X.base
  kind:X.env.scope.kind = .function
  glob:X.env.globals=mainGlobals
  blt:X.env.builtins=builtinsNs
  above:X.s₀.heap.objs.size≤X.env.locals
  inj:∀ x y c,X.env.cells.lookup x=some c→X.env.cells.lookup y=some c→x=y
  has:∀ x,(X.env.kindOf x=some .cell∨X.env.kindOf x=some .free)→∃ c,X.env.cells.lookup x=some c
  cab:∀ x c,X.fn x=true→X.env.cells.lookup x=some c→X.s₀.heap.objs.size≤c
  hd:X.calm=true→X.A.handled=none
  frames:X.A.frames=some X.stack
  stk:X.stack=X.outer∨(X.stack=X.env::X.outer∧X.env.frame=some X.env.locals)
  exf:∀ b∈X.ex,b≠X.env.locals∧∀ x c,X.env.cells.lookup x=some c→c≠b
  bs:∀ b o,X.base.get? b=some o→X.s₀.heap.get? b=some o∧X.H₀ b=none
  bsz:X.base.objs.size≤X.s₀.heap.objs.size
  noex:∀ b o,X.base.get? b=some o→b ∉ X.ex
  exfs:∀ b∈X.ex,b ∉ X.fs
  qFc:X.s₀.heap.FunFrames X.base X.outer
  frf:∀ b∈X.fs,X.H₀ b=none
structure Inv (X:Cx) (pins:List (Addr×Obj)) (σ:List (Option V)) (H:Hp) (s:Shared):Prop where
  ok:X.Ok
  os:s.os=X.s₀.os
  bare:AllBare s.gens
  base:Un X.fs X.ex X.H₀ H X.s₀.heap s.heap
  loc:∃ m,s.heap.Ns X.env.locals m∧∀ (i:Nat) (x:Str) (v:V),X.N[i]? = some x→σ[i]? = some (some v)→Vis X.env.scope x→∃ u,RelV v u∧Look X.env s.heap m x u
  cell:∀ x c,X.env.cells.lookup x=some c→∃ v,s.heap.IsCell c v
  free:H X.env.locals=none
  freeC:∀ x c,X.env.cells.lookup x=some c→H c=none
  pin:∀ p∈X.pn++pins,s.heap.get? p.1=some p.2∧H p.1=none∧p.1≠X.env.locals∧p.1 ∉ X.fs∧∀ v,p.2.data≠.cell v
  hok:HOk X.K X.prog X.w H s.heap
  len:σ.length=X.N.length
section
variable {X:Cx} {pins:List (Addr×Obj)} {σ:List (Option V)} {H H':Hp} {s:Shared} {h':Heap}
theorem Cx.Ok.qVp (ok:X.Ok) {b:Addr} {o:Obj} (e:X.base.get? b=some o):b ∉ X.fs:=fun hb=>by
  have:=(ok.qFc.mem hb).1
  rw [e] at this;cases this
theorem Inv.bs (I:Inv X pins σ H s):∀ b o,X.base.get? b=some o→s.heap.get? b=some o∧H b=none:=fun b o e =>
  ⟨I.base.keep b o (I.ok.bs b o e).1 (I.ok.bs b o e).2 (I.ok.qVp e) (I.ok.noex b o e),I.base.free b o (I.ok.bs b o e).1 (I.ok.bs b o e).2 (I.ok.noex b o e)⟩
theorem Inv.bk (I:Inv X pins σ H s):∀ b o,X.base.get? b=some o→s.heap.get? b=some o:=fun b o e=>(I.bs b o e).1
theorem Inv.mod (I:Inv X pins σ H s):Mod X.K X.mg X.base:=I.ok.mod
theorem Inv.kIn (I:Inv X pins σ H s):X.K.In s.heap:=I.ok.mod.kin.keeps I.bk
theorem Inv.nolimit (I:Inv X pins σ H s):s.heap.NoLimit:=I.ok.mod.nolimit.keeps I.bk
theorem Inv.fr (I:Inv X pins σ H s):∃ m,Fr X.base X.env.locals s.heap m :=
  let ⟨m,hn,_⟩:=I.loc
  ⟨m,hn,I.bk,Nat.le_trans I.ok.bsz I.ok.above⟩
theorem Inv.lt (I:Inv X pins σ H s):X.env.locals<s.heap.objs.size:=let ⟨_,hn,_⟩:=I.loc;hn.lt
theorem Inv.sz (I:Inv X pins σ H s):X.s₀.heap.objs.size≤s.heap.objs.size:=Nat.le_trans I.ok.above (Nat.le_of_lt I.lt)
theorem Inv.qUd (I:Inv X pins σ H s) {a:Addr} (h:s.heap.objs.size≤a):a ∉ X.fs:=fun hb=>by
  obtain⟨_,o,ho,_⟩:=I.ok.qFc.mem hb
  exact absurd (Nat.lt_of_lt_of_le (Heap.lt_size ho) (Nat.le_trans I.sz h)) (Nat.lt_irrefl _)
theorem Inv.cne (I:Inv X pins σ H s):∀ x c,X.env.cells.lookup x=some c→c≠X.env.locals:=fun x c e z=>by
  obtain⟨v,o,ho,hd⟩:=I.cell x c e
  obtain⟨m,⟨o',es,ep,ho',hd',_⟩,_⟩:=I.loc
  rw [z,ho'] at ho;cases ho;rw [hd'] at hd;cases hd
theorem Inv.qFc (I:Inv X pins σ H s):s.heap.FunFrames X.base X.outer:=by
  have all:∀ (l:List Env),(∀ b∈frs l,b∈X.fs)→X.s₀.heap.FunFrames X.base l→s.heap.FunFrames X.base l:=by
    intro l
    induction l with
    | nil=>intro _ _;trivial
    | cons env r ih =>
      intro hs hl
      obtain⟨hk,⟨L,o,hf,hn,ho,hd⟩,hr⟩:=hl
      have hL:L∈X.fs:=hs L (by unfold frs;rw [List.filterMap_cons,hf];exact List.mem_cons_self)
      obtain⟨sl,e⟩:=I.base.slot L o ho (I.ok.frf L hL) hL fun z=>I.ok.exfs L z hL
      exact⟨hk,⟨L,_,hf,hn,e,hd⟩,ih (fun b hb=>hs b (by unfold frs;rw [List.filterMap_cons,hf];exact List.mem_cons_of_mem _ hb)) hr⟩
  exact all X.outer (fun _ hb=>hb) I.ok.qFc
theorem Inv.stack (I:Inv X pins σ H s):s.heap.FunFrames X.base X.stack:=by
  rcases I.ok.stk with e | ⟨e,hf⟩
  · rw [e];exact I.qFc
  · rw [e]
    obtain⟨m,hn,_⟩:=I.loc
    refine .cons (by rw [I.ok.kind];decide) hf hn ?_ I.qFc
    exact Heap.get?_none_of_le (Nat.le_trans I.ok.bsz I.ok.above)
theorem Inv.qIt (I:Inv X pins σ H s):∀ b∈frs X.stack,b∈X.env.locals::X.fs:=fun b hb=>by
  rcases I.ok.stk with e | ⟨e,hf⟩
  · rw [e] at hb;exact List.mem_cons_of_mem _ hb
  · rw [e] at hb
    unfold frs at hb
    rw [List.filterMap_cons,hf] at hb
    exact hb
theorem Inv.qLq (I:Inv X pins σ H s):∀ b∈frs X.stack,H b=none:=fun b hb=>by
  rcases List.mem_cons.mp (I.qIt b hb) with e | hb
  · rw [e];exact I.free
  · obtain⟨_,o,ho,_⟩:=I.ok.qFc.mem hb
    exact I.base.free b o ho (I.ok.frf b hb) fun z=>I.ok.exfs b z hb
theorem Inv.step {g':Array GenState} {t':Nat} {d':Drawn} {ch:List Addr} (I:Inv X pins σ H s)
    (hch:∀ b∈ch,(b∈X.ex∨X.s₀.heap.objs.size≤b)∧b≠X.env.locals∧(∀ x c,X.env.cells.lookup x=some c→c≠b)∧∀ p∈X.pn++pins,p.1≠b)
    (keep:∀ b o,b≠X.env.locals→b ∉ X.fs→b ∉ ch→s.heap.get? b=some o→H b=none→h'.get? b=some o)
    (slot:∀ b o,b≠X.env.locals→b∈X.fs→b ∉ ch→s.heap.get? b=some o→H b=none→∃ sl,h'.get? b=some { o with slots:=sl }) (free:∀ b o,b ∉ ch→s.heap.get? b=some o→H b=none→H' b=none)
    (there:∀ b o,b ∉ ch→s.heap.get? b=some o→∃ o',h'.get? b=some o')
    (tups:∀ b xs,H b=some (.tup xs)→H' b=some (.tup xs)) (frzs:∀ b o u,H b=some (.frz o u)→H' b=some (.frz o u)) (tbls:∀ b ps,H b=some (.tbl ps)→∃ more,H' b=some (.tbl (ps++more)))
    (ns:∀ m,s.heap.Ns X.env.locals m→h'.Ns X.env.locals m) (hok:HOk X.K X.prog X.w H' h') (hg:AllBare g') :
    Inv X pins σ H' { s with heap:=h',gens:=g',drawn:=d',toks:=t' }:=by
  have neL:∀ b o,X.s₀.heap.get? b=some o→b≠X.env.locals:=fun b o e=>Nat.ne_of_lt (Nat.lt_of_lt_of_le (Heap.lt_size e) I.ok.above)
  have neC:∀ b o,X.s₀.heap.get? b=some o→b ∉ X.ex→b ∉ ch:=fun b o e hx hb=>by
    rcases (hch b hb).1 with z | z
    · exact hx z
    · exact absurd (Nat.lt_of_lt_of_le (Heap.lt_size e) z) (Nat.lt_irrefl _)
  have cellK:∀ x c,X.env.cells.lookup x=some c→∀ v,s.heap.IsCell c v→h'.IsCell c v:=fun x c e v ⟨o,ho,hd⟩=>by
    have nch:c ∉ ch:=fun z=>(hch c z).2.2.1 x c e rfl
    by_cases hc:c∈X.fs
    · obtain⟨sl,q⟩:=slot c o (I.cne x c e) hc nch ho (I.freeC x c e)
      exact⟨_,q,hd⟩
    · exact⟨o,keep c o (I.cne x c e) hc nch ho (I.freeC x c e),hd⟩
  refine⟨I.ok,I.os,hg,⟨fun b o e n hb hx=>?_,fun b o e n hb hx=>?_,fun b o e n hx=>?_,fun b o e hx=>?_,fun b xs e=>tups b xs (I.base.tups b xs e),fun b o xs e=>frzs b o xs (I.base.frzs b o xs e),fun b ps e=>?_⟩,?_,fun x c e=>?_,?_,fun x c e=>?_,fun p hp=>?_,hok,I.len⟩
  · exact keep b o (neL b o e) hb (neC b o e hx) (I.base.keep b o e n hb hx) (I.base.free b o e n hx)
  · obtain⟨sl,e1⟩:=I.base.slot b o e n hb hx
    obtain⟨sl',e2⟩:=slot b _ (neL b o e) hb (neC b o e hx) e1 (I.base.free b o e n hx)
    exact⟨sl',e2⟩
  · k_dat 0"r31"
    exact free b o' (neC b o e hx) e1 (I.base.free b o e n hx)
  · k_dat 0"r31"
    exact there b o' (neC b o e hx) e1
  · obtain⟨m1,e1⟩:=I.base.tbls b ps e
    obtain⟨m2,e2⟩:=tbls b _ e1
    exact⟨m1++m2,by rw [e2,Array.append_assoc]⟩
  · obtain⟨m,hn,hl⟩:=I.loc
    refine⟨m,ns m hn,fun i x v e1 e2 e3=>?_⟩
    obtain⟨u,r,l⟩:=hl i x v e1 e2 e3
    refine⟨u,r,?_⟩
    rcases l with l | ⟨k,c,e,z⟩
    · exact .inl l
    · exact .inr ⟨k,c,e,cellK x c e _ z⟩
  · obtain⟨v,z⟩:=I.cell x c e
    exact⟨v,cellK x c e v z⟩
  · obtain⟨m,⟨o,_,_,ho,_⟩,_⟩:=I.loc
    exact free _ o (fun z=>(hch _ z).2.1 rfl) ho I.free
  · obtain⟨v,o,ho,hd⟩:=I.cell x c e
    exact free c o (fun z=>(hch c z).2.2.1 x c e rfl) ho (I.freeC x c e)
  · obtain⟨e,n,ne,nf,d⟩:=I.pin p hp
    have nch:p.1 ∉ ch:=fun z=>(hch p.1 z).2.2.2 p hp rfl
    exact⟨keep p.1 p.2 ne nf nch e n,free p.1 p.2 nch e n,ne,nf,d⟩
theorem Inv.un {t':Nat} (I:Inv X pins σ H s) (u:Un X.fs [] H H' s.heap h') (hok:HOk X.K X.prog X.w H' h'):Inv X pins σ H' { s with heap:=h',toks:=t' }:=by
  obtain⟨m,⟨o,es,ep,ho,r⟩,_⟩:=id I.loc
  obtain⟨sl,hL⟩:=u.any ho I.free (by simp)
  exact I.step (g':=s.gens) (d':=s.drawn) (ch:=[]) (fun _ z=>nomatch z) (fun b o _ hb _ e n=>u.keep b o e n hb (by simp)) (fun b o _ hb _ e n=>u.slot b o e n hb (by simp)) (fun b o _ e n=>u.free b o e n (by simp)) (fun b o _ e=>u.there b o e (by simp)) u.tups u.frzs u.tbls (fun m' hm=>by
    obtain⟨o',es',ep',ho',r'⟩:=hm
    rw [ho] at ho';cases ho'
    exact⟨_,es',ep',hL,r'⟩) hok I.bare
theorem Inv.call {g':Array GenState} {t':Nat} {d':Drawn} {ch:List Addr} (I:Inv X pins σ H s) (u:Un (frs X.stack) ch H H' s.heap h') (hok:HOk X.K X.prog X.w H' h') (hg:AllBare g')
    (hch:∀ b∈ch,(b∈X.ex∨X.s₀.heap.objs.size≤b)∧b≠X.env.locals∧(∀ x c,X.env.cells.lookup x=some c→c≠b)∧∀ p∈X.pn++pins,p.1≠b) :
    Inv X pins σ H' { s with heap:=h',gens:=g',drawn:=d',toks:=t' }:=by
  obtain⟨m,⟨o,es,ep,ho,r⟩,_⟩:=id I.loc
  obtain⟨sl,hL⟩:=u.any ho I.free fun z=>(hch _ z).2.1 rfl
  exact I.step (ch:=ch) hch (fun b o hL hb hc e n=>u.keep b o e n (fun z=>(List.mem_cons.mp (I.qIt b z)).elim hL hb) hc) (fun b o _ _ hc e n=>u.any e n hc) (fun b o hc e n=>u.free b o e n hc) (fun b o hc e=>u.there b o e hc) u.tups u.frzs u.tbls (fun m' hm=>by
    obtain⟨o',es',ep',ho',r'⟩:=hm
    rw [ho] at ho';cases ho'
    exact⟨_,es',ep',hL,r'⟩) hok hg
theorem Inv.turned {t':Nat} {it:Addr} (I:Inv X pins σ H s) (k:∀ b o,b≠it→s.heap.get? b=some o→h'.get? b=some o) (hn:H it=none) (hL:it≠X.env.locals)
    (h1:it∈X.ex∨X.s₀.heap.objs.size≤it) (h2:∀ x c,X.env.cells.lookup x=some c→c≠it) (h3:∀ p∈X.pn++pins,p.1≠it):Inv X pins σ H { s with heap:=h',toks:=t' }:=by
  have nit:∀ b u,H b=some u→b≠it:=fun b u e z=>by rw [z,hn] at e;cases e
  refine I.step (g':=s.gens) (d':=s.drawn) (ch:=[it]) (fun b hb=>?_) (fun b o _ _ hc e _=>k b o (fun z=>hc (by simp [z])) e) (fun b o _ _ hc e _=>⟨o.slots,k b o (fun z=>hc (by simp [z])) e⟩) (fun _ _ _ _ n=>n)
    (fun b o hc e=>⟨o,k b o (fun z=>hc (by simp [z])) e⟩) (fun _ _ e=>e) (fun _ _ _ e=>e) (fun b ps e=>⟨#[],by rw [e];simp⟩) (fun m hm=>?_) (fun b u e=>?_) I.bare
  · have e:b=it:=by simpa using hb
    subst e
    exact⟨h1,hL,h2,h3⟩
  · obtain⟨o,es,ep,ho,r⟩:=hm
    exact⟨o,es,ep,k _ o (Ne.symm hL) ho,r⟩
  · refine (I.hok b u e).stay (fun c v hc q=>k c v ?_ q) (fun _ q=>q) fun _ _ q=>q
    rcases hc with z | z
    · rw [z];exact nit b u e
    · exact nit c _ z
theorem Inv.tok (I:Inv X pins σ H s) (t:Nat):Inv X pins σ H { s with toks:=t }:=I.un (h':=s.heap) (t':=t) Un.refl I.hok
theorem Inv.kept {t':Nat} (I:Inv X pins σ H s) (k:∀ b u,s.heap.get? b=some u→h'.get? b=some u):Inv X pins σ H { s with heap:=h',toks:=t' }:=I.un (Un.kept k) (I.hok.kept k)
theorem Inv.laid {a:Addr} {o:HO} {t':Nat} (I:Inv X pins σ H s) (k:∀ b u,s.heap.get? b=some u→h'.get? b=some u) (hp:s.heap.objs.size≤a) (new:qBH X.K X.prog X.w (upd H a o) h' a o) :
    Inv X pins σ (upd H a o) { s with heap:=h',toks:=t' }:=I.un (Un.laid k hp (I.hok.fresh hp)) (I.hok.laid k hp new)
theorem Inv.write {x e:Addr} {o:HO} {t':Nat} (I:Inv X pins σ H s) (mu:Mut (H x)) (he:e=x∨H e=some (.own x)) (k:∀ b u,b≠e→s.heap.get? b=some u→h'.get? b=some u) (heo:∃ u,h'.get? e=some u)
    (new:qBH X.K X.prog X.w (upd H x o) h' x o):Inv X pins σ (upd H x o) { s with heap:=h',toks:=t' }:=I.un (Un.write mu he k heo) (I.hok.write mu he k heo new)
theorem Inv.qGF {pins':List (Addr×Obj)} (I:Inv X pins σ H s) (h:∀ p∈pins',s.heap.get? p.1=some p.2∧H p.1=none∧p.1≠X.env.locals∧p.1 ∉ X.fs∧∀ v,p.2.data≠.cell v):Inv X pins' σ H s :=
  ⟨I.ok,I.os,I.bare,I.base,I.loc,I.cell,I.free,I.freeC,fun p hp=>(List.mem_append.mp hp).elim (fun z=>I.pin p (List.mem_append_left _ z)) (h p),I.hok,I.len⟩
theorem qJs {N:List Str} (hN:N.Nodup) {i j:Nat} {x:Str} (a:N[i]? = some x) (b:N[j]? = some x):i=j:=by
  obtain⟨h1,e1⟩:=List.getElem?_eq_some_iff.mp a
  obtain⟨h2,e2⟩:=List.getElem?_eq_some_iff.mp b
  exact (List.getElem_inj hN).mp (e1.trans e2.symm)
theorem qII {M:Model} {A:Around} {E:Value→Shared→Prop} {i:Nat} {x:Str} {v:V} {u:Value} {Q:Unit→Shared→Prop} (I:Inv X pins σ H s) (hN:X.N.Nodup) (hi:X.N[i]? = some x) (hx:Loc X.env.scope x) (r:RelV v u)
    (h:∀ s',Inv X pins (σ.set i (some v)) H s'→(∃ a,Heap.SameBut a s.heap s'.heap∧(a=X.env.locals∨X.env.cells.lookup x=some a))→Q () s') (hf:X.fn x=true∨X.env.scope.names.lookup x=some .local:=by first | exact .inl rfl | exact .inr rfl | assumption):wpAny M A (storeName X.env x u) Q E s:=by
  obtain⟨m,hn,hl⟩:=id I.loc
  have hcls:(X.env.scope.kind == .class || (X.env.scope.kind == .module&&X.env.locals != X.env.globals))=false:=by rw [I.ok.kind];rfl
  have hiσ:i<σ.length:=by rw [I.len];exact (List.getElem?_eq_some_iff.mp hi).1
  have cne:=I.cne
  have tracked:∀ {a:Addr} {h':Heap},(∃ o,s.heap.get? a=some o∧H a=none)→Heap.SameBut a s.heap h'→HOk X.K X.prog X.w H h':=fun {a h'} ha hs b ob e=>by
    obtain⟨_,_,hfree⟩:=ha
    refine (I.hok b ob e).stay (fun c w' hc q=>(hs.2 c ?_).trans q) (fun _ q=>q) fun _ _ q=>q
    rintro rfl
    rcases hc with rfl | hc
    · rw [hfree] at e;cases e
    · rw [hfree] at hc;cases hc
  rcases hx with hk | hk
  · refine wpAny_storeName_local hk hn (fun h' hn' hs=>?_) hcls
    obtain⟨oL,_,_,hoL,_⟩:=id hn
    refine h _ ⟨I.ok,I.os,I.bare,⟨fun b o e n hb hx=>?_,fun b o e n hb hx=>?_,I.base.free,fun b o e hx=>?_,I.base.tups,I.base.frzs,I.base.tbls⟩,⟨_,hn',fun j y v' e1 e2 e3=>?_⟩,fun y c e=>?_,I.free,I.freeC,fun p hp=>?_,tracked ⟨oL,hoL,I.free⟩ hs,by simpa using I.len⟩ ⟨_,hs,.inl rfl⟩
    · exact (hs.2 b (Nat.ne_of_lt (Nat.lt_of_lt_of_le (Heap.lt_size e) I.ok.above))).trans (I.base.keep b o e n hb hx)
    · obtain⟨sl,e1⟩:=I.base.slot b o e n hb hx
      exact⟨sl,(hs.2 b (Nat.ne_of_lt (Nat.lt_of_lt_of_le (Heap.lt_size e) I.ok.above))).trans e1⟩
    · k_dat 0"r31"
      exact⟨o',(hs.2 b (Nat.ne_of_lt (Nat.lt_of_lt_of_le (Heap.lt_size e) I.ok.above))).trans e1⟩
    · by_cases hj:j=i
      · subst hj
        rw [hi] at e1;cases e1
        rw [List.getElem?_set_self hiσ] at e2
        cases e2
        exact⟨u,r,.inl ⟨hk,by simp⟩⟩
      · rw [List.getElem?_set_ne (Ne.symm hj)] at e2
        obtain⟨u',r',q⟩:=hl j y v' e1 e2 e3
        refine⟨u',r',?_⟩
        rcases q with ⟨k,e⟩ | ⟨k,c,e,z⟩
        · refine .inl ⟨k,?_⟩
          have:y≠x:=fun e=>hj (qJs hN e1 (e ▸ hi))
          simp [this,e]
        · exact .inr ⟨k,c,e,z.sameBut hs (cne y c e)⟩
    · obtain⟨w',z⟩:=I.cell y c e
      exact⟨w',z.sameBut hs (cne y c e)⟩
    · obtain⟨e,n,ne,nf,d⟩:=I.pin p hp
      exact⟨(hs.2 p.1 ne).trans e,n,ne,nf,d⟩
  · have hfn:X.fn x=true:=by
      rcases hf with z | z
      · exact z
      · rw [z] at hk;cases hk
    obtain⟨c,hc⟩:=I.ok.has x (.inl hk)
    obtain⟨w',z⟩:=I.cell x c hc
    refine wpAny_storeName_cell I.ok.kind hk hc z (fun h' hc' hs=>?_)
    obtain⟨oc,hoc,hocd⟩:=id z
    refine h { s with heap:=h' } ⟨I.ok,I.os,I.bare,⟨fun b o e n hb hx=>?_,fun b o e n hb hx=>?_,I.base.free,fun b o e hx=>?_,I.base.tups,I.base.frzs,I.base.tbls⟩,⟨m,hn.sameBut hs (Ne.symm (cne x c hc)),fun j y v' e1 e2 e3=>?_⟩,fun y c' e=>?_,I.free,I.freeC,fun p hp=>?_,tracked ⟨oc,hoc,I.freeC x c hc⟩ hs,by simpa using I.len⟩ ⟨c,hs,.inr hc⟩
    · exact (hs.2 b (Nat.ne_of_lt (Nat.lt_of_lt_of_le (Heap.lt_size e) (I.ok.cab x c hfn hc)))).trans (I.base.keep b o e n hb hx)
    · obtain⟨sl,e1⟩:=I.base.slot b o e n hb hx
      exact⟨sl,(hs.2 b (Nat.ne_of_lt (Nat.lt_of_lt_of_le (Heap.lt_size e) (I.ok.cab x c hfn hc)))).trans e1⟩
    · k_dat 0"r31"
      exact⟨o',(hs.2 b (Nat.ne_of_lt (Nat.lt_of_lt_of_le (Heap.lt_size e) (I.ok.cab x c hfn hc)))).trans e1⟩
    · by_cases hj:j=i
      · subst hj
        rw [hi] at e1;cases e1
        rw [List.getElem?_set_self hiσ] at e2
        cases e2
        exact⟨u,r,.inr ⟨.inl hk,c,hc,hc'⟩⟩
      · rw [List.getElem?_set_ne (Ne.symm hj)] at e2
        obtain⟨u',r',q⟩:=hl j y v' e1 e2 e3
        refine⟨u',r',?_⟩
        rcases q with q | ⟨k,c',e,z'⟩
        · exact .inl q
        · refine .inr ⟨k,c',e,z'.sameBut hs ?_⟩
          rintro rfl
          exact hj (qJs hN e1 (I.ok.inj _ _ _ e hc ▸ hi))
    · by_cases hcc:c'=c
      · subst hcc;exact⟨_,hc'⟩
      · obtain⟨w2,z2⟩:=I.cell y c' e
        exact⟨w2,z2.sameBut hs hcc⟩
    · obtain⟨e,n,ne,nf,d⟩:=I.pin p hp
      refine⟨(hs.2 p.1 ?_).trans e,n,ne,nf,d⟩
      intro q
      rw [q,hoc] at e
      have q':oc=p.2:=Option.some.inj e
      exact d w' (by rw [← q'];exact hocd)
theorem qJg {M:Model} {A:Around} {E:Value→Shared→Prop} {i:Nat} {x:Str} {v:V} {u:Value} {Q:Unit→Shared→Prop} (I:Inv X pins σ H s) (hN:X.N.Nodup) (hi:X.N[i]? = some x) (hx:Loc X.env.scope x) (r:RelV v u)
    (h:∀ s',Inv X pins (σ.set i (some v)) H s'→Q () s') (hf:X.fn x=true∨X.env.scope.names.lookup x=some .local:=by first | exact .inl rfl | exact .inr rfl | assumption):wpAny M A (storeName X.env x u) Q E s :=
  qII I hN hi hx r (fun s' I' _=>h s' I') hf
theorem Inv.qUu {s':Shared} {ch:List Addr} (I:Inv X pins σ H s) (ho:s'.os=s.os) (u:Un (frs X.stack) ch H H' s.heap s'.heap) (hok:HOk X.K X.prog X.w H' s'.heap) (hg:AllBare s'.gens)
    (hch:∀ b∈ch,(b∈X.ex∨X.s₀.heap.objs.size≤b)∧b≠X.env.locals∧(∀ x c,X.env.cells.lookup x=some c→c≠b)∧∀ p∈X.pn++pins,p.1≠b):Inv X pins σ H' s':=by
  obtain⟨h',g',d',t',o'⟩:=s'
  have e:o'=s.os:=ho
  subst e
  exact I.call (g':=g') (t':=t') (d':=d') u hok hg hch
end
noncomputable abbrev XK:=Value→Option Addr→Hp→Prop
noncomputable abbrev St:=List (Option V)
noncomputable abbrev VK:=V→Hp→Prop
noncomputable abbrev TE:=St→Hp→VK→Prop
noncomputable abbrev TT:=St→Hp→(Bool→Hp→Prop)→Prop
noncomputable abbrev TA:=St→Hp→(List V→Hp→Prop)→Prop
structure Ends where
  nx:St→Hp→Prop
  rt:VK
  bk:St→Hp→Prop:=fun _ _=>False
  ct:St→Hp→Prop:=fun _ _=>False
noncomputable abbrev TS:=Ends→St→Hp→Prop
def EP (X:Cx) (pins:List (Addr×Obj)) (σ:St) (Q:VK) (u:Value) (s':Shared):Prop:=∃ v H',Inv X pins σ H' s'∧RelV v u∧Q v H'
def TP (X:Cx) (pins:List (Addr×Obj)) (σ:St) (Q:Bool→Hp→Prop) (b:Bool) (s':Shared):Prop:=∃ H',Inv X pins σ H' s'∧Q b H'
def AP (X:Cx) (pins:List (Addr×Obj)) (σ:St) (Q:List V→Hp→Prop) (us:List Value) (s':Shared):Prop:=∃ vs H',Inv X pins σ H' s'∧Vals vs us∧Q vs H'
def SP (X:Cx) (pins:List (Addr×Obj)) (D:Ends) (f:Flow) (s':Shared):Prop :=
  match f with
  | .next=>∃ σ' H',Inv X pins σ' H' s'∧D.nx σ' H'
  | .brk=>∃ σ' H',Inv X pins σ' H' s'∧D.bk σ' H'
  | .cont=>∃ σ' H',Inv X pins σ' H' s'∧D.ct σ' H'
  | .ret u=>∃ v σ' H',Inv X pins σ' H' s'∧RelV v u∧D.rt v H'
def PE (X:Cx) (e:Expr) (t:TE):Prop :=
  ∀ (pins:List (Addr×Obj)) (s:Shared) (σ:St) (H:Hp) (Q:VK),Inv X pins σ H s→t σ H Q→wpAny (model X.prog X.w) X.A (eval e X.env) (EP X pins σ Q) X.xe s
def PT (X:Cx) (e:Expr) (t:TT):Prop :=
  ∀ (pins:List (Addr×Obj)) (s:Shared) (σ:St) (H:Hp) (Q:Bool→Hp→Prop),Inv X pins σ H s→t σ H Q→wpAny (model X.prog X.w) X.A (isTrue e X.env (eval e X.env)) (TP X pins σ Q) X.xe s
def PW (X:Cx) (e:Expr) (t:TT):Prop :=
  ∀ (whole:Sem Value) (pins:List (Addr×Obj)) (s:Shared) (σ:St) (H:Hp) (Q:Bool→Hp→Prop),Inv X pins σ H s→t σ H Q→wpAny (model X.prog X.w) X.A (isTrue e X.env whole) (TP X pins σ Q) X.xe s
def PA (X:Cx) (es:List Expr) (t:TA):Prop :=
  ∀ (pos:Pos) (pins:List (Addr×Obj)) (s:Shared) (σ:St) (H:Hp) (Q:List V→Hp→Prop),Inv X pins σ H s→t σ H Q→wpAny (model X.prog X.w) X.A (spliced (backTo pos (starEach es X.env))) (AP X pins σ Q) X.xe s
def PS (X:Cx) (st:Stmt) (t:TS):Prop :=
  ∀ (pins:List (Addr×Obj)) (s:Shared) (σ:St) (H:Hp) (D:Ends),Inv X pins σ H s→t D σ H→wpAny (model X.prog X.w) X.A (exec st X.env) (SP X pins D) X.xe s
def PSs (X:Cx) (st:List Stmt) (t:TS):Prop :=
  ∀ (pins:List (Addr×Obj)) (s:Shared) (σ:St) (H:Hp) (D:Ends),Inv X pins σ H s→t D σ H→wpAny (model X.prog X.w) X.A (execs st X.env) (SP X pins D) X.xe s
theorem thn {α:Type} {t:Sem α} {Q Q':α→Shared→Prop} {M:Model} {A:Around} {E:Value→Shared→Prop} {s:Shared} (h:wpAny M A t Q E s) (hQ:∀ a s,Q a s→Q' a s):wpAny M A t Q' E s:=wpAny_mono h hQ fun _ _ x=>x
end L2
namespace L2
open PySem PySem.Spec PyProof.Rows
section
variable {X:Cx}
noncomputable def qVf (i:Nat):TE:=fun σ H Q=>∃ v,σ[i]? = some (some v)∧Q v H
noncomputable def tC (v:V):TE:=fun _ H Q=>Q v H
theorem qTv {i:Nat} {x:Str} {pos:Pos} (hN:X.N[i]? = some x) (hv:Vis X.env.scope x) (hd:(x==("__debug__" : Str))=false:=by decide) (hcd:(x==("__classdict__" : Str))=false:=by decide):PE X (.Name x pos) (qVf i):=by
  k_dat 0"r2"
  obtain⟨v,e,h⟩:=h
  obtain⟨m,hn,hl⟩:=I.loc
  obtain⟨u,r,l⟩:=hl i x v hN e hv
  have fin:EP X pins σ Q u s:=⟨v,H,I,r,h⟩
  rcases l with ⟨hk,hm⟩ | ⟨hk,c,hc,hcell⟩
  · exact wpAny_Name (wpAny_loadName_local I.ok.kind hk hn hm fin) hd
  · rcases hk with hk | hk
    · exact wpAny_Name (wpAny_loadName_cell I.ok.kind hk hc hcell fin) hd
    · exact wpAny_Name (wpAny_loadName_free I.ok.kind hk hc hcell fin hcd) hd
theorem qSw {i j pos}:PE X (.Constant (.int i) j pos) (tC (.int i)):=fun _ _ _ H _ I h=>wpAny_Constant_int ⟨.int i,H,I.tok _,⟨_,rfl⟩,h⟩
theorem qUZ {b j pos}:PE X (.Constant (.bool b) j pos) (tC (.bl b)):=fun _ _ _ H _ I h=>Constant_bool ⟨.bl b,H,I,rfl,h⟩
theorem qSA {j pos}:PE X (.Constant .none j pos) (tC .non):=fun _ _ _ H _ I h=>Constant_none ⟨.non,H,I,rfl,h⟩
theorem qO6 {x j pos}:PE X (.Constant (.str x) j pos) (tC (.str x)):=fun _ _ _ H _ I h=>Calls.Constant_str ⟨.str x,H,I.tok _,⟨_,rfl⟩,h⟩
def Gl (X:Cx) (x:Str):Prop:=X.env.kindOf x=some .globalImplicit
theorem qGH {E:Value→Shared→Prop} {pins:List (Addr×Obj)} {s:Shared} {σ:St} {H:Hp} {x:Str} {u:Value} {pos:Pos} {Q:Value→Shared→Prop} (I:Inv X pins σ H s) (hg:Gl X x) (hm:X.mg x=some u) (h:Q u s)
    (hd:(x==("__debug__" : Str))=false:=by decide):wpAny (model X.prog X.w) X.A (eval (.Name x pos) X.env) Q E s :=
  Calls.Name_function_global I.ok.kind hg (Calls.loadGlobal_global (by rw [I.ok.glob];exact I.mod.glob.keeps I.bk) hm h) hd
theorem qFB {E:Value→Shared→Prop} {pins:List (Addr×Obj)} {s:Shared} {σ:St} {H:Hp} {x:Str} {u:Value} {pos:Pos} {Q:Value→Shared→Prop} (I:Inv X pins σ H s) (hg:Gl X x) (hm:X.mg x=none) (hv:bootBuiltins x=some u) (h:Q u s)
    (hn:x ≠ "__name__":=by decide) (hd:(x==("__debug__" : Str))=false:=by decide):wpAny (model X.prog X.w) X.A (eval (.Name x pos) X.env) Q E s:=by
  obtain⟨mb,h1,h2⟩:=I.mod.blt
  exact Calls.Name_function_global I.ok.kind hg (Calls.loadGlobal_builtin (by rw [I.ok.glob];exact I.mod.glob.keeps I.bk) hm (by rw [I.ok.blt];exact h1.keeps I.bk) ((h2 x hn).trans hv) h) hd
theorem qPk {x:Str} {v:V} {u:Value} {pos:Pos} (hg:Gl X x) (hm:X.mg x=some u) (r:RelV v u) (hd:(x==("__debug__" : Str))=false:=by decide):PE X (.Name x pos) (tC v) :=
  fun _ _ _ H _ I h=>qGH I hg hm ⟨v,H,I,r,h⟩ hd
theorem qRG {x:Str} {v:V} {u:Value} {pos:Pos} (hg:Gl X x) (hm:X.mg x=none) (hv:bootBuiltins x=some u) (r:RelV v u) (hn:x ≠ "__name__":=by decide) (hd:(x==("__debug__" : Str))=false:=by decide):PE X (.Name x pos) (tC v) :=
  fun _ _ _ H _ I h=>qFB I hg hm hv ⟨v,H,I,r,h⟩ hn hd
variable {a b:Expr} {ta tb:TE} {pos:Pos}
def PC (X:Cx) (op:CmpOp) (a b:Expr) (t:TE):Prop :=
  ∀ (pins:List (Addr×Obj)) (s:Shared) (σ:St) (H:Hp) (Q:VK),Inv X pins σ H s→t σ H Q →
    wpAny (model X.prog X.w) X.A (eval a X.env) (fun v s₁=>wpAny (model X.prog X.w) X.A (eval b X.env) (fun u s₂=>wpAny (model X.prog X.w) X.A (compareOp op v u) (EP X pins σ Q) X.xe s₂) X.xe s₁) X.xe s
theorem qOc (b:Expr) {op:CmpOp} (h:op≠.In) (h2:op≠.NotIn):behindInMarks op b=false:=by
  have e1:(op==CmpOp.In)=false:=by cases op<;>first | rfl | exact absurd rfl h
  have e2:(op==CmpOp.NotIn)=false:=by cases op<;>first | rfl | exact absurd rfl h2
  cases b<;>simp [behindInMarks,e1,e2]
noncomputable def tB (t:TE):TT:=fun σ H Q=>t σ H fun x H1=>∃ c,x = .bl c∧Q c H1
theorem qR1 {op:CmpOp} {t:TE} (h:PC X op a b t) (h1:behindInMarks op b=false:=by first | exact qOc _ (by decide) (by decide) | rfl):PT X (.Compare a [op] [b] pos) (tB t):=by
  intro pins s σ H Q I hw
  refine wpAny_isTrue_Compare1 (thn (h pins s σ H _ I hw) fun v s1 h1=>thn h1 fun u s2 h2=>thn h2 fun c s3 hqz=>?_) h1
  k_dat 0"r19"
  obtain⟨d,rfl,q⟩:=q1
  cases r1
  exact wpAny_truthy_bool ⟨H1,I1,q⟩
theorem qR4 {e:Expr} {t:TE} (h:PE X e t) (he:∀ whole,isTrue e X.env whole=(do let v ← whole;standAt e.pos;holding [v] (truthy v)):=by intro _;rfl):PT X e (tB t):=by
  intro pins s σ H Q I hw
  refine isTrue_plain (thn (h pins s σ H _ I hw) fun v s1 hqz=>?_) (he _)
  k_dat 0"r19"
  obtain⟨d,rfl,q⟩:=q1
  cases r1
  exact wpAny_truthy_bool ⟨H1,I1,q⟩
variable {tA tB':TT} {rest:List Expr}
noncomputable def qVb (t u:TT):TT:=fun σ H Q=>t σ H fun c H1=>if c=true then u σ H1 Q else Q false H1
noncomputable def tOr (t u:TT):TT:=fun σ H Q=>t σ H fun c H1=>if c=true then Q true H1 else u σ H1 Q
noncomputable def qVs (t:TT):TT:=fun σ H Q=>t σ H fun c H1=>Q (!c) H1
theorem qQa (ha:PT X a tA):PW X (.BoolOp .And [a] pos) tA:=by
  intro wh pins s σ H Q I h
  refine isTrue_and (thn (ha pins s σ H Q I h) fun c s1 e=>?_)
  cases c with
  | true=>exact isTrue_and_nil e
  | false=>exact e
theorem qTx (ha:PT X a tA):PW X (.BoolOp .Or [a] pos) tA:=by
  intro wh pins s σ H Q I h
  refine isTrue_or (thn (ha pins s σ H Q I h) fun c s1 e=>?_)
  cases c with
  | false=>exact isTrue_or_nil e
  | true=>exact e
theorem qSr (ha:PT X a tA) (hb:PW X (.BoolOp .And (b::rest) pos) tB'):PW X (.BoolOp .And (a::b::rest) pos) (qVb tA tB'):=by
  intro wh pins s σ H Q I h
  refine isTrue_and (thn (ha pins s σ H _ I h) fun c s1 hqz=>?_)
  obtain⟨H1,I1,q1⟩:=hqz
  cases c with
  | true=>exact hb wh pins s1 σ H1 Q I1 q1
  | false=>exact⟨H1,I1,q1⟩
theorem qVL (ha:PT X a tA) (hb:PW X (.BoolOp .Or (b::rest) pos) tB'):PW X (.BoolOp .Or (a::b::rest) pos) (tOr tA tB'):=by
  intro wh pins s σ H Q I h
  refine isTrue_or (thn (ha pins s σ H _ I h) fun c s1 hqz=>?_)
  obtain⟨H1,I1,q1⟩:=hqz
  cases c with
  | true=>exact⟨H1,I1,q1⟩
  | false=>exact hb wh pins s1 σ H1 Q I1 q1
theorem qTi (ha:PT X a tA):PT X (.UnaryOp .Not a pos) (qVs tA):=by
  k_dat 0"r2"
  exact isTrue_not (ha pins s σ H (fun c H1=>Q (!c) H1) I h)
noncomputable def qT9 (ta tb:TE):TE:=fun σ H Q=>ta σ H fun x H1=>∃ c,x = .bl c∧if c=true then tb σ H1 Q else Q (.bl false) H1
noncomputable def qUi (ta:TE):TE:=fun σ H Q=>ta σ H fun x H1=>∃ c,x = .bl c∧Q (.bl (!c)) H1
theorem qTq {op} {t:TE} (h:PE X a t):PE X (.BoolOp op [a] pos) t:=fun pins s σ H Q I hw=>BoolOp_one (h pins s σ H Q I hw)
theorem qSs (ha:PE X a ta) (hb:PE X (.BoolOp .And (b::rest) pos) tb):PE X (.BoolOp .And (a::b::rest) pos) (qT9 ta tb):=by
  k_dat 0"r2"
  refine BoolOp_and (thn (ha pins s σ H _ I h) fun v s1 hqz=>?_)
  k_dat 0"r19"
  obtain⟨c,rfl,q1⟩:=q1
  cases r1
  refine wpAny_truthy_bool ?_
  cases c with
  | true=>exact hb pins s1 σ H1 Q I1 q1
  | false=>exact⟨.bl false,H1,I1,rfl,q1⟩
theorem qS6 (ha:PE X a ta):PE X (.UnaryOp .Not a pos) (qUi ta):=by
  k_dat 0"r2"
  refine UnaryOp_ (thn (ha pins s σ H _ I h) fun v s1 hqz=>?_)
  k_dat 0"r19"
  obtain⟨c,rfl,q1⟩:=q1
  cases r1
  exact not_of (wpAny_truthy_bool ⟨.bl (!c),H1,I1,rfl,q1⟩)
noncomputable def tIf (t:TT) (ta tb:TE):TE:=fun σ H Q=>t σ H fun c H1=>if c=true then ta σ H1 Q else tb σ H1 Q
theorem qOk {c:Expr} (hc:PT X c tA) (ha:PE X a ta) (hb:PE X b tb):PE X (.IfExp c a b pos) (tIf tA ta tb):=by
  k_dat 0"r2"
  refine wpAny_IfExp (thn (hc pins s σ H _ I h) fun d s1 hqz=>?_)
  obtain⟨H1,I1,q1⟩:=hqz
  cases d with
  | true=>exact ha pins s1 σ H1 Q I1 q1
  | false=>exact hb pins s1 σ H1 Q I1 q1
end
end L2
namespace L2
open PySem PySem.Spec PyProof.Rows
def SqL (K:W.Frag) (H:Hp) (a:Addr) (xs:List V):Prop :=
  Rd H a (.lst xs) ∨
    ∃ (o:Obj) (its:Array Value) (n:Nat),K.lookup a=some o∧o.cls = .type "list" ∧ o.dict=none∧o.data = .seq its n∧its.size≤sizeLine∧Vals xs its.toList
noncomputable def qVm:Value→Option V
  | .none=>some .non
  | .bool b=>some (.bl b)
  | .int i _=>some (.int i)
  | .str x _=>some (.str x)
  | .bytes b _=>some (.byt b)
  | .float b _=>some (.flt b)
  | .ref a=>some (.ref a)
  | .type n=>some (.ty n)
  | _=>none
theorem RelV.abs {x:V} {u:Value} (r:RelV x u):qVm u=some x:=by
  cases x with
  | non=>cases r;rfl
  | bl _=>cases r;rfl
  | int _=>obtain⟨t,rfl⟩:=r;rfl
  | str _=>obtain⟨t,rfl⟩:=r;rfl
  | byt _=>obtain⟨t,rfl⟩:=r;rfl
  | flt _=>obtain⟨t,rfl⟩:=r;rfl
  | ref _=>cases r;rfl
  | ty _=>cases r;rfl
theorem RelV.inj {x y:V} {u:Value} (r:RelV x u) (q:RelV y u):x=y:=Option.some.inj (r.abs.symm.trans q.abs)
theorem Vals.inj:∀ {xs ys:List V} {us:List Value},Vals xs us→Vals ys us→xs=ys
  | _,_,_,.nil,.nil=>rfl
  | _,_,_,.cons r t,.cons r' t'=>by rw [r.inj r',Vals.inj t t']
section
variable {X:Cx} {pins:List (Addr×Obj)} {σ:St} {H:Hp} {s:Shared} {a:Addr} {xs ys:List V}
theorem SqL.of {K:W.Frag} (h:H a=some (.lst xs)):SqL K H a xs:=.inl (.inl h)
theorem SqT.of {K:W.Frag} (h:H a=some (.tup xs)):SqT K H a xs:=.inl h
theorem Inv.list (I:Inv X pins σ H s) (h:SqL X.K H a xs):∃ its:List Value,Vals xs its∧PlainL s.heap a its.toArray∧xs.length≤sizeLine:=by
  rcases h with h | ⟨o,its,n,hk,hc,hd,hs,hz,r⟩
  · obtain⟨z,its,n,r,e⟩:=h.ok I.hok
    exact⟨its,r,⟨_,n,e,rfl,rfl,rfl⟩,z⟩
  · refine⟨its.toList,r,⟨o,n,I.kIn a o hk,hc,hd,by simpa using hs⟩,?_⟩
    have e:=r.length
    simp only [Array.length_toList] at e
    lia
theorem Inv.tuple (I:Inv X pins σ H s) (h:SqT X.K H a xs):∃ its:List Value,Vals xs its∧IsTup s.heap a its.toArray∧xs.length≤sizeLine:=by
  rcases h with h | ⟨o,its,n,hk,hc,hs,hz,r⟩
  · obtain⟨z,its,r,p⟩:=I.hok a _ h
    exact⟨its,r,p.tup,z⟩
  · refine⟨its.toList,r,⟨o,I.kIn a o hk,hc.1,n,by simpa using hs⟩,?_⟩
    have e:=r.length
    simp only [Array.length_toList] at e
    lia
theorem Inv.qOe (I:Inv X pins σ H s) (h:SqL X.K H a xs) (h':SqL X.K H a ys):xs=ys:=by
  obtain⟨its,r,⟨o,n,e,_,_,d⟩,_⟩:=I.list h
  obtain⟨its',r',⟨o',n',e',_,_,d'⟩,_⟩:=I.list h'
  rw [e] at e';cases e'
  rw [d] at d'
  injection d' with d1 _
  have:its=its':=by simpa using congrArg Array.toList d1
  subst this
  exact r.inj r'
theorem Inv.qDz (I:Inv X pins σ H s) (h:SqT X.K H a xs) (h':SqT X.K H a ys):xs=ys:=by
  obtain⟨its,r,⟨o,e,_,n,d⟩,_⟩:=I.tuple h
  obtain⟨its',r',⟨o',e',_,n',d'⟩,_⟩:=I.tuple h'
  rw [e] at e';cases e'
  rw [d] at d'
  injection d' with d1 _
  have:its=its':=by simpa using congrArg Array.toList d1
  subst this
  exact r.inj r'
end
noncomputable abbrev Cx.qHn (X:Cx) (E:Value→Shared→Prop):Cx:={ X with xe:=E }
noncomputable abbrev Cx.nox (X:Cx):Cx:=X.qHn fun _ _=>False
theorem Cx.Ok.qHn {X:Cx} (ok:X.Ok) (E:Value→Shared→Prop):(X.qHn E).Ok :=
  ⟨ok.mod,ok.kind,ok.glob,ok.blt,ok.above,ok.inj,ok.has,ok.cab,ok.hd,ok.frames,ok.stk,ok.exf,ok.bs,ok.bsz,ok.noex,ok.exfs,ok.qFc,ok.frf⟩
theorem Cx.Ok.qDZ {X:Cx} {E:Value→Shared→Prop} (ok:(X.qHn E).Ok):X.Ok :=
  ⟨ok.mod,ok.kind,ok.glob,ok.blt,ok.above,ok.inj,ok.has,ok.cab,ok.hd,ok.frames,ok.stk,ok.exf,ok.bs,ok.bsz,ok.noex,ok.exfs,ok.qFc,ok.frf⟩
section
variable {X:Cx} {pins:List (Addr×Obj)} {σ:St} {H:Hp} {s:Shared} {E:Value→Shared→Prop}
theorem Inv.qHn (I:Inv X pins σ H s) (E:Value→Shared→Prop):Inv (X.qHn E) pins σ H s:=⟨I.ok.qHn E,I.os,I.bare,I.base,I.loc,I.cell,I.free,I.freeC,I.pin,I.hok,I.len⟩
theorem Inv.qDZ (I:Inv (X.qHn E) pins σ H s):Inv X pins σ H s:=⟨I.ok.qDZ,I.os,I.bare,I.base,I.loc,I.cell,I.free,I.freeC,I.pin,I.hok,I.len⟩
theorem SP.qDZ {D:Ends} {f:Flow} {s':Shared} (h:SP (X.qHn E) pins D f s'):SP X pins D f s':=by
  cases f with
  | next=>obtain⟨σ',H',I,q⟩:=h;exact⟨σ',H',I.qDZ,q⟩
  | brk=>obtain⟨σ',H',I,q⟩:=h;exact⟨σ',H',I.qDZ,q⟩
  | cont=>obtain⟨σ',H',I,q⟩:=h;exact⟨σ',H',I.qDZ,q⟩
  | ret u=>obtain⟨v,σ',H',I,r,q⟩:=h;exact⟨v,σ',H',I.qDZ,r,q⟩
theorem PSs.nox {st:List Stmt} {t:TS} (h:PSs X.nox st t):PSs X st t:=fun pins s σ H D I hw =>
  wpAny_mono (h pins s σ H D (I.qHn _) hw) (fun _ _ q=>q.qDZ) fun _ _ z=>False.elim z
end
section
variable {X:Cx} {st:Stmt} {rest:List Stmt} {t u:TS} {e:Expr} {te:TE} {pos:Pos}
noncomputable def qUJ:TS:=fun D σ H=>D.nx σ H
noncomputable def qVO (t u:TS):TS:=fun D σ H=>t { D with nx:=u D } σ H
theorem qQt:PSs X [] qUJ:=fun _ _ σ H _ I h=>wpAny_execs_nil ⟨σ,H,I,h⟩
theorem qOU (h1:PS X st t) (h2:PSs X rest u):PSs X (st::rest) (qVO t u):=by
  k_dat 0"r15"
  refine wpAny_execs_cons (thn (h1 pins s σ H { D with nx:=u D } I h) fun f s1 q=>?_)
  cases f with
  | next =>
    obtain⟨σ',H',I',q⟩:=q
    exact h2 pins s1 σ' H' D I' q
  | ret v=>exact q
  | brk=>exact q
  | cont=>exact q
theorem Inv.quiet {pins:List (Addr×Obj)} {σ:St} {H:Hp} {s:Shared} (I:Inv X pins σ H s):interactive X.env=false:=by simp [interactive,I.ok.kind]
noncomputable def qUR (te:TE):TS:=fun D σ H=>te σ H fun _ H1=>D.nx σ H1
theorem qQ0 (he:PE X e te) (hs:swapsWith e none pos.line X.env=pure false:=by rfl):PS X (.Expr e pos) (qUR te):=by
  k_dat 0"r15"
  exact wpAny_Expr_any (thn (he pins s σ H _ I h) fun v s1 ⟨x,H1,I1,r1,q1⟩=>⟨σ,H1,I1,q1⟩) I.quiet hs
noncomputable def qVu (te:TE):TS:=fun D σ H=>te σ H D.rt
theorem qR6 (he:PE X e te):PS X (.Return (some e) pos) (qVu te):=by
  k_dat 0"r15"
  exact wpAny_Return_some (thn (he pins s σ H _ I h) fun v s1 ⟨x,H1,I1,r1,q1⟩=>⟨x,σ,H1,I1,r1,q1⟩)
noncomputable def qT7:TS:=fun D _ H=>D.rt .non H
theorem qPf:PS X (.Return none pos) qT7:=fun _ _ σ H _ I h=>wpAny_Return_none ⟨.non,σ,H,I,rfl,h⟩
noncomputable def qVd (c:TT) (t u:TS):TS:=fun D σ H=>c σ H fun b H1=>if b=true then t D σ H1 else u D σ H1
theorem qUz {c:Expr} {a b:List Stmt} {tc:TT} (hc:PT X c tc) (ha:PSs X a t) (hb:PSs X b u):PS X (.If c a b pos) (qVd tc t u):=by
  k_dat 0"r15"
  refine wpAny_If (thn (hc pins s σ H _ I h) fun d s1 hqz=>?_)
  obtain⟨H1,I1,q1⟩:=hqz
  cases d with
  | true=>exact ha pins s1 σ H1 D I1 q1
  | false=>exact hb pins s1 σ H1 D I1 q1
end
noncomputable abbrev TG:=V→St→Hp→(St→Hp→Prop)→Prop
noncomputable abbrev TGs:=List V→St→Hp→(St→Hp→Prop)→Prop
def PG (X:Cx) (target:Expr) (t:TG):Prop :=
  ∀ (pins:List (Addr×Obj)) (s:Shared) (σ:St) (H:Hp) (v:V) (u:Value) (Q:St→Hp→Prop),Inv X pins σ H s→RelV v u→t v σ H Q →
    wpAny (model X.prog X.w) X.A (assign target X.env u) (fun _ s'=>∃ σ' H',Inv X pins σ' H' s'∧Q σ' H') X.xe s
def PGs (X:Cx) (ts:List Expr) (t:TGs):Prop :=
  ∀ (pins:List (Addr×Obj)) (s:Shared) (σ:St) (H:Hp) (vs:List V) (us:List Value) (Q:St→Hp→Prop),Inv X pins σ H s→Vals vs us→t vs σ H Q →
    wpAny (model X.prog X.w) X.A (assignInOrder ((assignEach ts X.env).map (·.2)) us) (fun _ s'=>∃ σ' H',Inv X pins σ' H' s'∧Q σ' H') X.xe s
noncomputable abbrev qSQ:=V→V→V→Hp→(Hp→Prop)→Prop
def qUL (X:Cx) (t:qSQ):Prop :=
  ∀ (pins:List (Addr×Obj)) (s:Shared) (σ:St) (H:Hp) (o i v:V) (ov iv u:Value) (Q:Hp→Prop),Inv X pins σ H s→RelV o ov→RelV i iv→RelV v u→t o i v H Q →
    wpAny (model X.prog X.w) X.A (setItem ov iv u) (fun _ s'=>∃ H',Inv X pins σ H' s'∧Q H') X.xe s
section
variable {X:Cx} {pos:Pos}
noncomputable def qG6 (i:Nat):TG:=fun v σ H Q=>Q (σ.set i (some v)) H
theorem qJF {i:Nat} {x:Str} (hN:X.N.Nodup) (hi:X.N[i]? = some x) (hx:Loc X.env.scope x) (hf:X.fn x=true∨X.env.scope.names.lookup x=some .local:=by first | exact .inl rfl | exact .inr rfl | assumption):PG X (.Name x pos) (qG6 i):=by
  intro pins s σ H v u Q I r h
  exact wpAny_assign_Name (qJg I hN hi hx r (fun s' I'=>⟨_,H,I',h⟩) hf)
noncomputable def qVP:TGs:=fun vs σ H Q=>vs=[]∧Q σ H
noncomputable def qUv (t:TG) (u:TGs):TGs:=fun vs σ H Q=>∃ v r,vs=v::r∧t v σ H fun σ' H'=>u r σ' H' Q
theorem qQj:PGs X [] qVP:=by
  intro pins s σ H vs us Q I r h
  obtain⟨e,h⟩:=h
  subst e
  cases r
  exact assignInOrder_nil ⟨σ,H,I,h⟩
theorem qNh {e:Expr} {es:List Expr} {t:TG} {u:TGs} (h1:PG X e t) (h2:PGs X es u)
    (hs:(assignEach (e::es) X.env).map (·.2)=assign e X.env::(assignEach es X.env).map (·.2):=by rfl):PGs X (e::es) (qUv t u):=by
  intro pins s σ H vs us Q I r h
  obtain⟨v,vr,e1,h⟩:=h
  subst e1
  cases r with
  | cons r rr =>
    rw [hs]
    refine assignInOrder_cons (thn (h1 pins s σ H _ _ _ I r h) fun _ s1 hqz=>?_)
    obtain⟨σ1,H1,I1,q1⟩:=hqz
    exact h2 pins s1 σ1 H1 _ _ Q I1 rr q1
noncomputable def qVN (to ti:TE) (t:qSQ):TG:=fun v σ H Q=>to σ H fun o H1=>ti σ H1 fun i H2=>t o i v H2 fun H3=>Q σ H3
theorem qS0 {o i:Expr} {to ti:TE} {t:qSQ} (ho:PE X o to) (hi:PE X i ti) (hs:qUL X t)
    (ha:∀ v,assign (.Subscript o i pos) X.env v=(do
      let ov ← holding [v] (eval o X.env)
      let iv ← holding [v,ov] (eval i X.env)
      standAt pos
      holding [v,ov,iv] (setItem ov iv v)
      release [v,ov,iv] []):=by intro _;rfl):PG X (.Subscript o i pos) (qVN to ti t):=by
  intro pins s σ H v u Q I r h
  rw [ha]
  refine wpAny_bind (wpAny_holding (thn (ho pins s σ H _ I h) fun ov s1 hqz=>?_))
  k_dat 0"r19"
  refine wpAny_bind (wpAny_holding (thn (hi pins s1 σ H1 _ I1 q1) fun iv s2 hqz=>?_))
  obtain⟨y,H2,I2,r2,q2⟩:=hqz
  refine wpAny_bind (wpAny_standAt (wpAny_bind (wpAny_holding (thn (hs pins s2 σ H2 x y v ov iv u _ I2 r1 r2 r q2) fun _ s3 hqz=>?_))))
  obtain⟨H3,I3,q3⟩:=hqz
  exact wpAny_release ⟨σ,H3,I3,q3⟩
noncomputable def qQY (te:TE) (g:TG):TS:=fun D σ H=>te σ H fun x H1=>g x σ H1 D.nx
theorem qTL {tg e:Expr} {te:TE} {g:TG} (he:PE X e te) (hg:PG X tg g) (hs:swapsWithSole [tg] e pos.line X.env=pure false:=by rfl) (hw:swappedStores [tg] e X.env=pure none:=by rfl)
    (h1:(assignEach [tg] X.env).map (·.2)=[assign tg X.env]:=by rfl):PS X (.Assign [tg] e pos) (qQY te g):=by
  k_dat 0"r15"
  refine wpAny_Assign_stores (thn (he pins s σ H _ I h) fun v s1 hqz=>?_) hs hw
  k_dat 0"r19"
  rw [h1]
  exact thn (hg pins s1 σ H1 x v _ I1 r1 q1) fun _ s2 q=>q
theorem qTB {i:Nat} {x:Str} {e:Expr} {te:TE} {pos':Pos} (hN:X.N.Nodup) (hi:X.N[i]? = some x) (hx:Loc X.env.scope x) (he:PE X e te) (hs:swapsWith e (some (.Name x pos')) pos.line X.env=pure false:=by rfl) (hf:X.fn x=true∨X.env.scope.names.lookup x=some .local:=by first | exact .inl rfl | exact .inr rfl | assumption) :
    PS X (.Assign [.Name x pos'] e pos) (qQY te (qG6 i)):=by
  k_dat 0"r15"
  refine wpAny_Assign_Name (thn (he pins s σ H _ I h) fun v s1 hqz=>?_) hs
  obtain⟨y,H1,I1,r1,q1⟩:=hqz
  exact qJg I1 hN hi hx r1 (fun s2 I2=>⟨_,H1,I2,q1⟩) hf
end
section
variable {X:Cx} {pos:Pos}
noncomputable def qTc (c:TT) (tb:TS):TS:=fun D σ H=>∃ W:Nat→St→Hp→Prop,(∃ m,W m σ H)∧∀ m σ H,W m σ H →
  c σ H fun b H1=>if b=true then ∃ N:St→Hp→Prop,(∀ σ' H',N σ' H'→∃ m',m'<m∧W m' σ' H')∧tb { D with nx:=N,ct:=N,bk:=D.nx } σ H1 else D.nx σ H1
theorem qNX {c:Expr} {body:List Stmt} {tc:TT} {tb:TS} (hp:PassesOwn (model X.prog X.w) X.A X.env X.xe) (hc:PT X c tc) (hb:PSs X body tb):PS X (.While c body [] pos) (qTc tc tb):=by
  k_dat 0"r15"
  obtain⟨W,⟨m0,w0⟩,turn⟩:=h
  refine wpAny_While (codeAny_whileLoop (fun n s'=>∃ σ' H',Inv X pins σ' H' s'∧W n σ' H') ?_ m0 ⟨σ,H,I,w0⟩)
  rintro n s1 ⟨σ1,H1,I1,w1⟩
  refine wpAny_passesOwn hp (thn (hc pins s1 σ1 H1 _ I1 (turn n σ1 H1 w1)) fun b s2 hqz=>?_)
  obtain⟨H2,I2,q2⟩:=hqz
  cases b with
  | true =>
    obtain⟨N,hN,q2⟩:=q2
    rw [if_pos rfl]
    refine wpAny_passesOwn hp (thn (hb pins s2 σ1 H2 _ I2 q2) fun f s3 q3=>?_)
    cases f with
    | next =>
      obtain⟨σ3,H3,I3,n3⟩:=q3
      obtain⟨m',hm,w3⟩:=hN σ3 H3 n3
      exact⟨m',hm,σ3,H3,I3,w3⟩
    | cont =>
      obtain⟨σ3,H3,I3,n3⟩:=q3
      obtain⟨m',hm,w3⟩:=hN σ3 H3 n3
      exact⟨m',hm,σ3,H3,I3,w3⟩
    | brk=>exact q3
    | ret v=>exact q3
  | false =>
    rw [if_neg Bool.false_ne_true]
    exact wpAny_execs_nil ⟨σ1,H2,I2,q2⟩
end
structure It where
  go:Nat→Hp→Prop
  yld:Nat→Hp→V→Hp→Prop
  stop:Nat→Hp→Prop
def qHf (X:Cx) (pins:List (Addr×Obj)) (H:Hp) (b:Addr):Prop :=
  H b=none∧b≠X.env.locals∧b ∉ X.fs∧(b∈X.ex∨X.s₀.heap.objs.size≤b)∧(∀ x c,X.env.cells.lookup x=some c→c≠b)∧∀ p∈X.pn++pins,p.1≠b
theorem Inv.qPi {X:Cx} {pins:List (Addr×Obj)} {σ:St} {H H':Hp} {s:Shared} {b:Addr} (I:Inv X pins σ H s) (hb:s.heap.objs.size≤b) (hn:H' b=none):qHf X pins H' b:=by
  refine⟨hn,Nat.ne_of_gt (Nat.lt_of_lt_of_le I.lt hb),I.qUd hb,.inr (Nat.le_trans I.sz hb),fun x c e z=>?_,fun p hp z=>?_⟩
  · obtain⟨v,q⟩:=I.cell x c e
    exact absurd (Nat.lt_of_lt_of_le q.lt (by rw [z];exact hb)) (Nat.lt_irrefl _)
  · exact absurd (Nat.lt_of_lt_of_le (Heap.lt_size (I.pin p hp).1) (by rw [z];exact hb)) (Nat.lt_irrefl _)
structure Turn (P:Program) (w:World) (K:W.Frag) (tg:Expr) (J:It) (fp:List Addr) (it:Addr) (tn:Nat→Heap→Prop):Prop where
  mem:it∈fp
  obj:∀ i h,tn i h→∀ b∈fp,∃ o,h.get? b=some o∧∀ v,o.data≠.cell v
  keep:∀ i h h',tn i h→(∀ b∈fp,∀ o,h.get? b=some o→h'.get? b=some o)→tn i h'
  item:∀ (X:Cx),X.prog=P→X.w=w→X.K=K→X.calm=true→∀ (i:Nat) (pins:List (Addr×Obj)) (s:Shared) (σ:St) (H:Hp) (E:Value→Shared→Prop),Inv X pins σ H s→(∀ b∈fp,qHf X pins H b)→tn i s.heap→J.go i H →
    wpAny (model P w) X.A (pyNext (.ref it)) (fun r s1=>∃ u,r=some u ∧
      wpAny (model P w) X.A (letOwnedTupleGo tg (.ref it) u) (fun _ s2=>∃ x H',Inv X pins σ H' s2∧RelV x u∧J.yld i H x H'∧tn (i+1) s2.heap∧∀ b∈fp,H' b=none) E s1) E s
  done:∀ (X:Cx),X.prog=P→X.w=w→X.K=K→X.calm=true→∀ (i:Nat) (pins:List (Addr×Obj)) (s:Shared) (σ:St) (H:Hp) (E:Value→Shared→Prop),Inv X pins σ H s→(∀ b∈fp,qHf X pins H b)→tn i s.heap→J.stop i H →
    wpAny (model P w) X.A (pyNext (.ref it)) (fun r s1=>r=none∧Inv X pins σ H s1) E s
  self:∀ (A:Around) (i:Nat) (s:Shared) (Q:Value→Shared→Prop) (E:Value→Shared→Prop),tn i s.heap→Q (.ref it) s→wpAny (model P w) A (pyIter (.ref it)) Q E s
noncomputable abbrev TI:=St→Hp→(It→Hp→Prop)→Prop
def PIE (X:Cx) (pins:List (Addr×Obj)) (σ:St) (tg:Expr) (R:It→Hp→Prop) (itv:Value) (s2:Shared):Prop :=
  ∃ (it:Addr) (fp:List Addr) (tn:Nat→Heap→Prop) (J:It) (H':Hp),itv = .ref it∧Inv X pins σ H' s2∧Turn X.prog X.w X.K tg J fp it tn∧tn 0 s2.heap∧(∀ b∈fp,qHf X pins H' b)∧R J H'
def PI (X:Cx) (tg iter:Expr) (wi:TI):Prop :=
  ∀ (pins:List (Addr×Obj)) (s:Shared) (σ:St) (H:Hp) (R:It→Hp→Prop),Inv X pins σ H s→wi σ H R →
    wpAny (model X.prog X.w) X.A (eval iter X.env) (fun v s1=>wpAny (model X.prog X.w) X.A (pyIter v) (PIE X pins σ tg R) X.xe s1) X.xe s
theorem qOi {M:Model} {A:Around} {E:Value→Shared→Prop} {s:Shared} {tg:Expr} {it:Addr} {u:Value} {o:Obj} {n:String} {vs:Array Value} {Q:Unit→Shared→Prop} (ho:s.heap.get? it=some o) (hc:o.cls = .type n) (hd:o.data = .fields vs)
    (hn:["enumerate", "zip", "dict_itemiterator", "dict_reverseitemiterator", "odict_iterator", "itertools.zip_longest", "itertools.pairwise"].contains n=false) (hQ:Q () s):wpAny M A (letOwnedTupleGo tg (.ref it) u) Q E s:=by
  unfold letOwnedTupleGo
  cases tg <;> first
    | exact wpAny_pure hQ
    | (cases u<;>first
        | exact wpAny_pure hQ
        | (refine wpAny_bind (wpAny_load ho ?_)
           rw [hc,hd]
           show wpAny M A (if (["enumerate", "zip", "dict_itemiterator", "dict_reverseitemiterator", "odict_iterator", "itertools.zip_longest", "itertools.pairwise"].contains n&&vs[0]? == some (rawInt _))=true then _ else _) Q E s
           rw [if_neg (by intro h;rw [hn,Bool.false_and] at h;cases h)]
           exact wpAny_pure hQ))
noncomputable def Itl (K:W.Frag) (a:Addr):It :=
  ⟨fun i H=>∃ xs x,SqL K H a xs∧xs[i]? = some x,fun i H x H'=>H'=H∧∀ xs,SqL K H a xs→xs[i]? = some x,fun i H=>∃ xs,SqL K H a xs∧xs.length≤i⟩
noncomputable def Itt (K:W.Frag) (a:Addr):It :=
  ⟨fun i H=>∃ xs x,SqT K H a xs∧xs[i]? = some x,fun i H x H'=>H'=H∧∀ xs,SqT K H a xs→xs[i]? = some x,fun i H=>∃ xs,SqT K H a xs∧xs.length≤i⟩
noncomputable def Itr (lo:Int) (n:Nat):It:=⟨fun i _=>i<n,fun i H x H'=>H'=H∧x = .int (lo+i),fun i _=>n≤i⟩
theorem qMU {P:Program} {w:World} {K:W.Frag} {tg:Expr} (a it:Addr):Turn P w K tg (Itl K a) [it] it (fun i h=>h.IsListIter it a i) where
  mem:=by simp
  obj:=fun i h st b hb=>by
    have e:b=it:=by simpa using hb
    subst e
    obtain⟨o,e,c,d⟩:=st
    exact⟨o,e,fun v z=>by rw [d] at z;cases z⟩
  keep:=fun i h h' st k=>st.at fun o e=>k it (by simp) o e
  item:=by
    k_dat 0"r22"
    subst hP hw hK
    obtain⟨xs,x,hq,hx⟩:=hg
    obtain⟨its,rv,p,hz⟩:=I.list hq
    obtain⟨u,hu,ru⟩:=rv.get hx
    k_dat 0"r26"
    refine wpAny_pyNext_list_item st p.isList (x:=u) (by simpa using hu) fun h' st' sb=>?_
    k_dat 0"r58"
    obtain⟨o,e,c,d⟩:=id st'
    exact⟨u,rfl,qOi (s:={ s with heap:=h' }) e c d (by decide) ⟨x,H,I1,ru,⟨rfl,fun ys hy=>by rw [I.qOe hy hq];exact hx⟩,st',fun b hb=>(hf b hb).1⟩⟩
  done:=by
    k_dat 0"r22"
    subst hP hw hK
    obtain⟨xs,hq,hx⟩:=hg
    obtain⟨its,rv,p,hz⟩:=I.list hq
    k_dat 0"r26"
    have hl:=rv.length
    exact wpAny_pyNext_list_end (I.ok.hd hc) st p.isList (by simp;lia) fun h' eb=>⟨rfl,I.turned (t':=s.toks) (fun b o hb e=>eb b o hb e) f0 f1 f3 f4 f5⟩
  self:=fun _ _ _ _ _ st h=>wpAny_pyIter_listiter st h
theorem qKr {P:Program} {w:World} {K:W.Frag} {tg:Expr} (a it:Addr):Turn P w K tg (Itt K a) [it] it (fun i h=>h.IsTupleIter it a i) where
  mem:=by simp
  obj:=fun i h st b hb=>by
    have e:b=it:=by simpa using hb
    subst e
    obtain⟨o,e,c,d⟩:=st
    exact⟨o,e,fun v z=>by rw [d] at z;cases z⟩
  keep:=fun i h h' st k=>st.at fun o e=>k it (by simp) o e
  item:=by
    k_dat 0"r22"
    subst hP hw hK
    obtain⟨xs,x,hq,hx⟩:=hg
    obtain⟨its,rv,p,hz⟩:=I.tuple hq
    obtain⟨u,hu,ru⟩:=rv.get hx
    k_dat 0"r26"
    refine wpAny_pyNext_tuple_item st (show s.heap.IsTuple a its.toArray from p) (x:=u) (by simpa using hu) fun h' st' sb=>?_
    k_dat 0"r58"
    obtain⟨o,e,c,d⟩:=id st'
    exact⟨u,rfl,qOi (s:={ s with heap:=h' }) e c d (by decide) ⟨x,H,I1,ru,⟨rfl,fun ys hy=>by rw [I.qDz hy hq];exact hx⟩,st',fun b hb=>(hf b hb).1⟩⟩
  done:=by
    k_dat 0"r22"
    subst hP hw hK
    obtain⟨xs,hq,hx⟩:=hg
    obtain⟨its,rv,p,hz⟩:=I.tuple hq
    k_dat 0"r26"
    have hl:=rv.length
    exact wpAny_pyNext_tuple_end (I.ok.hd hc) st (show s.heap.IsTuple a its.toArray from p) (by simp;lia) fun h' eb=>⟨rfl,I.turned (t':=s.toks) (fun b o hb e=>eb b o hb e) f0 f1 f3 f4 f5⟩
  self:=fun _ _ _ _ _ st h=>wpAny_pyIter_tupleiter st h
theorem qLa {P:Program} {w:World} {K:W.Frag} {tg:Expr} (it:Addr) (lo:Int) (n:Nat):Turn P w K tg (Itr lo n) [it] it (fun i h=>IsRangeIter h it (lo+(i:Nat) * 1) ((n:Int) - (i:Nat)) 1) where
  mem:=by simp
  obj :=fun i h st b hb=>by
    have e:b=it:=by simpa using hb
    subst e
    exact⟨_,st,fun v z=>by
      have z':Data.fields _=Data.cell v:=z
      cases z'⟩
  keep:=fun i h h' st k=>k it (by simp) _ st
  item:=by
    k_dat 0"r22"
    subst hP hw hK
    k_dat 0"r26"
    have W:=Walks.range (prog:=X.prog) (w:=X.w) (I.ok.hd hc) it lo 1 n
    refine W.item i s _ _ hg st fun v h' tk hv st' kk=>?_
    obtain⟨t,rfl⟩:=hv
    have I1:Inv X pins σ H { s with heap:=h',toks:=tk }:=I.turned (fun b o hb e=>kk b o (by simpa using hb) e) f0 f1 f3 f4 f5
    refine⟨_,rfl,qOi (s:={ s with heap:=h',toks:=tk }) (n:= "range_iterator") st' rfl rfl (by decide) ⟨.int (lo+i),H,I1,⟨t,?_⟩,⟨rfl,rfl⟩,st',fun b hb=>(hf b hb).1⟩⟩
    rw [Int.mul_one]
  done:=by
    k_dat 0"r22"
    subst hP hw hK
    k_dat 0"r26"
    exact wpAny_pyNext_range_end (I.ok.hd hc) st (by have:n≤i:=hg;lia) fun h' eb=>⟨rfl,I.turned (t':=s.toks) (fun b o hb e=>eb b o hb e) f0 f1 f3 f4 f5⟩
  self:=fun _ _ _ _ _ st h=>wpAny_pyIter_rangeiter st h
end L2
namespace L2
open PySem PySem.Spec PyProof.Rows
section
variable {X:Cx} {tg:Expr}
theorem qNV {pins:List (Addr×Obj)} {σ:St} {H:Hp} {s:Shared} {R:It→Hp→Prop} {E:Value→Shared→Prop} {lo hi:Int} {t u v:Tok} {tk:Nat} (I:Inv X pins σ H s) (h1:-(2 ^ 62)≤lo) (h2:lo<2 ^ 62) (h3:-(2 ^ 62)≤hi) (h4:hi<2 ^ 62)
    (q:R (Itr lo (hi - lo).toNat) H):wpAny (model X.prog X.w) X.A (pyIter (.ref s.heap.objs.size)) (PIE X pins σ tg R) E { s with heap:=s.heap.push { cls:=.type "range",data:=.fields #[.int lo t,.int hi u,.int 1 v] },toks:=tk }:=by
  refine wpAny_pyIter_range (IsRange.new ..) (small_one h1 h2 h3 h4) ?_
  have I1:Inv X pins σ H { s with heap:=s.heap.push { cls:=.type "range",data:=.fields #[.int lo t,.int hi u,.int 1 v] },toks:=tk }:=I.kept fun b o e=>Heap.get?_push_of_some _ e
  refine⟨(s.heap.push { cls:=.type "range",data:=.fields #[.int lo t,.int hi u,.int 1 v] }).objs.size,[(s.heap.push { cls:=.type "range",data:=.fields #[.int lo t,.int hi u,.int 1 v] }).objs.size],_,_,H,rfl,
    I1.kept (t':=tk) fun b o e=>Heap.get?_push_of_some _ e,qLa _ lo (hi - lo).toNat,?_,fun b hb=>?_,q⟩
  · have e1:lo+((0:Nat):Int) * 1=lo:=by simp
    have e2:(((hi - lo).toNat:Nat):Int) - ((0:Nat):Int)=Builtin.Range.rangeSize lo hi 1:=by rw [rangeSize_one];split<;>lia
    show IsRangeIter _ _ (lo+((0:Nat):Int) * 1) ((((hi - lo).toNat:Nat):Int) - ((0:Nat):Int)) 1
    rw [e1,e2]
    exact Heap.get?_push_size _ rfl
  · have e:b=(s.heap.push { cls:=.type "range",data:=.fields #[.int lo t,.int hi u,.int 1 v] }).objs.size:=by simpa using hb
    subst e
    k_dat 0"r43"
noncomputable def qUT (ta:TA):TI:=fun σ H R=>ta σ H fun vs H1=>∃ j:Int,vs=[.int j]∧-(2 ^ 62)≤j∧j<2 ^ 62∧R (Itr 0 j.toNat) H1
theorem qMo {a:Expr} {ta:TA} {p pos:Pos} (hg:Gl X "range") (hm:X.mg "range" = none) (ha:PA X [a] ta) (hs:starEach [a] X.env=[(false,eval a X.env)]:=by rfl):PI X tg (.Call (.Name "range" p) [a] [] pos) (qUT ta):=by
  intro pins s σ H R I h
  refine Call_ (qFB I hg hm boot_range (PyProof.Rows.callWith_type1 (thn (ha pos pins s σ H _ I h) fun us s1 hqz=>?_) hs rfl))
  obtain⟨vs,H1,I1,r1,q1⟩:=hqz
  obtain⟨j,e,q1,q2,q⟩:=q1
  subst e
  cases r1 with
  | cons r rr =>
    cases rr
    obtain⟨t,rfl⟩:=r
    exact call_range_1 (qNV I1 (by lia) (by lia) q1 q2 (by simpa using q))
noncomputable def qVU (wi:TI) (g:TG) (tb:TS):TS:=fun D σ H=>wi σ H fun J H1=>∃ W:Nat→Nat→St→Hp→Prop,(∃ m,W 0 m σ H1)∧∀ i m σ H,W i m σ H →
  (J.stop i H∧D.nx σ H)∨(J.go i H∧∃ N:St→Hp→Prop,(∀ σ' H',N σ' H'→∃ m',m'<m∧W (i+1) m' σ' H')∧∀ x H',J.yld i H x H'→g x σ H' fun σ2 H2=>tb { D with nx:=N,ct:=N,bk:=D.nx } σ2 H2)
noncomputable def qHC (fp:List Addr) (h:Heap):List (Addr×Obj):=fp.filterMap fun b=>(h.get? b).map fun o=>(b,o)
theorem qDD {fp:List Addr} {h:Heap} {b:Addr} {o:Obj} (hb:b∈fp) (e:h.get? b=some o):(b,o)∈qHC fp h:=List.mem_filterMap.mpr ⟨b,hb,by rw [e];rfl⟩
theorem qMk {fp:List Addr} {h:Heap} {p:Addr×Obj} (hp:p∈qHC fp h):p.1∈fp∧h.get? p.1=some p.2:=by
  obtain⟨b,hb,e⟩:=List.mem_filterMap.mp hp
  cases q:h.get? b with
  | none=>rw [q] at e;cases e
  | some o =>
    rw [q] at e
    have e':(b,o)=p:=Option.some.inj e
    subst e'
    exact⟨hb,q⟩
theorem Inv.pinned {pins:List (Addr×Obj)} {σ:St} {H:Hp} {s:Shared} {fp:List Addr} (I:Inv X pins σ H s) (hf:∀ b∈fp,qHf X pins H b) (ho:∀ b∈fp,∃ o,s.heap.get? b=some o∧∀ v,o.data≠.cell v):Inv X (pins++qHC fp s.heap) σ H s :=
  I.qGF fun p hp=>(List.mem_append.mp hp).elim (fun z=>I.pin p (List.mem_append_right _ z)) fun z=>by
    obtain⟨hb,e⟩:=qMk z
    obtain⟨f0,f1,f2,_⟩:=hf p.1 hb
    obtain⟨o,e',d⟩:=ho p.1 hb
    rw [e] at e';cases e'
    exact⟨e,f0,f1,f2,d⟩
theorem Inv.qE4 {pins pl:List (Addr×Obj)} {σ:St} {H:Hp} {s:Shared} (I:Inv X (pins++pl) σ H s):Inv X pins σ H s:=I.qGF fun p hp=>I.pin p (List.mem_append_right _ (List.mem_append_left _ hp))
theorem qTR {iter:Expr} {body:List Stmt} {wi:TI} {g:TG} {tb:TS} {pos:Pos} (hp:PassesOwn (model X.prog X.w) X.A X.env X.xe) (hc:X.calm=true) (hi:PI X tg iter wi) (hg:PG X tg g) (hb:PSs X body tb)
    (hs:∀ x,foldedSetIterable iter X.env x=pure x:=by intro _;rfl):PS X (.For tg iter body [] pos) (qVU wi g tb):=by
  k_dat 0"r15"
  refine wpAny_For (thn (hi pins s σ H _ I h) fun v s1 h1=>thn h1 fun itv s2 h2=>?_) hs
  obtain⟨it,fp,tn,J,H2,e,I2,T,st2,f2,W,⟨m0,w0⟩,turn⟩:=h2
  subst e
  -- what stays true of the iterator's objects through the loop
  have stat:∀ {H':Hp},(∀ b∈fp,H' b=none)→∀ b∈fp,qHf X pins H' b:=fun hn b hb=>⟨hn b hb,(f2 b hb).2⟩
  refine codeAny_forLoop_any (fun n s'=>∃ i σ' H',Inv X pins σ' H' s'∧tn i s'.heap∧(∀ b∈fp,H' b=none)∧W i n σ' H') ?_ m0 ⟨0,σ,H2,I2,st2,fun b hb=>(f2 b hb).1,w0⟩
  rintro n s3 ⟨i,σ3,H3,I3,st3,fr3,w3⟩
  rcases turn i n σ3 H3 w3 with ⟨stop,qn⟩ | ⟨go,N,hN,step⟩
  · refine wpAny_passesOwn hp (thn (T.done X rfl rfl rfl hc i pins s3 σ3 H3 X.xe I3 (stat fr3) st3 stop) fun r s4 hqz=>?_)
    obtain⟨hr,I4⟩:=hqz
    subst hr
    exact wpAny_execs_nil ⟨σ3,H3,I4,qn⟩
  · refine wpAny_passesOwn hp (thn (T.item X rfl rfl rfl hc i pins s3 σ3 H3 X.xe I3 (stat fr3) st3 go) fun r s4 hqz=>?_)
    obtain⟨u,hr,h4⟩:=hqz
    subst hr
    refine wpAny_passesOwn hp (thn h4 fun _ s5 hqz=>?_)
    obtain⟨x,H5,I5,r5,y5,st5,fr5⟩:=hqz
    have I5':=I5.pinned (stat fr5) (T.obj _ _ st5)
    refine wpAny_passesOwn hp (thn (hg _ s5 σ3 H5 x u _ I5' r5 (step x H5 y5)) fun _ s6 hqz=>?_)
    obtain⟨σ6,H6,I6,q6⟩:=hqz
    refine wpAny_passesOwn hp (thn (hb _ s6 σ6 H6 _ I6 q6) fun f s7 q7=>?_)
    have again:∀ {σ7:St} {H7:Hp},Inv X (pins++qHC fp s5.heap) σ7 H7 s7→N σ7 H7→∃ m,m<n∧∃ i σ' H',Inv X pins σ' H' s7∧tn i s7.heap∧(∀ b∈fp,H' b=none)∧W i m σ' H':=fun {σ7 H7} I7 n7=>by
      obtain⟨m',hm,w7⟩:=hN σ7 H7 n7
      refine⟨m',hm,i+1,σ7,H7,I7.qE4,T.keep _ _ _ st5 fun b hb o e=>(I7.pin (b,o) (List.mem_append_right _ (List.mem_append_right _ (qDD hb e)))).1,fun b hb=>?_,w7⟩
      obtain⟨o,e,d⟩:=T.obj _ _ st5 b hb
      exact (I7.pin (b,o) (List.mem_append_right _ (List.mem_append_right _ (qDD hb e)))).2.1
    cases f with
    | next=>obtain⟨σ7,H7,I7,n7⟩:=q7;exact again I7 n7
    | cont=>obtain⟨σ7,H7,I7,n7⟩:=q7;exact again I7 n7
    | brk=>obtain⟨σ7,H7,I7,q7⟩:=q7;exact⟨σ7,H7,I7.qE4,q7⟩
    | ret v=>obtain⟨x7,σ7,H7,I7,r7,q7⟩:=q7;exact⟨x7,σ7,H7,I7.qE4,r7,q7⟩
end
end L2
namespace L2
open PySem PySem.Spec PyProof.Rows
noncomputable abbrev R2:=V→V→Hp→VK→Prop
def OpR (X:Cx) (f:Value→Value→Sem Value) (r:R2):Prop :=
  ∀ (pins:List (Addr×Obj)) (s:Shared) (σ:St) (H:Hp) (x y:V) (v u:Value) (Q:VK),Inv X pins σ H s→RelV x v→RelV y u→r x y H Q →
    wpAny (model X.prog X.w) X.A (f v u) (EP X pins σ Q) X.xe s
def UnR (X:Cx) (f:Value→Sem Value) (r:V→Hp→VK→Prop):Prop :=
  ∀ (pins:List (Addr×Obj)) (s:Shared) (σ:St) (H:Hp) (x:V) (v:Value) (Q:VK),Inv X pins σ H s→RelV x v→r x H Q →
    wpAny (model X.prog X.w) X.A (f v) (EP X pins σ Q) X.xe s
def qEA (X:Cx) (f:Value) (r:List V→Hp→VK→Prop):Prop :=
  ∀ (pins:List (Addr×Obj)) (s:Shared) (σ:St) (H:Hp) (xs:List V) (us:List Value) (Q:VK),Inv X pins σ H s→Vals xs us→r xs H Q →
    wpAny (model X.prog X.w) X.A (call f us) (EP X pins σ Q) X.xe s
def qVS (X:Cx) (r:V→Hp→(Bool→Hp→Prop)→Prop):Prop :=
  ∀ (pins:List (Addr×Obj)) (s:Shared) (σ:St) (H:Hp) (x:V) (v:Value) (Q:Bool→Hp→Prop),Inv X pins σ H s→RelV x v→r x H Q →
    wpAny (model X.prog X.w) X.A (truthy v) (TP X pins σ Q) X.xe s
noncomputable def tOp (r:R2) (ta tb:TE):TE:=fun σ H Q=>ta σ H fun x H1=>tb σ H1 fun y H2=>r x y H2 Q
noncomputable def tUn (r:V→Hp→VK→Prop) (ta:TE):TE:=fun σ H Q=>ta σ H fun x H1=>r x H1 Q
noncomputable def rI (C:Int→Int→Prop) (g:Int→Int→V):R2:=fun x y H Q=>∃ i j,x = .int i∧y = .int j∧C i j∧Q (g i j) H
noncomputable def rI0 (g:Int→Int→V):R2:=fun x y H Q=>∃ i j,x = .int i∧y = .int j∧Q (g i j) H
noncomputable def rU (g:Int→V):V→Hp→VK→Prop:=fun x H Q=>∃ i,x = .int i∧Q (g i) H
section
variable {X:Cx} {a b c:Expr} {ta tb tc:TE} {pos:Pos}
theorem qR0 (ha:PE X a ta) (hb:PE X b tb) {pins:List (Addr×Obj)} {s:Shared} {σ:St} {H:Hp} {R:V→V→Hp→Prop} (I:Inv X pins σ H s)
    (h:ta σ H fun x H1=>tb σ H1 fun y H2=>R x y H2) {Q:Value→Shared→Prop} {f:Value→Value→Sem Value}
    (hf:∀ v u s2 x y H2,Inv X pins σ H2 s2→RelV x v→RelV y u→R x y H2→wpAny (model X.prog X.w) X.A (f v u) Q X.xe s2) :
    wpAny (model X.prog X.w) X.A (eval a X.env) (fun v s₁=>wpAny (model X.prog X.w) X.A (eval b X.env) (fun u s₂=>wpAny (model X.prog X.w) X.A (f v u) Q X.xe s₂) X.xe s₁) X.xe s:=by
  refine thn (ha pins s σ H _ I h) fun v s1 hqz=>?_
  k_dat 0"r19"
  refine thn (hb pins s1 σ H1 _ I1 q1) fun u s2 hqz=>?_
  obtain⟨y,H2,I2,r2,q2⟩:=hqz
  exact hf v u s2 x y H2 I2 r1 r2 q2
theorem qVA {op:Operator} {r:R2} (ho:OpR X (binaryOp op) r) (ha:PE X a ta) (hb:PE X b tb):PE X (.BinOp a op b pos) (tOp r ta tb):=by
  k_dat 0"r2"
  exact wpAny_BinOp (qR0 ha hb I h fun v u s2 x y H2 I2 rx ry q=>ho pins s2 σ H2 x y v u Q I2 rx ry q)
theorem qUb {op:UnaryOp} {r:V→Hp→VK→Prop} (ho:UnR X (unaryOp op) r) (ha:PE X a ta):PE X (.UnaryOp op a pos) (tUn r ta):=by
  k_dat 0"r2"
  exact UnaryOp_ (thn (ha pins s σ H _ I h) fun v s1 ⟨x,H1,I1,r1,q1⟩=>ho pins s1 σ H1 x v Q I1 r1 q1)
theorem opI {f:Value→Value→Sem Value} {C:Int→Int→Prop} {g:Int→Int→Int}
    (rule:∀ (i j:Int) (t u:Tok) (s:Shared) (Q:Value→Shared→Prop) (E:Value→Shared→Prop),C i j→Q (.int (g i j) s.toks) { s with toks:=s.toks+1 }→wpAny (model X.prog X.w) X.A (f (.int i t) (.int j u)) Q E s) :
    OpR X f (rI C fun i j=>.int (g i j)):=by
  k_dat 0"r16"
  obtain⟨i,j,rfl,rfl,hc,q⟩:=h
  k_dat 0"r20"
  obtain⟨t',rfl⟩:=ry
  exact rule i j t t' s _ _ hc ⟨.int (g i j),H,I.tok _,⟨_,rfl⟩,q⟩
theorem qSn {f:Value→Value→Sem Value} {g:Int→Int→Int}
    (rule:∀ (i j:Int) (t u:Tok) (s:Shared) (Q:Value→Shared→Prop) (E:Value→Shared→Prop),Q (.int (g i j) s.toks) { s with toks:=s.toks+1 }→wpAny (model X.prog X.w) X.A (f (.int i t) (.int j u)) Q E s) :
    OpR X f (rI0 fun i j=>.int (g i j)):=by
  k_dat 0"r16"
  obtain⟨i,j,rfl,rfl,q⟩:=h
  k_dat 0"r20"
  obtain⟨t',rfl⟩:=ry
  exact rule i j t t' s _ _ ⟨.int (g i j),H,I.tok _,⟨_,rfl⟩,q⟩
theorem qPe {f:Value→Value→Sem Value} {g:Int→Int→Bool}
    (rule:∀ (i j:Int) (t u:Tok) (s:Shared) (Q:Value→Shared→Prop) (E:Value→Shared→Prop),Q (.bool (g i j)) s→wpAny (model X.prog X.w) X.A (f (.int i t) (.int j u)) Q E s) :
    OpR X f (rI0 fun i j=>.bl (g i j)):=by
  k_dat 0"r16"
  obtain⟨i,j,rfl,rfl,q⟩:=h
  k_dat 0"r20"
  obtain⟨t',rfl⟩:=ry
  exact rule i j t t' s _ _ ⟨.bl (g i j),H,I,rfl,q⟩
def qQs (i j:Int):Prop:=0<j∧j<1073741824
def qMS (i j:Int):Prop:=(-(2 ^ 64)<i∧i<2 ^ 64)∨(-(2 ^ 64)<j∧j<2 ^ 64)
theorem qMS.ok {i j:Int} (h:qMS i j):IntMulOk i j:=by
  rcases h with ⟨h1,h2⟩ | ⟨h1,h2⟩
  · exact .of_left (intBits_le_64 h1 h2)
  · exact .of_right (intBits_le_64 h1 h2)
theorem qSx:OpR X (binaryOp .Add) (rI0 fun i j=>.int (i+j)):=qSn fun _ _ _ _ _ _ _ q=>add_int q
theorem qRo:OpR X (binaryOp .Sub) (rI0 fun i j=>.int (i - j)):=qSn fun _ _ _ _ _ _ _ q=>sub_int q
theorem qTO:OpR X (binaryOp .Mult) (rI qMS fun i j=>.int (i * j)):=opI fun _ _ _ _ _ _ _ hc q=>mul_int q hc.ok
theorem qQ7:OpR X (binaryOp .FloorDiv) (rI qQs fun i j=>.int (i / j)):=opI fun i j _ _ _ _ _ hc q=>by
  have h1:(0:Int)<j:=hc.1
  have h2:j<1073741824:=hc.2
  exact floordiv_int (by lia) (by rw [Int.fdiv_eq_ediv_of_nonneg i (by lia)];exact q) (.inl (PyProof.noPylong_small (by lia)))
theorem qSF:OpR X (binaryOp .Mod) (rI (fun _ j=>0<j) fun i j=>.int (i%j)):=opI fun i j _ _ _ _ _ hc q=>by
  have h1:(0:Int)<j:=hc
  exact mod_int' (by lia) (by rw [Int.fmod_eq_emod_of_nonneg i (by lia)];exact q)
theorem qSj:OpR X (binaryOp .BitAnd) (rI0 fun i j=>.int (Builtin.bitAnd i j)):=qSn fun _ _ _ _ _ _ _ q=>and_int q
theorem unI {f:Value→Sem Value} {g:Int→Int}
    (rule:∀ (i:Int) (t:Tok) (s:Shared) (Q:Value→Shared→Prop) (E:Value→Shared→Prop),Q (.int (g i) s.toks) { s with toks:=s.toks+1 }→wpAny (model X.prog X.w) X.A (f (.int i t)) Q E s) :
    UnR X f (rU fun i=>.int (g i)):=by
  intro pins s σ H x v Q I rx h
  obtain⟨i,rfl,q⟩:=h
  k_dat 0"r20"
  exact rule i t s _ _ ⟨.int (g i),H,I.tok _,⟨_,rfl⟩,q⟩
theorem qTI:UnR X (unaryOp .USub) (rU fun i=>.int (-i)):=unI fun _ _ _ _ _ q=>neg_int q
end
section
variable {X:Cx} {a b c:Expr} {ta tb tc:TE} {pos:Pos}
theorem qLV {pins:List (Addr×Obj)} {σ:St} {H:Hp} {s:Shared} {Q:VK} {k k':Bool} (I:Inv X pins σ H s) (q:Q (.bl k) H) (e:k=k'):EP X pins σ Q (.bool k') s:=by
  subst e
  exact⟨.bl k,H,I,rfl,q⟩
theorem qNf:OpR X (compareOp .Lt) (rI0 fun i j=>.bl (decide (i<j))):=qPe fun _ _ _ _ _ _ _ q=>lt_int q
theorem qOO:OpR X (compareOp .LtE) (rI0 fun i j=>.bl (decide (i≤j))):=qPe fun _ _ _ _ _ _ _ q=>le_int q
theorem qUo:OpR X (compareOp .Gt) (rI0 fun i j=>.bl (decide (j<i))):=qPe fun _ _ _ _ _ _ _ q=>gt_int q
theorem qUt:OpR X (compareOp .GtE) (rI0 fun i j=>.bl (decide (j≤i))):=qPe fun _ _ _ _ _ _ _ q=>ge_int q
theorem qMZ:OpR X (compareOp .In) (fun x y H Q=>∃ i j,x = .str i∧y = .str j∧Q (.bl (!(Builtin.Str.occurrences j i 0 j.length 1).isEmpty)) H):=by
  k_dat 0"r16"
  obtain⟨i,j,rfl,rfl,q⟩:=h
  k_dat 0"r20"
  obtain⟨t',rfl⟩:=ry
  exact in_str (qLV I q rfl)
theorem qOZ:OpR X (compareOp .Is) (fun x y H Q=>y = .non∧Q (.bl (decide (x = .non))) H):=by
  k_dat 0"r16"
  obtain⟨rfl,q⟩:=h
  cases ry
  refine is_none_gen (qLV I q ?_)
  cases x<;>first
    | (cases rx;rfl)
    | (obtain⟨t,rfl⟩:=rx;rfl)
theorem qL7:OpR X (compareOp .IsNot) (fun x y H Q=>y = .non∧Q (.bl (!decide (x = .non))) H):=by
  k_dat 0"r16"
  obtain⟨rfl,q⟩:=h
  cases ry
  refine isnot_none_gen (qLV I q ?_)
  cases x<;>first
    | (cases rx;rfl)
    | (obtain⟨t,rfl⟩:=rx;rfl)
theorem qK2 (b:Expr) {op:CmpOp} (h:op≠.In:=by decide) (h2:op≠.NotIn:=by decide):behindInMarks op b=false:=by
  have e1:(op==CmpOp.In)=false:=by cases op<;>first | rfl | exact absurd rfl h
  have e2:(op==CmpOp.NotIn)=false:=by cases op<;>first | rfl | exact absurd rfl h2
  cases b<;>simp [behindInMarks,e1,e2]
theorem qQJ {op:CmpOp} {r:R2} (ho:OpR X (compareOp op) r) (ha:PE X a ta) (hb:PE X b tb) (hm:behindInMarks op b=false):PE X (.Compare a [op] [b] pos) (tOp r ta tb):=by
  k_dat 0"r2"
  exact wpAny_Compare1 (qR0 ha hb I h fun v u s2 x y H2 I2 rx ry q=>ho pins s2 σ H2 x y v u Q I2 rx ry q) hm
noncomputable def qRX (t:TE):TT:=fun σ H Q=>t σ H fun x H'=>∃ k,x = .bl k∧Q k H'
theorem qQB {op:CmpOp} {r:R2} (ho:OpR X (compareOp op) r) (ha:PE X a ta) (hb:PE X b tb) (hm:behindInMarks op b=false):PT X (.Compare a [op] [b] pos) (qRX (tOp r ta tb)):=by
  k_dat 0"r2"
  refine wpAny_isTrue_Compare1 (thn (ha pins s σ H _ I h) fun v s1 ⟨x,H1,I1,r1,q1⟩=>thn (hb pins s1 σ H1 _ I1 q1) fun u s2 ⟨y,H2,I2,r2,q2⟩ =>
    thn (ho pins s2 σ H2 x y v u _ I2 r1 r2 q2) fun c s3 ⟨z,H3,I3,r3,k,e,q3⟩=>?_) hm
  subst e
  cases r3
  exact wpAny_truthy_bool ⟨H3,I3,q3⟩
noncomputable def qLF (r r':R2) (ta tb tc:TE):TE:=fun σ H Q=>ta σ H fun x H1=>tb σ H1 fun y H2=>r x y H2 fun z H3=>∃ k,z = .bl k ∧
  (if k=true then tc σ H3 fun w' H4=>r' y w' H4 Q else Q (.bl false) H3)
theorem qNu {op op':CmpOp} {r r':R2} (ho:OpR X (compareOp op) r) (ho':OpR X (compareOp op') r') (ha:PE X a ta) (hb:PE X b tb) (hc:PE X c tc)
    (hm:lastMarks [op,op'] [b,c]=false:=by with_unfolding_all rfl):PE X (.Compare a [op,op'] [b,c] pos) (qLF r r' ta tb tc):=by
  k_dat 0"r2"
  refine Compare_chain (thn (ha pins s σ H _ I h) fun v s1 ⟨x,H1,I1,r1,q1⟩=>chain_link (thn (hb pins s1 σ H1 _ I1 q1) fun u s2 ⟨y,H2,I2,r2,q2⟩ =>
    thn (ho pins s2 σ H2 x y v u _ I2 r1 r2 q2) fun d s3 ⟨z,H3,I3,r3,k,e,q3⟩=>?_)) hm
  subst e
  cases r3
  refine wpAny_truthy_bool ?_
  cases k with
  | false=>exact ite_ff ⟨.bl false,H3,I3,rfl,q3⟩
  | true=>exact ite_tt (chain_last (thn (hc pins s3 σ H3 _ I3 q3) fun w' s4 ⟨z',H4,I4,r4,q4⟩=>ho' pins s4 σ H4 y z' u w' Q I4 r2 r4 q4))
theorem qOM {op op':CmpOp} {r r':R2} (ho:OpR X (compareOp op) r) (ho':OpR X (compareOp op') r') (ha:PE X a ta) (hb:PE X b tb) (hc:PE X c tc)
    (hm:lastMarks [op,op'] [b,c]=false:=by with_unfolding_all rfl):PT X (.Compare a [op,op'] [b,c] pos) (qRX (qLF r r' ta tb tc)):=by
  k_dat 0"r2"
  refine isTrue_chain (thn (ha pins s σ H _ I h) fun v s1 ⟨x,H1,I1,r1,q1⟩=>test_link (thn (hb pins s1 σ H1 _ I1 q1) fun u s2 ⟨y,H2,I2,r2,q2⟩ =>
    thn (ho pins s2 σ H2 x y v u _ I2 r1 r2 q2) fun d s3 ⟨z,H3,I3,r3,k,e,q3⟩=>?_)) hm
  subst e
  cases r3
  refine wpAny_truthy_bool ?_
  cases k with
  | false =>
    obtain⟨k',e',q'⟩:=q3
    cases e'
    exact ite_ff ⟨H3,I3,q'⟩
  | true =>
    refine ite_tt (test_last (thn (hc pins s3 σ H3 _ I3 q3) fun w' s4 ⟨z',H4,I4,r4,q4⟩=>thn (ho' pins s4 σ H4 y z' u w' _ I4 r2 r4 q4) fun d' s5 hqz=>?_))
    obtain⟨z2,H5,I5,r5,k2,e2,q5⟩:=hqz
    subst e2
    cases r5
    exact wpAny_truthy_bool ⟨H5,I5,q5⟩
def qUV (K:W.Frag) (x:V) (H:Hp) (k:Bool):Prop :=
  match x with
  | .non=>k=false
  | .bl b=>k=b
  | .int i=>k=(i != 0)
  | .str y=>y.length≤sizeLine∧k=((y.length:Int) != 0)
  | .byt y=>y.size≤sizeLine∧k=((y.size:Int) != 0)
  | .ref p=>(∃ xs,SqL K H p xs∧k = !xs.isEmpty)∨(∃ xs,SqT K H p xs∧k = !xs.isEmpty)∨∃ kvs,H p=some (.dK kvs)∧k = !kvs.isEmpty
  | _=>False
theorem qLZ {κ:Type} {kvs:List (κ×V)} {vs:List (κ×Value)} (r:KV kvs vs):(!vs.isEmpty) = !kvs.isEmpty:=by
  cases r<;>rfl
theorem qG7 {xs:List V} {its:List Value} (r:Vals xs its):(!its.toArray.isEmpty) = !xs.isEmpty:=by
  cases r<;>simp
theorem qER:(sizeLine:Nat)<2 ^ 63:=by rw [sizeLine_eq];decide
theorem qS3:qVS X (fun x H Q=>∃ k,qUV X.K x H k∧Q k H):=by
  intro pins s σ H x v Q I rx h
  obtain⟨k,e,q⟩:=h
  have hl:=qER
  have hs:sizeLine=16777216:=sizeLine_eq
  cases x with
  | non =>
    cases rx
    have e':k=false:=e
    subst e'
    exact truthy_none ⟨H,I,q⟩
  | bl b =>
    cases rx
    have e':k=b:=e
    subst e'
    exact wpAny_truthy_bool ⟨H,I,q⟩
  | int i =>
    k_dat 0"r20"
    have e':k=(i != 0):=e
    subst e'
    exact PySem.P.truthy_int ⟨H,I,q⟩
  | str y =>
    k_dat 0"r20"
    obtain⟨hy,e'⟩:y.length≤sizeLine∧k=((y.length:Int) != 0):=e
    subst e'
    exact PySem.P.truthy_str (by lia) ⟨H,I.tok _,q⟩
  | byt y =>
    k_dat 0"r20"
    obtain⟨hy,e'⟩:y.size≤sizeLine∧k=((y.size:Int) != 0):=e
    subst e'
    exact W.truthy_bytes (by lia) ⟨H,I.tok _,q⟩
  | ref p =>
    cases rx
    have e':(∃ xs,SqL X.K H p xs∧k = !xs.isEmpty)∨(∃ xs,SqT X.K H p xs∧k = !xs.isEmpty)∨∃ kvs,H p=some (.dK kvs)∧k = !kvs.isEmpty:=e
    rcases e' with ⟨xs,hx,e'⟩ | ⟨xs,hx,e'⟩ | ⟨kvs,hx,e'⟩
    · subst e'
      obtain⟨its,r,pl,hz⟩:=I.list hx
      have hlen:=r.length
      exact wpAny_truthy_list pl.isList (by simp only [List.size_toArray];lia) ⟨H,I.tok _,by rw [qG7 r];exact q⟩
    · subst e'
      obtain⟨its,r,pl,hz⟩:=I.tuple hx
      have hlen:=r.length
      exact truthy_tuple pl (by simp only [List.size_toArray];lia) ⟨H,I.tok _,by rw [qG7 r];exact q⟩
    · subst e'
      obtain⟨hz,hS,vs,r,m⟩:kvs.length≤sizeLine∧(p==sysModules)=false∧∃ vs,KV kvs vs∧s.heap.DictOf (qAg X.prog X.w) p vs:=I.hok p _ hx
      have hlen:kvs.length=vs.length:=Paired.length r
      exact wpAny_truthy_dict hS m (by lia) ⟨H,I.tok _,by rw [qLZ r];exact q⟩
  | _=>exact (show False from e).elim
theorem qPS (ha:PE X a ta) (he:∀ whole,isTrue a X.env whole=(do let v ← whole;standAt a.pos;holding [v] (truthy v))) :
    PT X a (fun σ H Q=>ta σ H fun x H'=>∃ k,qUV X.K x H' k∧Q k H'):=by
  k_dat 0"r2"
  exact isTrue_plain (thn (ha pins s σ H _ I h) fun v s1 ⟨x,H1,I1,r1,q1⟩=>qS3 pins s1 σ H1 x v Q I1 r1 q1) (he _)
theorem qKv:OpR X (binaryOp .Add) (fun x y H Q=>∃ i j,x = .str i∧y = .str j∧i.length+j.length≤sizeLine∧Q (.str (i++j)) H):=by
  k_dat 0"r16"
  obtain⟨i,j,rfl,rfl,hz,q⟩:=h
  k_dat 0"r20"
  obtain⟨t',rfl⟩:=ry
  exact add_str (fun t' tk=>⟨.str (i++j),H,I.tok _,⟨_,rfl⟩,q⟩) hz
theorem vals1 {x:V} {us:List Value} (r:Vals [x] us):∃ u,us=[u]∧RelV x u:=by
  cases r with
  | cons r1 r2=>cases r2;exact⟨_,rfl,r1⟩
theorem vals2 {x y:V} {us:List Value} (r:Vals [x,y] us):∃ u w',us=[u,w']∧RelV x u∧RelV y w':=by
  cases r with
  | cons r1 r2 =>
    cases r2 with
    | cons r3 r4=>cases r4;exact⟨_,_,rfl,r1,r3⟩
theorem qNJ (hc:X.calm=true):qEA X (.builtin "max") (fun xs H Q=>∃ i j,xs=[.int i,.int j]∧Q (.int (if j > i then j else i)) H):=by
  k_dat 0"r24"
  obtain⟨i,j,rfl,q⟩:=h
  obtain⟨u,w',rfl,⟨t,rfl⟩,⟨t',rfl⟩⟩:=vals2 r
  refine max_two_ints (I.ok.hd hc) fun h' tk k=>⟨_,H,I.kept k,?_,q⟩
  by_cases hj:j > i
  · rw [if_pos hj,if_pos hj];exact⟨_,rfl⟩
  · rw [if_neg hj,if_neg hj];exact⟨_,rfl⟩
theorem qMz (hc:X.calm=true):qEA X (.builtin "min") (fun xs H Q=>∃ i j,xs=[.int i,.int j]∧Q (.int (if j<i then j else i)) H):=by
  k_dat 0"r24"
  obtain⟨i,j,rfl,q⟩:=h
  obtain⟨u,w',rfl,⟨t,rfl⟩,⟨t',rfl⟩⟩:=vals2 r
  refine min_two_ints (I.ok.hd hc) fun h' tk k=>⟨_,H,I.kept k,?_,q⟩
  by_cases hj:j<i
  · rw [if_pos hj,if_pos hj];exact⟨_,rfl⟩
  · rw [if_neg hj,if_neg hj];exact⟨_,rfl⟩
theorem qIS:qEA X (.type "int") (fun xs H Q=>(∃ i,xs=[.int i]∧Q (.int i) H)∨∃ k,xs=[.bl k]∧Q (.int (if k then 1 else 0)) H):=by
  k_dat 0"r24"
  rcases h with ⟨i,rfl,q⟩ | ⟨k,rfl,q⟩
  · obtain⟨u,rfl,t,rfl⟩:=vals1 r
    exact call_int_int ⟨.int i,H,I,⟨_,rfl⟩,q⟩
  · obtain⟨u,rfl,r1⟩:=vals1 r
    cases r1
    exact call_int_bool ⟨.int (if k then 1 else 0),H,I.tok _,⟨_,rfl⟩,q⟩
end
end L2
namespace L2
open PySem PySem.Spec PyProof.Rows
structure qKl (h:Heap) (x dx C:Addr) (mA:Str→Option Value):Prop where
  obj:h.get? x=some (W.instObj C dx)
  ns:h.Ns1 dx mA
  ne:dx≠x
theorem qMn {h:Heap} {dx:Addr} {mA:Str→Option Value} (n:h.Ns1 dx mA):∃ od,h.get? dx=some od∧∀ name,W.lookIn name od=some (mA name):=by
  obtain⟨o,es,ep,ho,hd,hk,_,hm⟩:=n
  refine⟨o,ho,fun name=>?_⟩
  have e:=hm name
  unfold nsFind findBy at e
  rw [← Array.find?_toList] at e
  unfold W.lookIn
  rw [hd]
  dsimp only
  split
  · rename_i y q
    rw [q] at e
    exact congrArg some e
  · rename_i q
    rw [q] at e
    have a:es.toList.any (·.refKey)=false:=by
      rw [List.any_eq_false]
      intro y hy
      obtain⟨z,t,hkey⟩:=hk y (Array.mem_toList_iff.mp hy)
      simp [DictEntry.refKey,hkey]
    have a':¬ es.toList.any (·.refKey)=true:=by rw [a];exact Bool.false_ne_true
    rw [if_neg a']
    exact congrArg some e
theorem qKl.look {h:Heap} {x dx C:Addr} {mA:Str→Option Value} (I:qKl h x dx C mA):∃ od,W.InstAt h x (W.instObj C dx) C (some od)∧∀ name,W.lookIn name od=some (mA name) :=
  let ⟨od,ho,hl⟩:=qMn I.ns
  ⟨od,⟨I.obj,rfl,rfl,ho⟩,hl⟩
section
variable {prog:Program} {w:World} {A:Around} {E:Value→Shared→Prop} {s:Shared} {K:W.Frag} {x dx C f:Addr} {mA:Str→Option Value} {name:Str} {v:Value}
theorem get_map {expr:Bool} {Q:Value→Shared→Prop} (X:K.In s.heap) (I:qKl s.heap x dx C mA) (hg:W.plainGet K C name=true) (hh:W.hasDictIn K C=true)
    (ha:W.findIn K (.ref C) name=some none) (hv:mA name=some v) (hv':W.handedIn v=true) (h:Q v { s with toks:=s.toks+1 }) :
    wpAny (model prog w) A (getAttr (.ref x) name expr) Q E s:=by
  obtain⟨od,J,hl⟩:=I.look
  exact W.get_value X J (W.plainGet_of hg).1 (W.findObj_own hh ha rfl (by rw [hl,hv])) hv' h
theorem qOd {pl:Sem Bool} {Q:Value×List Value→Shared→Prop} (X:K.In s.heap) (I:qKl s.heap x dx C mA) (hg:W.plainGet K C name=true)
    (hf:W.findIn K (.ref C) name=some (some (.ref f))) (ht:W.isFn K (.ref f)=true) (hv:mA name=none) (h:Q (.ref f,[.ref x]) s) :
    wpAny (model prog w) A (getMethod (.ref x) name pl) Q E s:=by
  obtain⟨od,J,hl⟩:=I.look
  exact W.method_fn X J (W.plainGet_of hg).1 (W.plainGet_of hg).2 hf (beq_iff_eq.mp ht) (by show (W.lookIn name od).map (·.isSome)=some false;rw [hl,hv];rfl) h
theorem qPx {ns:List Str} {Q:Unit→Shared→Prop} (X:K.In s.heap) (I:qKl s.heap x dx C mA)
    (hs:W.findIn K (.ref C) "__setattr__" = some (some (.builtin "object.__setattr__"))) (hp:W.plainOver K C=true) (ht:W.takerIn K C name=some none) (hh:W.hasDictIn K C=true)
    (hw:PySem.Within mA ns) (hsz:ns.length≤sizeLine)
    (h:∀ h',qKl h' x dx C (fun y=>if y=name then some v else mA y)→Heap.SameBut dx s.heap h'→Q () { s with heap:=h',toks:=s.toks+2 }) :
    wpAny (model prog w) A (setAttr (.ref x) name v) Q E s:=by
  obtain⟨od,J,hl⟩:=I.look
  refine W.set_plain X J hs (W.osa_open (s:={ s with toks:=s.toks+1 }) (r:=none) X J hp ht fun b=>?_)
  obtain⟨cd,hc,hd'⟩:=W.any_some hh
  have hx:s.heap.get? x=some ⟨.ref C,some dx,.plain,#[]⟩:=I.obj
  refine wpAny_bind (wpAny_pure (wpAny_bind (wpAny_bind (wpAny_loadPart hx (wpAny_bind (W.Looks.here (s:={ s with toks:=s.toks+1 }) (W.looks_clsIn X hc) ?_))))))
  rw [hd']
  refine wpAny_pure (a:=some dx) (wpAny_bind (wpAny_pure (wpAny_bind ?_)))
  refine wpAny_nsSet1 (s:={ s with toks:=s.toks+1 }) I.ns fun h' hn2 hs2=>?_
  obtain⟨oD,esD,epD,hoD,hdD,hcD⟩:=hn2.count (PySem.Within.cons name v hw)
  refine wpAny_bind (wpAny_lookBehind hoD (by rw [hdD];exact pastItsLine_dict (Nat.le_trans hcD (by rw [List.length_cons];lia))) ?_)
  exact wpAny_pure (h _ ⟨(hs2.2 _ (Ne.symm I.ne)).trans I.obj,hn2,I.ne⟩ hs2)
theorem qOK {R:Result→Shared→Prop} {vs:List Value} {kw:List (Str×Value)} (X:K.In s.heap) (hm:W.makesIn K C=true)
    (hi:W.findIn K (.ref C) "__init__" = some (some (.ref f))) (hf:W.typeIn K (.ref f)=some (.type "function"))
    (h:codeAny (model prog w) (A.under (.builtin "type.__call__" ⟨.ref C::vs,kw⟩)) (.call (.ref f) ⟨.ref (s.heap.objs.size+1)::vs,kw⟩) (W.InitBack (s.heap.objs.size+1) R)
      { s with heap:=(s.heap.push W.emptyDict).push (W.instObj C s.heap.objs.size) }) :
    codeAny (model prog w) A (.call (.ref C) ⟨vs,kw⟩) R s:=by
  obtain⟨hh,g,d,t,os⟩:=s
  exact W.make_core (W.makes_of X hm) (W.looks_findIn X hi) (fun self=>W.bind_fn X self hf) (.inl rfl) h
end
noncomputable def qDA (f:Str) (v:V):List (Str×V)→List (Str×V)
  | []=>[(f,v)]
  | (g,x)::r=>if g=f then (g,v)::r else (g,x)::qDA f v r
theorem qFk (f g:Str) (v:V):∀ fs:List (Str×V),(qDA f v fs).lookup g=if g=f then some v else fs.lookup g
  | []=>by
    show List.lookup g [(f,v)]=_
    by_cases h:g=f
    · have hb:(g==f)=true:=beq_iff_eq.mpr h
      simp only [List.lookup,hb,if_pos h]
    · have hb:(g==f)=false:=beq_eq_false_iff_ne.mpr h
      simp only [List.lookup,hb,if_neg h]
  | (k, x)::r=>by
    have ih:=qFk f g v r
    k_dat 0"r44"
    by_cases hk:k=f
    · rw [if_pos hk]
      by_cases h:g=k
      · have hb:(g==k)=true:=beq_iff_eq.mpr h
        simp only [List.lookup,hb,if_pos (h.trans hk)]
      · have hb:(g==k)=false:=beq_eq_false_iff_ne.mpr h
        simp only [List.lookup,hb,if_neg (fun e:g=f=>h (e.trans hk.symm))]
    · rw [if_neg hk]
      by_cases h:g=k
      · have hb:(g==k)=true:=beq_iff_eq.mpr h
        simp only [List.lookup,hb,if_neg (fun e:g=f=>hk (h.symm.trans e))]
      · have hb:(g==k)=false:=beq_eq_false_iff_ne.mpr h
        simp only [List.lookup,hb]
        exact ih
theorem qFb (f:Str) (v:V):∀ fs:List (Str×V),f∈(qDA f v fs).map (·.1)∧∀ g,g∈fs.map (·.1)→g∈(qDA f v fs).map (·.1)
  | []=>⟨by simp [qDA],fun g h=>by simp at h⟩
  | (k, x)::r=>by
    obtain⟨i1,i2⟩:=qFb f v r
    k_dat 0"r44"
    by_cases hk:k=f
    · rw [if_pos hk]
      subst hk
      exact⟨by simp,fun g h=>by simpa using h⟩
    · rw [if_neg hk]
      refine⟨?_,fun g h=>?_⟩
      · rw [List.map_cons]
        exact List.mem_cons_of_mem _ i1
      · rw [List.map_cons] at h ⊢
        rcases List.mem_cons.mp h with e | e
        · exact List.mem_cons.mpr (.inl e)
        · exact List.mem_cons_of_mem _ (i2 g e)
theorem qFo (f:Str) (v:V):∀ fs:List (Str×V),(qDA f v fs).length≤fs.length+1
  | []=>by simp [qDA]
  | (k,x)::r=>by
    have ih:=qFo f v r
    k_dat 0"r44"
    by_cases hk:k=f
    · rw [if_pos hk,List.length_cons,List.length_cons];lia
    · rw [if_neg hk,List.length_cons,List.length_cons];lia
theorem qDS.some_of {v:V} {o:Option Value} (r:qDS (some v) o):∃ u,o=some u∧RelV v u:=by
  cases o with
  | none=>exact (show False from r).elim
  | some u=>exact⟨u,rfl,r⟩
theorem qDS.none_of {o:Option Value} (r:qDS none o):o=none:=by
  cases o with
  | none=>rfl
  | some u=>exact (show False from r).elim
theorem qMb {v:V} {u:Value} (r:RelV v u):W.handedIn u=true:=by
  cases v with
  | non=>cases (show u=Value.none from r);rfl
  | bl b=>cases (show u=Value.bool b from r);rfl
  | int i=>obtain⟨t,e⟩:=(show ∃ t,u=Value.int i t from r);cases e;rfl
  | str x=>obtain⟨t,e⟩:=(show ∃ t,u=Value.str x t from r);cases e;rfl
  | byt b=>obtain⟨t,e⟩:=(show ∃ t,u=Value.bytes b t from r);cases e;rfl
  | flt b=>obtain⟨t,e⟩:=(show ∃ t,u=Value.float b t from r);cases e;rfl
  | ref a=>cases (show u=Value.ref a from r);rfl
  | ty n=>cases (show u=Value.type n from r);rfl
section
variable {K:W.Frag} {P:Program} {w:World} {H H':Hp} {h h':Heap} {a C dx:Addr} {fs fs':List (Str×V)}
theorem qJE (hok:HOk K P w H h) (e:H a=some (.ins C dx fs)):∃ mA,qKl h a dx C mA∧(∀ f,qDS (fs.lookup f) (mA f))∧PySem.Within mA (fs.map (·.1))∧fs.length≤1000∧H dx=some (.own a):=by
  obtain⟨d,z,ne,ob,mA,n,r,q⟩:=(show qBH K P w H h a (.ins C dx fs) from hok a _ e)
  exact⟨mA,⟨ob,n,ne⟩,r,q,z,d⟩
end
structure Cls (K:W.Frag) (C:Addr):Prop where
  pg:W.plainGet K C Str.empty=true
  hd:W.hasDictIn K C=true
  po:W.plainOver K C=true
  sa:W.findIn K (.ref C) "__setattr__" = some (some (.builtin "object.__setattr__"))
theorem Cls.get {K:W.Frag} {C:Addr} (c:Cls K C) (f:Str):W.plainGet K C f=true:=c.pg
def qDV (K:W.Frag) (C:Addr) (f:Str):Prop:=W.findIn K (.ref C) f=some none
theorem qDV.qVG {K:W.Frag} {C:Addr} {f:Str} (n:qDV K C f):W.takerIn K C f=some none:=by
  unfold W.takerIn
  rw [show W.findIn K (.ref C) f=some none from n]
  rfl
structure Meth (K:W.Frag) (C:Addr) (m:Str) (f:Addr):Prop where
  at_:W.findIn K (.ref C) m=some (some (.ref f))
  fn:W.isFn K (.ref f)=true
  kp:W.keepIn K (.ref f)=true
section
variable {X:Cx} {pins:List (Addr×Obj)} {σ:St} {H:Hp} {s:Shared} {a C dx:Addr} {fs:List (Str×V)} {f:Str} {v:V} {A:Around} {E:Value→Shared→Prop}
theorem qGS {b:Bool} {Q:Value→Shared→Prop} (I:Inv X pins σ H s) (e:H a=some (.ins C dx fs)) (c:Cls X.K C) (n:qDV X.K C f) (l:fs.lookup f=some v)
    (h:∀ u s',Inv X pins σ H s'→RelV v u→Q u s'):wpAny (model X.prog X.w) A (getAttr (.ref a) f b) Q E s:=by
  obtain⟨mA,O,r,_,_,_⟩:=qJE I.hok e
  obtain⟨u,hu,ru⟩:=qDS.some_of (v:=v) (o:=mA f) (by rw [← l];exact r f)
  exact get_map I.kIn O (c.get f) c.hd n hu (qMb ru) (h u _ (I.tok _) ru)
theorem qGo {m:Str} {g:Addr} {pl:Sem Bool} {Q:Value×List Value→Shared→Prop} (I:Inv X pins σ H s) (e:H a=some (.ins C dx fs)) (c:Cls X.K C) (k:Meth X.K C m g) (l:fs.lookup m=none)
    (h:Q (.ref g,[.ref a]) s):wpAny (model X.prog X.w) A (getMethod (.ref a) m pl) Q E s:=by
  obtain⟨mA,O,r,_,_,_⟩:=qJE I.hok e
  have hn:mA m=none:=qDS.none_of (by rw [← l];exact r m)
  exact qOd I.kIn O (c.get m) k.at_ k.fn hn h
theorem qHK {y:V} {u:Value} {Q:Unit→Shared→Prop} (I:Inv X pins σ H s) (e:H a=some (.ins C dx fs)) (c:Cls X.K C) (n:qDV X.K C f) (hl:fs.length<1000) (ry:RelV y u)
    (h:∀ s',Inv X pins σ (upd H a (.ins C dx (qDA f y fs))) s'→Q () s'):wpAny (model X.prog X.w) A (setAttr (.ref a) f u) Q E s:=by
  obtain⟨mA,O,r,wi,_,ho⟩:=qJE I.hok e
  have hz:(fs.map (·.1)).length≤sizeLine:=by rw [List.length_map,sizeLine_eq];lia
  refine qPx I.kIn O c.sa c.po n.qVG c.hd wi hz fun h' O' sb=>h _ ?_
  have hd:∃ o,h'.get? dx=some o:=let ⟨o,_,_,e',_⟩:=O'.ns;⟨o,e'⟩
  refine I.write (x:=a) (e:=dx) (by rw [e];exact True.intro) (.inr ho) (fun b q hb z=>(sb.2 b hb).trans z) hd ?_
  refine⟨by rw [qg O.ne];exact ho,?_,O.ne,O'.obj,_,O'.ns,fun g=>?_,fun g hg=>?_⟩
  · have:=qFo f y fs;lia
  · show qDS ((qDA f y fs).lookup g) (if g=f then some u else mA g)
    rw [qFk]
    by_cases q:g=f
    · rw [if_pos q,if_pos q];exact ry
    · rw [if_neg q,if_neg q];exact r g
  · by_cases q:g=f
    · rw [q];exact (qFb f y fs).1
    · refine (qFb f y fs).2 g (wi g fun z=>hg ?_)
      show (if g=f then some u else mA g)=none
      rw [if_neg q];exact z
theorem Inv.made (I:Inv X pins σ H s):Inv X pins σ (upd (upd H s.heap.objs.size (.own (s.heap.objs.size+1))) (s.heap.objs.size+1) (.ins C s.heap.objs.size []))
    { s with heap:=(s.heap.push W.emptyDict).push (W.instObj C s.heap.objs.size) }:=by
  have e1:(s.heap.push W.emptyDict).get? s.heap.objs.size=some W.emptyDict:=Heap.get?_push_size s.heap rfl
  have e2:((s.heap.push W.emptyDict).push (W.instObj C s.heap.objs.size)).get? (s.heap.objs.size+1)=some (W.instObj C s.heap.objs.size):=by
    have:=Heap.get?_push_size (s.heap.push W.emptyDict) (o:=W.instObj C s.heap.objs.size) rfl
    rwa [Heap.size_push] at this
  have e3:(s.heap.push W.emptyDict).Ns s.heap.objs.size (fun _=>none):=⟨W.emptyDict,#[],_,e1,rfl,(fun e he=>absurd he (by simp)),fun _=>rfl⟩
  have I1:=I.laid (a:=s.heap.objs.size) (o:=.own (s.heap.objs.size+1)) (h':=s.heap.push W.emptyDict) (t':=s.toks) (fun b u q=>Heap.get?_push_of_some _ q) (Nat.le_refl _) ⟨_,e1⟩
  refine I1.laid (a:=s.heap.objs.size+1) (o:=.ins C s.heap.objs.size []) (t':=s.toks) (fun b u q=>Heap.get?_push_of_some _ q) (Nat.le_of_eq (Heap.size_push _ _)) ?_
  have ne:s.heap.objs.size≠s.heap.objs.size+1:=Nat.ne_of_lt (Nat.lt_succ_self _)
  refine⟨by rw [qg ne,qAH],Nat.zero_le _,ne,e2,fun _=>none,(Heap.Ns1.of_empty e3).at fun o q=>Heap.get?_push_of_some _ q,fun _=>True.intro,fun y hy=>absurd rfl hy⟩
theorem qQ1 {prog:Program} {w:World} {env:Env} {e:Expr} {f:Str} {pos:Pos} {s:Shared} {Q:Value→Shared→Prop} (hb:attributeBase e f env (eval e env)=eval e env)
    (h:wpAny (model prog w) A (eval e env) (fun o s₁=>wpAny (model prog w) A (getAttr o f true) Q E s₁) E s):wpAny (model prog w) A (eval (.Attribute e f pos) env) Q E s :=
  Attribute_any_ h (by rw [arm_eval_Attribute,hb])
end
noncomputable def qVa (K:W.Frag) (ta:TE) (f:Str):TE:=fun σ H Q=>ta σ H fun x H1=>∃ a C dx fs v,x = .ref a∧H1 a=some (.ins C dx fs)∧Cls K C∧qDV K C f∧fs.lookup f=some v∧Q v H1
noncomputable def qVk (K:W.Frag) (ta tv:TE) (f:Str):TS:=fun D σ H=>tv σ H fun y H1=>ta σ H1 fun x H2=>∃ a C dx fs,x = .ref a∧H2 a=some (.ins C dx fs)∧Cls K C∧qDV K C f∧fs.length<1000 ∧
  D.nx σ (upd H2 a (.ins C dx (qDA f y fs)))
def qTf (X:Cx) (op:Operator) (rd:V→V→Hp→VK→Prop):Prop :=
  ∀ (pins:List (Addr×Obj)) (s:Shared) (σ:St) (H:Hp) (x y:V) (u v:Value) (Q:VK),Inv X pins σ H s→RelV x u→RelV y v→rd x y H Q→wpAny (model X.prog X.w) X.A (inplaceOp op u v) (EP X pins σ Q) X.xe s
noncomputable def qQo (K:W.Frag) (ta tv:TE) (rd:V→V→Hp→VK→Prop) (f:Str):TS:=fun D σ H=>ta σ H fun x H1=>∃ a C dx fs v,x = .ref a∧H1 a=some (.ins C dx fs)∧Cls K C∧qDV K C f∧fs.lookup f=some v ∧
  tv σ H1 fun y H2=>rd v y H2 fun z H3=>∃ dx' fs',H3 a=some (.ins C dx' fs')∧fs'.length<1000∧D.nx σ (upd H3 a (.ins C dx' (qDA f z fs')))
section
variable {X:Cx} {o e value:Expr} {f:Str} {pos pos' tpos:Pos} {ta tv:TE}
theorem qSk (he:PE X e ta) (hb:attributeBase e f X.env (eval e X.env)=eval e X.env):PE X (.Attribute e f pos) (qVa X.K ta f):=by
  k_dat 0"r2"
  refine qQ1 hb (thn (he pins s σ H _ I h) fun u s1 hqz=>?_)
  obtain⟨x,H1,I1,rx,a,C,dx,fs,v,ex,ea,c,n,l,q⟩:=hqz
  subst ex
  k_dat 0"r27"
  exact qGS I1 ea c n l fun u' s2 I2 ru=>⟨v,H1,I2,ru,q⟩
theorem qTF (ha:PE X o ta) (hv:PE X value tv) (hs:swapsWith value (some (.Attribute o f pos')) pos.line X.env=pure false):PS X (.Assign [.Attribute o f pos'] value pos) (qVk X.K ta tv f):=by
  k_dat 0"r15"
  refine plainObj_wpAny_Assign_Attribute (thn (hv pins s σ H _ I h) fun u s1 ⟨y,H1,I1,ry,q⟩=>thn (ha pins s1 σ H1 _ I1 q) fun ov s2 hqz=>?_) hs
  obtain⟨x,H2,I2,rx,a,C,dx,fs,ex,ea,c,n,l,q2⟩:=hqz
  subst ex
  obtain rfl:ov=Value.ref a:=rx
  exact qHK I2 ea c n l ry fun s3 I3=>⟨σ,_,I3,q2⟩
theorem qNM {op:Operator} {rd:V→V→Hp→VK→Prop} (ha:PE X o ta) (hv:PE X value tv) (hop:qTf X op rd):PS X (.AugAssign (.Attribute o f tpos) op value pos) (qQo X.K ta tv rd f):=by
  k_dat 0"r15"
  refine wpAny_AugAssign_AttributeAny (thn (ha pins s σ H _ I h) fun ov s1 hqz=>?_)
  obtain⟨x,H1,I1,rx,a,C,dx,fs,v,ex,ea,c,n,l,q⟩:=hqz
  subst ex
  obtain rfl:ov=Value.ref a:=rx
  refine qGS I1 ea c n l fun u s2 I2 ru=>thn (hv pins s2 σ H1 _ I2 q) fun w3 s3 ⟨y,H2,I3,ry,q3⟩=>thn (hop pins s3 σ H2 v y u w3 _ I3 ru ry q3) fun w4 s4 hqz=>?_
  obtain⟨z,H3,I4,rz,dx',fs',ea',l',q4⟩:=hqz
  exact qHK I4 ea' c n l' rz fun s5 I5=>⟨σ,_,I5,q4⟩
noncomputable def qAT:V→V→Hp→VK→Prop:=fun x y H Q=>∃ i j,x = .int i∧y = .int j∧Q (.int (i+j)) H
theorem qO1:qTf X .Add qAT:=by
  rintro pins s σ H x y u v Q I rx ry ⟨i,j,rfl,rfl,q⟩
  obtain⟨t,rfl⟩:=(show ∃ t,u=Value.int i t from rx)
  obtain⟨t',rfl⟩:=(show ∃ t',v=Value.int j t' from ry)
  exact PyProof.Rows.iadd_int ⟨.int (i+j),H,I.tok _,⟨_,rfl⟩,q⟩
end
end L2
namespace L2
open PySem PySem.Spec PyProof.Rows
structure qAx (k:Nat) (A:Around):Prop where
  hd:A.handled=none
  dp:A.depth+3 * k+5<recursionLimit
  un:A.units+16 * k+200<cLine
theorem qAx.mono {j k:Nat} {A:Around} (r:qAx k A) (h:j≤k):qAx j A:=⟨r.hd,by have:=r.dp;lia,by have:=r.un;lia⟩
theorem qAx.deeper {k:Nat} {A:Around} (r:qAx (k+1) A) (env:Env):qAx k (A.deeper env) :=
  ⟨r.hd,by have:=r.dp;show A.depth+1+3 * k+5<_;lia,by have:=r.un;show A.units+3+16 * k+200<_;lia⟩
theorem qAx.in1 {k:Nat} {A:Around} (r:qAx (k+1) A):qAx k A.in1 :=
  ⟨r.hd,by have:=r.dp;show A.depth+3 * k+5<_;lia,by have:=r.un;show A.units+1+16 * k+200<_;lia⟩
theorem qKp {A:Around} {C:Addr} {us:List Value} {kw:List (Str×Value)}:(A.under (.builtin "type.__call__" ⟨.ref C::us,kw⟩)).depth=A.depth+1:=by
  first | rfl | simp [Around.under,Code.weight,Code.isCreation,Code.isGuard,Code.isCaller,Code.frames,Code.isFrame,guardIds]
theorem qLT {A:Around} {C:Addr} {us:List Value} {kw:List (Str×Value)}:(A.under (.builtin "type.__call__" ⟨.ref C::us,kw⟩)).units=A.units+1:=by
  first | rfl | simp [Around.under,Code.cUnits,Code.frames,Code.isFrame]
theorem qAx.make {k:Nat} {A:Around} (r:qAx (k+1) A) (C:Addr) (us:List Value) (kw:List (Str×Value)):qAx k (A.under (.builtin "type.__call__" ⟨.ref C::us,kw⟩)) :=
  ⟨r.hd,by have:=r.dp;rw [qKp];lia,by have:=r.un;rw [qLT];lia⟩
theorem qAx.depth {k:Nat} {A:Around} (r:qAx k A):A.depth<recursionLimit:=by have:=r.dp;lia
theorem qAx.units {k:Nat} {A:Around} (r:qAx k A):A.units+64<cLine:=by have:=r.un;lia
noncomputable def qRx:TA:=fun _ H Q=>Q [] H
noncomputable def qUO (ta:TE) (tr:TA):TA:=fun σ H Q=>ta σ H fun x H1=>tr σ H1 fun xs H2=>Q (x::xs) H2
section
variable {X:Cx} {e:Expr} {es:List Expr} {te:TE} {t:TA} {pos:Pos}
theorem qTl:PA X [] qRx:=fun _ _ _ _ H Q I h=>Calls.spliced_nil ⟨[],H,I,.nil,h⟩
theorem qQp (ha:PE X e te) (hr:PA X es t) (hs:starEach (e::es) X.env=(false,eval e X.env)::starEach es X.env:=by rfl):PA X (e::es) (qUO te t):=by
  intro pos pins s σ H Q I h
  rw [hs]
  show wpAny _ _ (spliced ((false,eval e X.env)::backTo pos (starEach es X.env))) _ _ s
  refine Calls.spliced_cons (thn (ha pins s σ H _ I h) fun u s1 hqz=>?_)
  k_dat 0"r19"
  exact thn (hr pos pins s1 σ H1 _ I1 q1) fun us s2 ⟨xs,H2,I2,r2,q2⟩=>⟨x::xs,H2,I2,.cons r1 r2,q2⟩
noncomputable def qVe (t:TA):TE:=fun σ H Q=>t σ H fun xs H1=>xs.length≤sizeLine∧∀ p,H1 p=none→Q (.ref p) (upd H1 p (.tup xs))
noncomputable def qVT (t:TA):TE:=fun σ H Q=>t σ H fun xs H1=>xs.length≤sizeLine∧∀ p,H1 p=none→Q (.ref p) (upd H1 p (.lst xs))
theorem qRq {x1} (h:PA X es t):PE X (.Tuple es x1 pos) (qVe t):=by
  intro pins s σ H Q I hq
  refine wpAny_Tuple_spliced (thn (h pos pins s σ H _ I hq) fun us s1 ⟨xs,H1,I1,r,z,q⟩=>⟨by rw [← r.length];exact z,?_⟩)
  have hf:H1 s1.heap.objs.size=none:=I1.hok.fresh (Nat.le_refl _)
  refine⟨.ref s1.heap.objs.size,upd H1 s1.heap.objs.size (.tup xs),I1.laid (t':=s1.toks) (fun b u e=>Heap.get?_push_of_some _ e) (Nat.le_refl _) ?_,rfl,q _ hf⟩
  exact⟨z,us,r,⟨_,Heap.get?_push_size _ rfl,⟨rfl,rfl⟩,_,rfl⟩⟩
theorem qSW (h:PA X es t):PE X (.List es pos) (qVT t):=by
  intro pins s σ H Q I hq
  refine wpAny_List_spliced (thn (h pos pins s σ H _ I hq) fun us s1 ⟨xs,H1,I1,r,z,q⟩=>⟨by rw [← r.length];exact z,?_⟩)
  have hf:H1 s1.heap.objs.size=none:=I1.hok.fresh (Nat.le_refl _)
  refine⟨.ref s1.heap.objs.size,upd H1 s1.heap.objs.size (.lst xs),I1.laid (t':=s1.toks) (fun b u e=>Heap.get?_push_of_some _ e) (Nat.le_refl _) ?_,rfl,q _ hf⟩
  exact⟨z,us,0,r,Heap.get?_push_size _ rfl⟩
end
noncomputable abbrev Sp:=List V→Hp→VK→XK→Prop
noncomputable abbrev CXT:=List Env→Hp→Shared→XK→Value→Shared→Prop
structure qHq (P:Program) (w:World) (K:W.Frag) (mg:Str→Option Value) (base:Heap) (A:Around) (outer:List Env) (s:Shared) (H:Hp):Prop where
  frames:A.frames=some outer
  mod:Mod K mg base
  bs:∀ b o,base.get? b=some o→s.heap.get? b=some o∧H b=none
  bsz:base.objs.size≤s.heap.objs.size
  qFc:s.heap.FunFrames base outer
  frf:∀ b∈frs outer,H b=none
  hok:HOk K P w H s.heap
  bare:AllBare s.gens
def CE (K:W.Frag) (outer:List Env) (P:Program) (w:World) (H:Hp) (s:Shared) (Q:VK) (u:Value) (s':Shared):Prop :=
  ∃ v H',s'.os=s.os∧AllBare s'.gens∧Un (frs outer) [] H H' s.heap s'.heap∧HOk K P w H' s'.heap∧RelV v u∧Q v H'
def CR (K:W.Frag) (CX:CXT) (outer:List Env) (P:Program) (w:World) (H:Hp) (s:Shared) (Q:VK) (E:XK) (r:Result) (s':Shared):Prop :=
  match r with
  | .ok (.ret u)=>CE K outer P w H s Q u s'
  | .ok _=>False
  | .error e=>CX outer H s E e s'
structure qAJ (P:Program) (w:World) (K:W.Frag) (mg:Str→Option Value) (base:Heap) (CX:CXT) (k:Nat) (f:Addr) (fd:FuncData) (ps:List Str) (sp:Sp):Prop where
  len:∀ vs H Q E,sp vs H Q E→vs.length=ps.length
  run:∀ (A:Around) (outer:List Env) (s:Shared) (H:Hp) (args:Args) (us:List Value) (vs:List V) (Q:VK) (E:XK),qAx k A→qHq P w K mg base A outer s H→BindsTo s fd args (ps.zip us)→Vals vs us→sp vs H Q E →
    codeAny (model P w) A (.call (.ref f) args) (CR K CX outer P w H s Q E) s
theorem qHq.make {P:Program} {w:World} {K:W.Frag} {mg:Str→Option Value} {base:Heap} {A:Around} {outer:List Env} {s:Shared} {H:Hp} (e:qHq P w K mg base A outer s H) (C:Addr) (us:List Value) (kw:List (Str×Value)) :
    qHq P w K mg base (A.under (.builtin "type.__call__" ⟨.ref C::us,kw⟩)) outer s H:=⟨by first | exact e.frames | (simpa [Around.under,Code.envs,Code.isFrame,pushEnvs] using e.frames),e.mod,e.bs,e.bsz,e.qFc,e.frf,e.hok,e.bare⟩
theorem qHq.in1 {P:Program} {w:World} {K:W.Frag} {mg:Str→Option Value} {base:Heap} {A:Around} {outer:List Env} {s:Shared} {H:Hp} (e:qHq P w K mg base A outer s H) :
    qHq P w K mg base A.in1 outer s H:=⟨e.frames,e.mod,e.bs,e.bsz,e.qFc,e.frf,e.hok,e.bare⟩
section
variable {X:Cx} {pins:List (Addr×Obj)} {σ:St} {H:Hp} {s s':Shared}
theorem Inv.qUM (I:Inv X pins σ H s):qHq X.prog X.w X.K X.mg X.base X.A X.stack s H :=
  ⟨I.ok.frames,I.ok.mod,I.bs,Nat.le_trans I.ok.bsz I.sz,I.stack,I.qLq,I.hok,I.bare⟩
theorem Inv.after {Q:VK} {u:Value} (I:Inv X pins σ H s) (h:CE X.K X.stack X.prog X.w H s Q u s'):EP X pins σ Q u s':=by
  obtain⟨v,H',os,bare,un,hok,r,q⟩:=h
  obtain⟨hh,g,d,t,os'⟩:=s'
  obtain rfl:os'=s.os:=os
  exact⟨v,H',I.call (h':=hh) (g':=g) (d':=d) (t':=t) (ch:=[]) un hok bare (fun b z=>absurd z (by simp)),r,q⟩
end
noncomputable def qU3 (sp:Sp) (dvs:List V) (E:XK) (t:TA):TE:=fun σ H Q=>t σ H fun vs H1=>sp (vs++dvs) H1 Q E
noncomputable def qMB (C:Addr) (m:Str) (sp:Sp) (dvs:List V) (E:XK) (ta:TE) (t:TA):TE:=fun σ H Q=>ta σ H fun x H1=>∃ a dx fs,x = .ref a∧H1 a=some (.ins C dx fs)∧fs.lookup m=none ∧
  t σ H1 fun vs H2=>sp (x::(vs++dvs)) H2 Q E
noncomputable def qOT (K:W.Frag) (C:Addr) (sp:Sp) (dvs:List V) (E:XK) (t:TA):TE:=fun σ H Q=>t σ H fun vs H1=>∀ x dx,H1 x=none→H1 dx=none→dx≠x→K.lookup x=none →
  sp (.ref x::(vs++dvs)) (upd (upd H1 dx (.own x)) x (.ins C dx [])) (fun v H2=>v = .non∧Q (.ref x) H2) E
def Binds (K:W.Frag) (fd:FuncData) (ps:List Str) (ds:List Value):Prop :=
  ∀ (s:Shared) (us:List Value),K.In s.heap→(us++ds).length=ps.length→BindsTo s fd ⟨us,[]⟩ (ps.zip (us++ds))
theorem Binds.all {K:W.Frag} {fd:FuncData} {ps:List Str} (h:∀ us:List Value,us.length=ps.length→bindArgs fd ⟨us,[]⟩=pure (ps.zip us)):Binds K fd ps []:=fun s us _ hl=>by
  rw [List.append_nil] at hl ⊢
  exact .of_eq (h us hl)
def Passes (CX:CXT) (X:Cx) (E:XK):Prop:=∀ (pins:List (Addr×Obj)) (σ:St) (H:Hp) (s:Shared) (e:Value) (s':Shared),Inv X pins σ H s→CX X.stack H s E e s'→X.xe e s'
section
variable {X:Cx} {CX:CXT} {k:Nat} {f C:Addr} {fd:FuncData} {ps:List Str} {sp:Sp} {dvs:List V} {ds:List Value} {E:XK} {x m:Str} {p pos apos:Pos} {e o:Expr} {es:List Expr} {ta:TE} {t:TA}
theorem qLB {pins:List (Addr×Obj)} {σ:St} {H:Hp} {s:Shared} {Q:VK} {us:List Value} {vs:List V} (F:qAJ X.prog X.w X.K X.mg X.base CX k f fd ps sp) (hr:qAx k X.A) (hb:Binds X.K fd ps ds) (hd:Vals dvs ds) (hx:Passes CX X E)
    (I:Inv X pins σ H s) (r:Vals vs us) (h:sp (vs++dvs) H Q E):wpAny (model X.prog X.w) X.A (call (.ref f) us) (EP X pins σ Q) X.xe s:=by
  have r2:Vals (vs++dvs) (us++ds):=r.append hd
  have hl:(us++ds).length=ps.length:=by rw [← r2.length];exact F.len _ _ _ _ h
  refine wpAny_call (codeAny_mono (F.run X.A X.stack s H ⟨us,[]⟩ (us++ds) (vs++dvs) Q E hr I.qUM (hb s us I.kIn hl) r2 h) fun r s' hq=>?_)
  cases r with
  | error e=>exact hx pins σ H s e s' I hq
  | ok fl =>
    cases fl with
    | ret u=>exact I.after hq
    | next=>exact False.elim hq
    | brk=>exact False.elim hq
    | cont=>exact False.elim hq
theorem qRJ (F:qAJ X.prog X.w X.K X.mg X.base CX k f fd ps sp) (hr:qAx k X.A) (hg:Gl X x) (hm:X.mg x=some (.ref f)) (hk:W.keepIn X.K (.ref f)=true) (hb:Binds X.K fd ps ds) (hd:Vals dvs ds) (hx:Passes CX X E)
    (ha:PA X (e::es) t) (hdb:(x==("__debug__" : Str))=false:=by decide) (he:starEach (e::es) X.env=(false,eval e X.env)::starEach es X.env:=by rfl) (hpl:(backTo pos (starEach es X.env)).any (·.1)=false:=by rfl) :
    PE X (.Call (.Name x p) (e::es) [] pos) (qU3 sp dvs E t):=by
  k_dat 0"r2"
  refine wpAny_Call_Name_kw (qGH I hg hm ?_ hdb)
  refine W.callWith_K (h₀:=X.base) I.ok.mod.kin hk (thn (ha pos pins s σ H _ I h) fun us s1 ⟨vs,H1,I1,r,q⟩=>⟨I1.kIn,?_⟩) he hpl
  exact qLB F hr hb hd hx I1 r q
theorem qQv {pl:Sem Bool} (he:PE X o ta) (c:Cls X.K C) (hm:Meth X.K C m f) (F:qAJ X.prog X.w X.K X.mg X.base CX k f fd ps sp) (hr:qAx k X.A) (hb:Binds X.K fd ps ds) (hd:Vals dvs ds) (hx:Passes CX X E) (ha:PA X (e::es) t)
    (hst:starEach (e::es) X.env=(false,eval e X.env)::starEach es X.env:=by rfl) (hpl:(backTo pos (starEach es X.env)).any (·.1)=false:=by rfl)
    (ht:eval (.Call (.Attribute o m apos) (e::es) [] pos) X.env=(do
      let ov ← eval o X.env
      standAt apos.atName
      let (f,first) ← holding [ov] (getMethod ov m pl)
      callWith pos f first (backTo pos (starEach (e::es) X.env)) (backToKw pos (keywordEach [] X.env))):=by rfl) :
    PE X (.Call (.Attribute o m apos) (e::es) [] pos) (qMB C m sp dvs E ta t):=by
  k_dat 0"r2"
  refine W.methodCall_KW (pl:=pl) (thn (he pins s σ H _ I h) fun u s1 hqz=>?_) ht
  obtain⟨x,H1,I1,rx,a,dx,fs,ex,ea,l,q⟩:=hqz
  subst ex
  k_dat 0"r27"
  refine qGo I1 ea c hm l ?_
  refine W.callWith_K (first:=[.ref a]) (h₀:=X.base) I.ok.mod.kin hm.kp (thn (ha pos pins s1 σ H1 _ I1 q) fun us s2 ⟨vs,H2,I2,r,q2⟩=>⟨I2.kIn,?_⟩) hst hpl
  exact qLB (us:=.ref a::us) (vs:=.ref a::vs) F hr hb hd hx I2 (.cons rfl r) q2
theorem qJe {pl:Sem Bool} (he:PE X o ta) (c:Cls X.K C) (hm:Meth X.K C m f) (F:qAJ X.prog X.w X.K X.mg X.base CX k f fd ps sp) (hr:qAx k X.A) (hb:Binds X.K fd ps ds) (hd:Vals dvs ds) (hx:Passes CX X E)
    (ht:eval (.Call (.Attribute o m apos) [] [] pos) X.env=(do
      let ov ← eval o X.env
      standAt apos.atName
      let (f,first) ← holding [ov] (getMethod ov m pl)
      callWith pos f first (backTo pos (starEach [] X.env)) (backToKw pos (keywordEach [] X.env))):=by rfl) :
    PE X (.Call (.Attribute o m apos) [] [] pos) (qMB C m sp dvs E ta qRx):=by
  k_dat 0"r2"
  refine W.methodCall_KW (pl:=pl) (thn (he pins s σ H _ I h) fun u s1 hqz=>?_) ht
  obtain⟨x,H1,I1,rx,a,dx,fs,ex,ea,l,q⟩:=hqz
  subst ex
  k_dat 0"r27"
  refine qGo I1 ea c hm l ?_
  exact W.callWith_K0 (first:=[.ref a]) I1.kIn hm.kp (qLB (us:=[.ref a]) (vs:=[.ref a]) F hr hb hd hx I1 (.cons rfl .nil) q)
structure Mk (K:W.Frag) (C f:Addr):Prop where
  makes:W.makesIn K C=true
  init:W.findIn K (.ref C) "__init__" = some (some (.ref f))
  fn:W.isFn K (.ref f)=true
  kp:W.keepIn K (.ref C)=true
theorem qKM {pins:List (Addr×Obj)} {σ:St} {H:Hp} {s:Shared} {Q:VK} {us:List Value} {vs:List V} (M:Mk X.K C f) (F:qAJ X.prog X.w X.K X.mg X.base CX k f fd ps sp) (hr:qAx (k+1) X.A) (hb:Binds X.K fd ps ds) (hd:Vals dvs ds)
    (hx:Passes CX X E) (I:Inv X pins σ H s) (r:Vals vs us)
    (h:∀ x dx,H x=none→H dx=none→dx≠x→X.K.lookup x=none→sp (.ref x::(vs++dvs)) (upd (upd H dx (.own x)) x (.ins C dx [])) (fun v H2=>v = .non∧Q (.ref x) H2) E) :
    wpAny (model X.prog X.w) X.A (call (.ref C) us) (EP X pins σ Q) X.xe s:=by
  have hq:=h (s.heap.objs.size+1) s.heap.objs.size (I.hok.fresh (Nat.le_succ _)) (I.hok.fresh (Nat.le_refl _)) (Nat.ne_of_lt (Nat.lt_succ_self _)) (by cases e:X.K.lookup (s.heap.objs.size+1) with | none=>rfl | some o=>exact absurd (Heap.lt_size (I.kIn _ o e)) (Nat.not_lt.mpr (Nat.le_succ _)))
  have I2:=Inv.made (C:=C) I
  have r2:Vals (V.ref (s.heap.objs.size+1)::(vs++dvs)) (Value.ref (s.heap.objs.size+1)::(us++ds)):=.cons rfl (r.append hd)
  have hl:(Value.ref (s.heap.objs.size+1)::us++ds).length=ps.length:=by
    have e:=r2.length
    rw [F.len _ _ _ _ hq] at e
    exact e.symm
  refine wpAny_call (qOK (f:=f) I.kIn M.makes M.init (beq_iff_eq.mp M.fn) (codeAny_mono (F.run _ X.stack _ _ ⟨Value.ref (s.heap.objs.size+1)::us,[]⟩ (Value.ref (s.heap.objs.size+1)::(us++ds)) _ _ E (hr.make C us [])
    (I2.qUM.make C us []) (hb _ (Value.ref (s.heap.objs.size+1)::us) I2.kIn hl) r2 hq) fun r s' hq'=>?_))
  cases r with
  | error e=>exact hx pins σ _ _ e s' I2 hq'
  | ok fl =>
    cases fl with
    | ret u =>
      obtain⟨v,H',I3,rv,ev,q3⟩:=I2.after hq'
      subst ev
      exact⟨rv,⟨V.ref (s.heap.objs.size+1),H',I3,rfl,q3⟩⟩
    | next=>exact False.elim hq'
    | brk=>exact False.elim hq'
    | cont=>exact False.elim hq'
theorem qQ8 (M:Mk X.K C f) (F:qAJ X.prog X.w X.K X.mg X.base CX k f fd ps sp) (hr:qAx (k+1) X.A) (hg:Gl X x) (hm:X.mg x=some (.ref C)) (hb:Binds X.K fd ps ds) (hd:Vals dvs ds) (hx:Passes CX X E)
    (ha:PA X (e::es) t) (hdb:(x==("__debug__" : Str))=false:=by decide) (he:starEach (e::es) X.env=(false,eval e X.env)::starEach es X.env:=by rfl) (hpl:(backTo pos (starEach es X.env)).any (·.1)=false:=by rfl) :
    PE X (.Call (.Name x p) (e::es) [] pos) (qOT X.K C sp dvs E t):=by
  k_dat 0"r2"
  refine wpAny_Call_Name_kw (qGH I hg hm ?_ hdb)
  refine W.callWith_K (h₀:=X.base) I.ok.mod.kin M.kp (thn (ha pos pins s σ H _ I h) fun us s1 ⟨vs,H1,I1,r,q⟩=>⟨I1.kIn,?_⟩) he hpl
  exact qKM M F hr hb hd hx I1 r q
theorem qNq (M:Mk X.K C f) (F:qAJ X.prog X.w X.K X.mg X.base CX k f fd ps sp) (hr:qAx (k+1) X.A) (hg:Gl X x) (hm:X.mg x=some (.ref C)) (hb:Binds X.K fd ps ds) (hd:Vals dvs ds) (hx:Passes CX X E)
    (hdb:(x==("__debug__" : Str))=false:=by decide):PE X (.Call (.Name x p) [] [] pos) (qOT X.K C sp dvs E qRx):=by
  k_dat 0"r2"
  refine wpAny_Call_Name_kw (qGH I hg hm ?_ hdb)
  exact W.callWith_K0 I.kIn M.kp (qKM (us:=[]) M F hr hb hd hx I .nil h)
end
structure qQ (N P:List Str) (sc:Scope):Prop where
  kind:sc.kind = .function
  co:sc.isCoroutine=false
  gen:sc.isGenerator=false
  nd:N.Nodup
  pre:N.take P.length=P
  par:∀ x∈P,sc.names.lookup x=some .local∨sc.names.lookup x=some .cell
  nofree:∀ y∈sc.names,y.2≠.free
theorem qIR {kindOf:Str→Option NameKind} {x:Str}:∀ {binds:List (Str×Value)} {m:Str→Option Value},(∀ v,(x,v) ∉ binds)→bindL kindOf binds m x=m x
  | [],_,_=>rfl
  | (n,v)::r,m,h=>by
    unfold bindL
    rw [qIR fun w hw=>h w (List.mem_cons_of_mem _ hw)]
    split
    · have:x≠n:=by rintro rfl;exact h v List.mem_cons_self
      simp [this]
    · rfl
theorem qIE {kindOf:Str→Option NameKind} {x:Str}:∀ {binds:List (Str×Value)} {m:Str→Option Value},(∀ v,(x,v) ∉ binds)→bindC kindOf binds m x=m x
  | [],_,_=>rfl
  | (n,v)::r,m,h=>by
    unfold bindC
    rw [qIE fun w hw=>h w (List.mem_cons_of_mem _ hw)]
    split
    · rfl
    · have:x≠n:=by rintro rfl;exact h v List.mem_cons_self
      simp [this]
theorem qID {kindOf:Str→Option NameKind} {x:Str} {v:Value}:∀ {P:List Str} {vs:List Value} {i:Nat} {m:Str→Option Value},P.Nodup→P[i]? = some x→vs[i]? = some v→kindOf x=some .local →
    bindL kindOf (P.zip vs) m x=some v
  | [],_,_,_,_,h,_,_=>by simp at h
  | _::_,[],_,_,_,_,h,_=>by simp at h
  | p::P,w::vs,0,m,nd,h1,h2,hk=>by
    simp at h1 h2;subst h1;subst h2
    show bindL kindOf ((p,w)::P.zip vs) m p=_
    unfold bindL
    rw [qIR fun v hv=>(List.nodup_cons.mp nd).1 (List.of_mem_zip hv).1,if_pos hk]
    simp
  | p::P,w::vs,i+1,m,nd,h1,h2,hk=>by
    show bindL kindOf ((p,w)::P.zip vs) m x=_
    unfold bindL
    exact qID (i:=i) (List.nodup_cons.mp nd).2 (by simpa using h1) (by simpa using h2) hk
theorem qIK {kindOf:Str→Option NameKind} {x:Str} {v:Value}:∀ {P:List Str} {vs:List Value} {i:Nat} {m:Str→Option Value},P.Nodup→P[i]? = some x→vs[i]? = some v→kindOf x≠some .local →
    bindC kindOf (P.zip vs) m x=some v
  | [],_,_,_,_,h,_,_=>by simp at h
  | _::_,[],_,_,_,_,h,_=>by simp at h
  | p::P,w::vs,0,m,nd,h1,h2,hk=>by
    simp at h1 h2;subst h1;subst h2
    show bindC kindOf ((p,w)::P.zip vs) m p=_
    unfold bindC
    rw [qIE fun v hv=>(List.nodup_cons.mp nd).1 (List.of_mem_zip hv).1,if_neg hk]
    simp
  | p::P,w::vs,i+1,m,nd,h1,h2,hk=>by
    show bindC kindOf ((p,w)::P.zip vs) m x=_
    unfold bindC
    exact qIK (i:=i) (List.nodup_cons.mp nd).2 (by simpa using h1) (by simpa using h2) hk
noncomputable def start (N:List Str) (vs:List V):St:=vs.map some++List.replicate (N.length - vs.length) none
noncomputable def qIx (CX:CXT) (P:Program) (w:World) (K:W.Frag) (mg:Str→Option Value) (base:Heap) (N:List Str) (qual:Str) (scope:Scope) (f:Addr) (cd:Value) (A:Around) (outer:List Env) (s:Shared) (H:Hp) (E:XK):Cx where
  prog:=P
  w:=w
  K:=K
  mg:=mg
  base:=base
  A:=A.deeper (envOfC qual scope s.heap.objs.size f cd)
  N:=N
  s₀:=s
  H₀:=H
  env:=envOfC qual scope s.heap.objs.size f cd
  outer:=outer
  stack:=envOfC qual scope s.heap.objs.size f cd::outer
  ex:=[]
  calm:=true
  fn:=fun _=>true
  pn:=[]
  xe:=fun e s'=>wpAny (model P w) (A.deeper (envOfC qual scope s.heap.objs.size f cd)) (leaving (envOfC qual scope s.heap.objs.size f cd) e) (fun _ s''=>CX outer H s E e s'') (fun e' s''=>CX outer H s E e' s'') s'
theorem qJ9 {sc:Scope} {n:Nat} {x:Str} (h:sc.names.lookup x=some .cell):∃ c,(cellsFrom n sc.names []).lookup x=some c:=by
  have q:=W.cellsFrom_some sc.names n [] (.inl h)
  exact Option.isSome_iff_exists.mp q
theorem qND {CX:CXT} {P:Program} {w:World} {K:W.Frag} {mg:Str→Option Value} {base:Heap} {N ps:List Str} {qual:Str} {scope:Scope} {f:Addr} {cd:Value} {A:Around} {outer:List Env} {s s1:Shared} {H:Hp} {E:XK} {us:List Value} {vs:List V}
    (S:qQ N ps scope) (hd:A.handled=none) (e0:qHq P w K mg base A outer s H) (hl:vs.length=ps.length) (r:Vals vs us)
    (x:InCallC s s.heap.objs.size (bindL (envOfC qual scope s.heap.objs.size f cd).kindOf (ps.zip us) fun _=>none) (cellsFrom (s.heap.objs.size+1) scope.names []) (bindC (envOfC qual scope s.heap.objs.size f cd).kindOf (ps.zip us) fun _=>none) s1) :
    Inv (qIx CX P w K mg base N qual scope f cd A outer s H E) [] (start N vs) H s1:=by
  have hpl:ps.length≤N.length:=by have:=congrArg List.length S.pre;rw [List.length_take] at this;lia
  obtain⟨h1,tk,rfl,hk⟩:=x.done
  have noA:∀ b:Addr,b ∉ (qIx CX P w K mg base N qual scope f cd A outer s H E).ex:=fun b z=>absurd (show b∈([]:List Addr) from z) (by simp)
  refine⟨⟨e0.mod,S.kind,rfl,rfl,Nat.le_refl _,fun y z c h1 h2=>?_,fun y hy=>?_,fun y c _ h=>?_,fun _=>hd,Around.frames_deeper e0.frames,.inr ⟨rfl,rfl⟩,fun b z=>absurd z (noA b),e0.bs,e0.bsz,fun b _ _=>noA b,fun b z=>absurd z (noA b),e0.qFc,e0.frf⟩,
    rfl,e0.bare,Un.kept hk,⟨_,x.toInCall.ns,fun i y v h1 h2 h3=>?_⟩,fun y c h=>⟨_,x.cell y c h⟩,e0.hok.fresh (Nat.le_refl _),fun y c h=>?_,fun p hp=>absurd (show p∈([]:List (Addr×Obj)) from hp) (by simp),e0.hok.kept hk,?_⟩
  · exact name_of_addr x.apart (PySem.mem_of_lookup h1) (PySem.mem_of_lookup h2)
  · have hy:scope.names.lookup y=some .cell∨scope.names.lookup y=some .free:=hy
    rcases hy with hy | hy
    · exact qJ9 hy
    · exact absurd rfl (S.nofree _ (PySem.mem_of_lookup hy))
  · exact Nat.le_of_lt (x.above y c (PySem.mem_of_lookup h))
  · have hi:i<vs.length:=by
      unfold start at h2
      by_cases hi:i<vs.length
      · exact hi
      · rw [List.getElem?_append_right (by simpa using hi)] at h2
        rw [List.getElem?_replicate] at h2
        split at h2<;>cases h2
    have ha:vs[i]? = some v:=by
      unfold start at h2
      rw [List.getElem?_append_left (by simpa using hi),List.getElem?_map] at h2
      cases e:vs[i]? with
      | none=>rw [e] at h2;cases h2
      | some a=>rw [e] at h2;cases h2;rfl
    obtain⟨u,hu,rv⟩:=r.get ha
    have hp:ps[i]? = some y:=by
      rw [← S.pre,List.getElem?_take_of_lt (by lia)];exact h1
    have ndP:ps.Nodup:=by rw [← S.pre];exact S.nd.sublist (List.take_sublist _ _)
    refine⟨u,rv,?_⟩
    rcases S.par y (List.mem_of_getElem? hp) with k | k
    · exact .inl ⟨k,qID ndP hp hu k⟩
    · obtain⟨c,e⟩:=qJ9 (n:=s.heap.objs.size+1) k
      refine .inr ⟨.inl k,c,e,?_⟩
      have q:=x.cell y c e
      rw [qIK ndP hp hu (by show scope.names.lookup y≠_;rw [k];decide)] at q
      exact q
  · exact e0.hok.fresh (Nat.le_of_lt (x.above y c (PySem.mem_of_lookup h)))
  · unfold start
    show _=N.length
    rw [List.length_append,List.length_map,List.length_replicate]
    lia
theorem qRZ {CX:CXT} {P:Program} {w:World} {K:W.Frag} {mg:Str→Option Value} {base:Heap} {k:Nat} {f:Addr} {name qual:Str} {params:Arguments} {body:List Stmt} {scope:Scope} {dV kV doc pm cdv ct oc:Value} {an od:Option Addr}
    {osl:Array (Option Value)} {N ps:List Str} {sp:Sp} (lk:K.lookup f=some ⟨oc,od,.func (W.fnOf name qual params body scope dV kV doc pm an cdv ct),osl⟩) (hcd:W.codeIn K cdv qual=true) (S:qQ N ps scope)
    (len:∀ vs H Q E,sp vs H Q E→vs.length=ps.length)
    (hbody:∀ (A:Around) (outer:List Env) (s:Shared) (H:Hp) (vs:List V) (Q:VK) (E:XK),qAx k (A.deeper (envOfC qual scope s.heap.objs.size f cdv))→sp vs H Q E →
      ∃ t,PSs (qIx CX P w K mg base N qual scope f cdv A outer s H E) body t∧t { nx:=fun _ H'=>Q .non H',rt:=Q } (start N vs) H) :
    qAJ P w K mg base CX (k+1) f (W.fnOf name qual params body scope dV kV doc pm an cdv ct) ps sp:=by
  refine⟨len,fun A outer s H args us vs Q E hr e0 hb r hsp=>?_⟩
  have hl:=len _ _ _ _ hsp
  have KX:K.In s.heap:=e0.mod.kin.keeps fun b o e=>(e0.bs b o e).1
  have lim:s.heap.NoLimit:=e0.mod.nolimit.keeps fun b o e=>(e0.bs b o e).1
  have hkind:∀ y∈ps.zip us,scope.names.lookup y.1=some .local∨(scope.names.lookup y.1=some .cell∧((cellsFrom (s.heap.objs.size+1) scope.names []).lookup y.1).isSome=true):=fun ⟨n,v⟩ hy=>by
    rcases S.par n (List.of_mem_zip hy).1 with q | q
    · exact .inl q
    · exact .inr ⟨q,W.cellsFrom_some _ _ _ (.inl q)⟩
  refine codeAny_call_function hr.depth (KX _ _ lk) rfl S.co S.gen rfl (W.codeRec_of KX hcd) (hb _ _ _ _ ?_)
  refine wpAny_newFunctionEnv_cells S.kind hkind fun env he s1 x=>?_
  subst he
  refine⟨lim.keeps x.toInCall.keep,codeAny_func ?_⟩
  obtain⟨t,ht,hq⟩:=hbody A outer s H vs Q E (hr.deeper _) hsp
  have I:Inv (qIx CX P w K mg base N qual scope f cdv A outer s H E) [] (start N vs) H s1:=qND S hr.hd e0 hl r x
  refine wpAny_mono (ht [] s1 (start N vs) H _ I hq) (fun fl s' hs=>?_) fun e s' hs=>hs
  have fin:∀ {σ':St} {H':Hp} {v:V} {u:Value},Inv (qIx CX P w K mg base N qual scope f cdv A outer s H E) [] σ' H' s'→RelV v u→Q v H'→CE K outer P w H s Q u s' :=
    fun {σ' H' v u} J rv q=>⟨v,H',J.os,J.bare,J.base,J.hok,rv,q⟩
  cases fl with
  | ret u =>
    obtain⟨v,σ',H',J,rv,q⟩:=hs
    exact fin J rv q
  | next =>
    obtain⟨σ',H',J,q⟩:=hs
    exact fin (v:=V.non) (u:=Value.none) J rfl q
  | brk =>
    obtain⟨_,_,_,q⟩:=hs
    exact False.elim q
  | cont =>
    obtain⟨_,_,_,q⟩:=hs
    exact False.elim q
end L2
namespace L2
open PySem PySem.Spec PyProof.Rows
section
variable {X:Cx} {x:Str} {p pos:Pos} {e:Expr} {es:List Expr} {t:TA} {id T:String} {r:List V→Hp→VK→Prop}
noncomputable def tCB (r:List V→Hp→VK→Prop) (t:TA):TE:=fun σ H Q=>t σ H fun vs H1=>r vs H1 Q
theorem qOr (hc:qEA X (.builtin id) r) (hg:Gl X x) (hm:X.mg x=none) (hv:bootBuiltins x=some (.builtin id)) (ha:PA X (e::es) t) (hn:x ≠ "__name__":=by decide) (hdb:(x==("__debug__" : Str))=false:=by decide)
    (he:starEach (e::es) X.env=(false,eval e X.env)::starEach es X.env:=by rfl) (hpl:(backTo pos (starEach es X.env)).any (·.1)=false:=by rfl):PE X (.Call (.Name x p) (e::es) [] pos) (tCB r t):=by
  k_dat 0"r2"
  refine wpAny_Call_Name_kw (qFB I hg hm hv ?_ hn hdb)
  exact PyProof.Rows.callWith_builtin1 (thn (ha pos pins s σ H _ I h) fun us s1 ⟨vs,H1,I1,r1,q1⟩=>hc pins s1 σ H1 vs us Q I1 r1 q1) he hpl
theorem qNL (hc:qEA X (.type T) r) (hg:Gl X x) (hm:X.mg x=none) (hv:bootBuiltins x=some (.type T)) (ha:PA X (e::es) t) (hn:x ≠ "__name__":=by decide) (hdb:(x==("__debug__" : Str))=false:=by decide)
    (he:starEach (e::es) X.env=(false,eval e X.env)::starEach es X.env:=by rfl) (hpl:(backTo pos (starEach es X.env)).any (·.1)=false:=by rfl):PE X (.Call (.Name x p) (e::es) [] pos) (tCB r t):=by
  k_dat 0"r2"
  refine wpAny_Call_Name_kw (qFB I hg hm hv ?_ hn hdb)
  exact PyProof.Rows.callWith_type1 (thn (ha pos pins s σ H _ I h) fun us s1 ⟨vs,H1,I1,r1,q1⟩=>hc pins s1 σ H1 vs us Q I1 r1 q1) he hpl
end
end L2
namespace HT
open PySem PyProof.Rows
section
variable {prog:Program} {w:World} {A:Around} {E:Value→Shared→Prop} {s:Shared}
theorem qP0 {t b:Addr} {vs ws:List Value} {Q:Value→Shared→Prop} (ht:IsTup s.heap t vs.toArray) (hb:IsTup s.heap b ws.toArray) (hv:vs≠[])
    (h1:ws=[]→Q (.ref t) s) (h2:ws≠[]→Q (.ref s.heap.objs.size) { s with heap:=s.heap.push { cls:=.type "tuple",data:=.seq (vs++ws).toArray } })
    (hsz:vs.length+ws.length≤sizeLine):wpAny (model prog w) A (binaryOp .Add (.ref t) (.ref b)) Q E s:=by
  obtain⟨⟨cls,dd,data,sl⟩,ho,hc,n,hd⟩:=id ht
  obtain⟨⟨cls2,dd2,data2,sl2⟩,ho2,hc2,n2,hd2⟩:=id hb
  simp only at hc hd hc2 hd2
  subst hc hd hc2 hd2
  have e:vs.toArray++ws.toArray=(vs++ws).toArray:=by simp
  by_cases hw:ws=[]
  · exact concat_meets ⟨_,ho,rfl⟩ ⟨_,ho2,rfl⟩ noFill_tuple_add seq_tuple_add PySem.F.slot_tuple_add PySem.F.entry_tuple_add (PySem.F.args_tuple_add_2 _ _)
      (tuple_addW1 t b vs.toArray ws.toArray n n2 dd dd2 sl sl2 (by simpa using hv) (by simp [hw])) ⟨ho,ho2,h1 hw⟩
  · refine concat_meets ⟨_,ho,rfl⟩ ⟨_,ho2,rfl⟩ noFill_tuple_add seq_tuple_add PySem.F.slot_tuple_add PySem.F.entry_tuple_add (PySem.F.args_tuple_add_2 _ _)
      (tuple_addW2 t b vs.toArray ws.toArray n n2 dd dd2 sl sl2 (by simpa using hv) (by simpa using hw) (by rw [List.size_toArray,List.size_toArray];exact hsz)) ⟨ho,ho2,?_⟩
    rw [e]
    exact h2 hw
noncomputable def sIx (n d:Nat):Option Int→Nat
  | none=>d
  | some v=>if v<0 then (v+(n:Int)).toNat else min v.toNat n
theorem qLz (n d k:Nat):sIx n d (some (k:Int))=min k n:=by
  show (if (k:Int)<0 then ((k:Int)+(n:Int)).toNat else min (k:Int).toNat n)=min k n
  rw [if_neg (by lia),Int.toNat_natCast]
theorem qR8 (n d:Nat) (hd:d≤n) (o:Option Int):sIx n d o≤n:=by
  cases o with
  | none=>exact hd
  | some v =>
    show (if v<0 then (v+(n:Int)).toNat else min v.toNat n)≤n
    by_cases hv:v<0
    · rw [if_pos hv];lia
    · rw [if_neg hv];exact Nat.min_le_right _ _
theorem qLh (v:Int) (n d:Nat):(if v<0 then max (v+(n:Int)) 0 else min v (n:Int))=((sIx n d (some v):Nat):Int):=by
  show (if v<0 then max (v+(n:Int)) 0 else min v (n:Int))=(((if v<0 then (v+(n:Int)).toNat else min v.toNat n):Nat):Int)
  by_cases hv:v<0
  · simp only [if_pos hv];lia
  · simp only [if_neg hv];lia
theorem qLS (lo hi:Option Int) (n:Nat):Builtin.Slice.sliceAdjust lo hi 1 (n:Int)=(((sIx n 0 lo:Nat):Int),((sIx n n hi:Nat):Int)):=by
  have h1:¬ ((1:Int)<0):=by lia
  unfold Builtin.Slice.sliceAdjust
  simp only [h1,if_false]
  refine Prod.ext ?_ ?_
  · cases lo with
    | none=>rfl
    | some v=>exact qLh v n 0
  · cases hi with
    | none=>rfl
    | some v=>exact qLh v n n
theorem qK5 (i j:Nat):Builtin.Slice.slicePlaces (i:Int) (j:Int) 1=j - i:=by
  unfold Builtin.Slice.slicePlaces
  have h1:(1:Int) > 0:=by lia
  simp only [h1,if_true,Int.ediv_one]
  split<;>lia
theorem qHI {v:Value} {o:Option Int} {Q:Option Int→Shared→Prop} (p:IsPart v o) (h:Q o s):wpAny (model prog w) A (Builtin.Slice.slicePartIndex v) Q E s:=by
  cases p with
  | none=>exact slicePart_none h
  | int i t=>exact slicePart_int h
theorem qC5 {sl:Addr} {vl vu:Value} {lo hi:Option Int} {n:Nat} {Q:Int×Int×Nat→Shared→Prop} (hs:s.heap.IsSliceOf sl vl vu .none) (pl:IsPart vl lo) (pu:IsPart vu hi)
    (h:Q (((sIx n 0 lo:Nat):Int),1,sIx n n hi - sIx n 0 lo) s):wpAny (model prog w) A (Builtin.Slice.sliceApplied (.ref sl) (pure (n:Int))) Q E s:=by
  obtain⟨os,hos,hcs,hds⟩:=id hs
  unfold Builtin.Slice.sliceApplied Builtin.Slice.sliceFields
  refine wpAny_bind (wpAny_bind (wpAny_field hos hds (x:=vl) rfl (wpAny_bind (wpAny_field hos hds (x:=vu) rfl (wpAny_bind (wpAny_field hos hds (x:=.none) rfl (wpAny_pure ?_)))))))
  refine wpAny_bind (slicePart_none ?_)
  show wpAny _ _ (if ((1:Int)==0)=true then _ else _) _ _ s
  rw [if_neg (by decide)]
  refine wpAny_bind (qHI pl (wpAny_bind (qHI pu (wpAny_bind (wpAny_pure ?_)))))
  show wpAny _ _ (match Builtin.Slice.sliceAdjust lo hi 1 (n:Int) with | (lo,hi)=>pure (lo,(1:Int),Builtin.Slice.slicePlaces lo hi 1)) _ _ s
  rw [qLS lo hi n]
  show wpAny _ _ (pure (((sIx n 0 lo:Nat):Int),(1:Int),Builtin.Slice.slicePlaces ((sIx n 0 lo:Nat):Int) ((sIx n n hi:Nat):Int) 1)) _ _ s
  rw [qK5]
  exact wpAny_pure h
theorem qNd (xs:Array Value) (i k:Nat):((List.range k).filterMap fun (m:Nat)=>xs[((i:Int)+(m:Int) * 1).toNat]?).toArray=((xs.toList.drop i).take k).toArray:=by
  have e:(fun (m:Nat)=>xs[((i:Int)+(m:Int) * 1).toNat]?)=fun m=>xs[i+m]?:=by
    funext m
    have:((i:Int)+(m:Int) * 1).toNat=i+m:=by lia
    rw [this]
  rw [e]
  have:=pick_run xs i k
  rw [List.filterMap_map] at this
  have e2:((fun x=>xs[x]?) ∘ fun x=>i+x)=fun m=>xs[i+m]?:=rfl
  rw [e2] at this
  rw [this]
theorem qEr {t sl:Addr} {items:Array Value} {vl vu:Value} {lo hi:Option Int} {Q:Value→Shared→Prop} (ht:IsTup s.heap t items) (hs:s.heap.IsSliceOf sl vl vu .none) (pl:IsPart vl lo) (pu:IsPart vu hi)
    (hw:¬ (sIx items.size 0 lo=0∧sIx items.size items.size hi=items.size))
    (h:Q (.ref s.heap.objs.size) { s with heap:=s.heap.push { cls:=.type "tuple",data:=.seq ((items.toList.drop (sIx items.size 0 lo)).take (sIx items.size items.size hi - sIx items.size 0 lo)).toArray } })
    (hsz:items.size≤sizeLine):wpAny (model prog w) A (getItem (.ref t) (.ref sl)) Q E s:=by
  have htake:sizeOk (.seq ((items.toList.drop (sIx items.size 0 lo)).take (sIx items.size items.size hi - sIx items.size 0 lo)).toArray):=by
    show ((items.toList.drop (sIx items.size 0 lo)).take (sIx items.size items.size hi - sIx items.size 0 lo)).toArray.size≤sizeLine
    rw [List.size_toArray,List.length_take,List.length_drop,Array.length_toList]
    lia
  have hj:sIx items.size items.size hi≤items.size:=qR8 _ _ (Nat.le_refl _) hi
  obtain⟨os,hos,hcs,hds⟩:=id hs
  have hTs:s.TypeIs (.ref sl) "slice":=⟨os,hos,hcs⟩
  unfold getItem
  try with_reducible refine wpAny_holding ?_
  first | refine wpAny_bind (wpAny_pure ?_) | skip
  refine wpAny_bind (wpAny_sequenceKey ht.typeIs (by decide) ?_)
  refine wpAny_bind (wpAny_callSpecial?_slot (name:=Str.ofString "__getitem__") ht.typeIs PyProof.Rows.slot_tuple_getitem
    (wpAny_call_entry PyProof.Rows.slot_tuple_getitem ht.typeIs entry_tuple_getitem ?_ (args_tuple_getitem _ _)))
  show wpAny _ _ (Builtin.Tuple.tupleItemsOf (.ref t) >>= _) _ _ s
  refine wpAny_bind (tupleItemsOf_ ht ?_)
  refine wpAny_bind (wpAny_typeOf hTs ?_)
  rw [if_pos (by decide)]
  refine wpAny_bind (qC5 hs pl pu ?_)
  have hno:¬ ((((sIx items.size 0 lo:Nat):Int)==0&&(1:Int)==1&&(sIx items.size items.size hi - sIx items.size 0 lo)==items.size)=true):=by
    intro q
    rw [Bool.and_eq_true,Bool.and_eq_true] at q
    have q1:((sIx items.size 0 lo:Nat):Int)=0:=eq_of_beq q.1.1
    have q2:sIx items.size items.size hi - sIx items.size 0 lo=items.size:=eq_of_beq q.2
    exact hw ⟨by lia,by lia⟩
  k_dat 0"r59"
  rw [if_neg hno,qNd]
  first
    | exact wpAny_bind (m:=Builtin.Tuple.tupleExact _) (wpAny_newObj_type (wpAny_pure ⟨_,rfl,wpAny_pure h⟩) htake)
    | exact wpAny_bind (m:=Builtin.Tuple.tupleExact _) (wpAny_newObj_type (wpAny_bind (wpAny_pure (wpAny_pure ⟨_,rfl,wpAny_pure h⟩))) htake)
    | exact wpAny_bind (wpAny_bind (m:=Builtin.Tuple.tupleExact _) (wpAny_newObj_type (wpAny_pure (wpAny_pure ⟨_,rfl,wpAny_pure h⟩)) htake))
    | exact wpAny_bind (wpAny_bind (m:=Builtin.Tuple.tupleExact _) (wpAny_newObj_type (wpAny_pure ⟨_,rfl,wpAny_pure h⟩) htake))
end
end HT
namespace L2
open PySem PySem.Spec PyProof.Rows
noncomputable abbrev TO:=St→Hp→(Option Int→Hp→Prop)→Prop
def PO (X:Cx) (e:Option Expr) (t:TO):Prop :=
  ∀ (pins:List (Addr×Obj)) (s:Shared) (σ:St) (H:Hp) (Q:Option Int→Hp→Prop),Inv X pins σ H s→t σ H Q →
    wpAny (model X.prog X.w) X.A (evalPart e X.env) (fun u s'=>∃ o H',Inv X pins σ H' s'∧IsPart u o∧Q o H') X.xe s
noncomputable def qQf:TO:=fun _ H Q=>Q none H
noncomputable def qUn (t:TE):TO:=fun σ H Q=>t σ H fun x H1=>∃ i,x = .int i∧Q (some i) H1
section
variable {X:Cx} {e:Expr} {te:TE} {lo hi:Option Expr} {tl th:TO} {pos p2:Pos}
theorem qPh:PO X none qQf:=by
  k_dat 0"r2"
  rw [evalPart_none]
  exact wpAny_pure ⟨none,H,I,.none,h⟩
theorem qQS (h:PE X e te):PO X (some e) (qUn te):=by
  intro pins s σ H Q I hw
  rw [evalPart_some]
  refine thn (h pins s σ H _ I hw) fun u s1 hqz=>?_
  k_dat 0"r19"
  obtain⟨i,rfl,q⟩:=q1
  obtain⟨t,rfl⟩:=r1
  exact⟨some i,H1,I1,.int i t,q⟩
def SlR (X:Cx) (r:V→Option Int→Option Int→Hp→VK→Prop):Prop :=
  ∀ (pins:List (Addr×Obj)) (s:Shared) (σ:St) (H:Hp) (x:V) (v vl vu:Value) (lo hi:Option Int) (sl:Addr) (Q:VK),Inv X pins σ H s→RelV x v→s.heap.IsSliceOf sl vl vu .none→IsPart vl lo→IsPart vu hi→r x lo hi H Q →
    ∃ T id,typeLookup (.type T) "__getitem__" = pure (some (.builtin id))∧s.TypeIs v T∧wpAny (model X.prog X.w) X.A (getItem v (.ref sl)) (EP X pins σ Q) X.xe s
theorem SlR.or {r r':V→Option Int→Option Int→Hp→VK→Prop} (h:SlR X r) (h':SlR X r'):SlR X (fun x lo hi H Q=>r x lo hi H Q∨r' x lo hi H Q):=by
  intro pins s σ H x v vl vu lo hi sl Q I rx hs pl pu q
  rcases q with q | q
  · exact h pins s σ H x v vl vu lo hi sl Q I rx hs pl pu q
  · exact h' pins s σ H x v vl vu lo hi sl Q I rx hs pl pu q
noncomputable def tSl (r:V→Option Int→Option Int→Hp→VK→Prop) (te:TE) (tl th:TO):TE:=fun σ H Q=>te σ H fun x H1=>tl σ H1 fun l H2=>th σ H2 fun u H3=>r x l u H3 Q
theorem qKE {r:V→Option Int→Option Int→Hp→VK→Prop} (hr:SlR X r) (he:PE X e te) (hl:PO X lo tl) (hu:PO X hi th):PE X (.Subscript e (.Slice lo hi none p2) pos) (tSl r te tl th):=by
  k_dat 0"r2"
  refine Subscript_ (thn (he pins s σ H _ I h) fun v s1 hqz=>?_)
  k_dat 0"r19"
  refine wpAny_Slice (thn (hl pins s1 σ H1 _ I1 q1) fun vl s2 ⟨l,H2,I2,pl,q2⟩=>thn (hu pins s2 σ H2 _ I2 q2) fun vu s3 hqz=>?_)
  obtain⟨u,H3,I3,pu,q3⟩:=hqz
  rw [evalPart_none]
  k_dat 0"r17"
  have I4:Inv X pins σ H3 { s3 with heap:=s3.heap.push { cls:=.type "slice",data:=.fields #[vl,vu,.none] } }:=I3.kept (t':=s3.toks) fun b ob q=>Heap.get?_push_of_some _ q
  obtain⟨T,id,hT,ht,hg⟩:=hr pins { s3 with heap:=s3.heap.push { cls:=.type "slice",data:=.fields #[vl,vu,.none] } } σ H3 x v vl vu l u s3.heap.objs.size Q I4 r1 (Heap.IsSliceOf.new ..) pl pu q3
  show wpAny (model X.prog X.w) X.A (subscriptTail e (.Slice lo hi none p2) v (.ref s3.heap.objs.size)) (EP X pins σ Q) X.xe { s3 with heap:=s3.heap.push { cls:=.type "slice",data:=.fields #[vl,vu,.none] } }
  exact tail_any (ops:=[.ref s3.heap.objs.size,v]) ht hT hg (by with_unfolding_all rfl)
noncomputable def qF5 (xs:List V) (lo hi:Option Int):List V:=(xs.drop (HT.sIx xs.length 0 lo)).take (HT.sIx xs.length xs.length hi - HT.sIx xs.length 0 lo)
theorem qFh (xs:List V) (lo hi:Option Int):(qF5 xs lo hi).length≤xs.length:=by
  unfold qF5
  rw [List.length_take,List.length_drop]
  lia
noncomputable def qVM (K:W.Frag):V→Option Int→Option Int→Hp→VK→Prop:=fun x lo hi H Q=>∃ a xs,x = .ref a∧SqT K H a xs ∧
  ¬ (HT.sIx xs.length 0 lo=0∧HT.sIx xs.length xs.length hi=xs.length)∧∀ p,H p=none→Q (.ref p) (upd H p (.tup (qF5 xs lo hi)))
theorem qOj:SlR X (qVM X.K):=by
  k_dat 0"r45"
  obtain⟨a,xs,rfl,hx,hw,q⟩:=h
  cases rx
  obtain⟨its,r,ht,hz⟩:=I.tuple hx
  have hlen:its.toArray.size=xs.length:=by rw [List.size_toArray];exact r.length.symm
  refine⟨"tuple",_,PyProof.Rows.slot_tuple_getitem.lookup,ht.typeIs,?_⟩
  refine HT.qEr ht hs pl pu (by rw [hlen];exact hw) ?_ (by rw [hlen];exact hz)
  rw [hlen]
  refine⟨.ref s.heap.objs.size,_,I.laid (t':=s.toks) (o:=.tup (qF5 xs lo hi)) (fun b ob q=>Heap.get?_push_of_some _ q) (Nat.le_refl _) ?_,rfl,q _ (I.hok.fresh (Nat.le_refl _))⟩
  exact⟨Nat.le_trans (qFh xs lo hi) hz,_,(r.drop (HT.sIx xs.length 0 lo)).take (HT.sIx xs.length xs.length hi - HT.sIx xs.length 0 lo),qCH.new _ _⟩
theorem Vals.qEw {xs:List V} {us:List Value} (r:Vals xs us):us=[]↔xs=[]:=by
  cases r with
  | nil=>simp
  | cons _ _=>simp
end
end L2
namespace L2
open PySem PySem.Spec PyProof.Rows
noncomputable def ixN (n:Nat) (i:Int):Option Nat:=if 0≤i then (if i<n then some i.toNat else none) else if -(n:Int)≤i then some (i+n).toNat else none
noncomputable def atI {α:Type} (xs:List α) (i:Int):Option α:=(ixN xs.length i).bind fun j=>xs[j]?
theorem qLu {n:Nat} {i:Int} {j:Nat} (h:ixN n i=some j):seqIndex? i n=some j∧j<n∧-(n:Int)≤i∧i<n:=by
  unfold ixN at h
  by_cases h0:0≤i
  · rw [if_pos h0] at h
    by_cases h1:i<n
    · rw [if_pos h1] at h
      have e:i.toNat=j:=Option.some.inj h
      exact⟨by rw [seqIndex_of h0 h1,e],by lia,by lia,h1⟩
    · rw [if_neg h1] at h;cases h
  · rw [if_neg h0] at h
    by_cases h1:-(n:Int)≤i
    · rw [if_pos h1] at h
      have e:(i+n).toNat=j:=Option.some.inj h
      exact⟨by rw [seqIndex_neg (by lia) h1,e],by lia,h1,by lia⟩
    · rw [if_neg h1] at h;cases h
theorem qJQ {α:Type} {xs:List α} {i:Int} {v:α} (h:atI xs i=some v):∃ j,seqIndex? i xs.length=some j∧xs[j]? = some v∧j<xs.length∧-(xs.length:Int)≤i∧i<xs.length:=by
  unfold atI at h
  cases e:ixN xs.length i with
  | none=>rw [e] at h;cases h
  | some j =>
    rw [e] at h
    obtain⟨h1,h2,h3,h4⟩:=qLu e
    exact⟨j,h1,h,h2,h3,h4⟩
theorem qBQ {α:Type} {xs:List α} {j:Nat} {v:α} (h:xs[j]? = some v):atI xs (j:Int)=some v:=by
  have hj:j<xs.length:=(List.getElem?_eq_some_iff.mp h).1
  have e:ixN xs.length (j:Int)=some j:=by
    unfold ixN
    rw [if_pos (by lia),if_pos (by lia)];simp
  unfold atI;rw [e];exact h
def qL6 (b:Expr):Prop:=∀ o i,subscripted b false o i=operate [o,i] (getItem o i)
def IxR (X:Cx) (r:R2):Prop :=
  ∀ (value slice:Expr) (pins:List (Addr×Obj)) (s:Shared) (σ:St) (H:Hp) (x y:V) (v u:Value) (Q:VK),Inv X pins σ H s→RelV x v→RelV y u→r x y H Q →
    subscripted slice false v u=operate [v,u] (getItem v u)→wpAny (model X.prog X.w) X.A (subscriptTail value slice v u) (EP X pins σ Q) X.xe s
def MtR (X:Cx) (id:String) (r:V→List V→Hp→VK→Prop):Prop :=
  ∀ (pins:List (Addr×Obj)) (s:Shared) (σ:St) (H:Hp) (x:V) (xs:List V) (v:Value) (us:List Value) (Q:VK),Inv X pins σ H s→RelV x v→Vals xs us→r x xs H Q →
    wpAny (model X.prog X.w) X.A (call (.builtin id) (v::us)) (EP X pins σ Q) X.xe s
section
variable {X:Cx} {a b:Expr} {ta tb:TE} {pos:Pos}
theorem IxR.or {r r':R2} (h:IxR X r) (h':IxR X r'):IxR X (fun x y H Q=>r x y H Q∨r' x y H Q):=by
  intro value slice pins s σ H x y v u Q I rx ry q hs
  rcases q with q | q
  · exact h value slice pins s σ H x y v u Q I rx ry q hs
  · exact h' value slice pins s σ H x y v u Q I rx ry q hs
theorem qVC {r:R2} (hr:IxR X r) (ha:PE X a ta) (hb:PE X b tb) (hs:qL6 b):PE X (.Subscript a b pos) (tOp r ta tb):=by
  k_dat 0"r2"
  exact Subscript_ (qR0 ha hb I h fun v u s2 x y H2 I2 rx ry q=>hr a b pins s2 σ H2 x y v u Q I2 rx ry q (hs _ _))
noncomputable def qUA (K:W.Frag):R2:=fun x y H Q=>∃ p xs i v,x = .ref p∧y = .int i∧SqL K H p xs∧atI xs i=some v∧Q v H
noncomputable def qUm (K:W.Frag):R2:=fun x y H Q=>∃ p xs i v,x = .ref p∧y = .int i∧SqT K H p xs∧atI xs i=some v∧Q v H
noncomputable def qU2:R2:=fun x y H Q=>∃ z i c,x = .str z∧y = .int i∧z.length≤sizeLine∧atI z.cps.toList i=some c∧Q (.str ⟨#[c]⟩) H
theorem qPp:IxR X (qUA X.K):=by
  k_dat 0"r46"
  obtain⟨p,xs,i,z,rfl,rfl,hq,he,q⟩:=h
  cases rx
  obtain⟨t,rfl⟩:=ry
  obtain⟨its,r,pl,hz⟩:=I.list hq
  obtain⟨j,h1,h2,h3,h4,h5⟩:=qJQ he
  obtain⟨w,ew,rw'⟩:=r.get h2
  have hl:=r.length
  have hn:=qER
  have fin:EP X pins σ Q w s:=⟨z,H,I,rw',q⟩
  by_cases h0:0≤i
  · have hj:i.toNat=j:=by
      rw [seqIndex_of h0 h5] at h1
      exact Option.some.inj h1
    exact item_listR pl.isList h0 (by lia) (by rw [hj];simpa using ew) fin hs
  · have hj:(i+(its.toArray.size:Int)).toNat=j:=by
      rw [seqIndex_neg (by lia) h4] at h1
      rw [List.size_toArray,← hl]
      exact Option.some.inj h1
    exact subscriptTail_builtinR (x:=w) pl.isList.typeIs slot_list_getitem.lookup
      (wpAny_getItem_list_neg (Q:=fun r s'=>r=w∧EP X pins σ Q r s') pl.isList (by lia) (by rw [List.size_toArray]<;>lia) (by lia) (by rw [hj];simpa using ew) ⟨rfl,fin⟩) hs
theorem qSp:IxR X (qUm X.K):=by
  k_dat 0"r46"
  obtain⟨p,xs,i,z,rfl,rfl,hq,he,q⟩:=h
  cases rx
  obtain⟨t,rfl⟩:=ry
  obtain⟨its,r,pl,hz⟩:=I.tuple hq
  obtain⟨j,h1,h2,h3,h4,h5⟩:=qJQ he
  obtain⟨w,ew,rw'⟩:=r.get h2
  have hl:=r.length
  have hn:=qER
  have fin:EP X pins σ Q w s:=⟨z,H,I,rw',q⟩
  exact subscriptTail_builtinR (x:=w) pl.typeIs slot_tuple_getitem.lookup
    (getItem_tuple (j:=j) (Q:=fun r s'=>r=w∧EP X pins σ Q r s') pl (by lia) (by lia) (by rw [List.size_toArray,← hl];exact h1) (by simpa using ew) ⟨rfl,fin⟩) hs
theorem qSI:IxR X qU2:=by
  k_dat 0"r46"
  obtain⟨z,i,c,rfl,rfl,hz,he,q⟩:=h
  k_dat 0"r20"
  obtain⟨t',rfl⟩:=ry
  obtain⟨j,h1,h2,h3,h4,h5⟩:=qJQ he
  have hl:z.cps.toList.length=z.length:=by simp [Str.length]
  rw [hl] at h1 h4 h5
  have hn:=qER
  exact tail_any (typeIs_str s z t) slot_str_getitem.lookup (getItem_str (c:=c) (by
    have e1:decide (i < -(2 ^ 63:Int))=false:=decide_eq_false (by lia)
    have e2:decide (i ≥ 2 ^ 63)=false:=decide_eq_false (by lia)
    rw [e1,e2,Bool.or_false]) (by rw [h1];simpa using h2) ⟨.str ⟨#[c]⟩,H,I.tok _,⟨_,rfl⟩,q⟩) hs
noncomputable def rIx (K:W.Frag):R2:=fun x y H Q=>qUA K x y H Q∨qUm K x y H Q∨qU2 x y H Q
theorem qNU:IxR X (rIx X.K):=qPp.or (qSp.or qSI)
theorem qKm (its:List Value) (n j:Nat) (u:Value):Obj.mapSeq (·.setIfInBounds j u) { cls:=.type "list",data:=.seq its.toArray n }={ cls:=.type "list",data:=.seq (its.set j u).toArray n }:=by
  simp [Obj.mapSeq]
theorem Inv.lst {pins:List (Addr×Obj)} {σ:St} {H:Hp} {s:Shared} {p:Addr} {xs:List V} (I:Inv X pins σ H s) (h:H p=some (.lst xs)) :
    ∃ (its:List Value) (n:Nat),Vals xs its∧s.heap.get? p=some { cls:=.type "list",data:=.seq its.toArray n }∧xs.length≤sizeLine:=by
  obtain⟨z,its,n,r,e⟩:=I.hok p _ h
  exact⟨its,n,r,e,z⟩
theorem Inv.qTH {pins:List (Addr×Obj)} {σ:St} {H:Hp} {s:Shared} {p:Addr} {xs ys:List V} {its its':List Value} {n n':Nat} {f:Obj→Obj} (I:Inv X pins σ H s) (h:H p=some (.lst xs))
    (ho:s.heap.get? p=some { cls:=.type "list",data:=.seq its.toArray n }) (hf:f { cls:=.type "list",data:=.seq its.toArray n }={ cls:=.type "list",data:=.seq its'.toArray n' }) (r:Vals ys its') (hz:ys.length≤sizeLine) (t:Nat) :
    Inv X pins σ (upd H p (.lst ys)) { s with heap:=s.heap.update p f,toks:=t }:=by
  have e:(s.heap.update p f).get? p=some { cls:=.type "list",data:=.seq its'.toArray n' }:=by
    rw [Heap.get?_update_self f ho (by rw [hf]<;>rfl),hf]
  refine I.write (x:=p) (e:=p) (by rw [h];trivial) (.inl rfl) (fun b u hb q=>(Heap.get?_update_other _ _ (Ne.symm hb)).trans q) ⟨_,e⟩ ?_
  exact⟨hz,its',n',r,e⟩
noncomputable def qUD:V→V→V→Hp→(Hp→Prop)→Prop:=fun o i v H Q=>∃ p xs k j,o = .ref p∧i = .int k∧H p=some (.lst xs)∧ixN xs.length k=some j∧Q (upd H p (.lst (xs.set j v)))
theorem set_list:qUL X qUD:=by
  intro pins s σ H o i v ov iv u Q I ro ri rv h
  obtain⟨p,xs,k,j,rfl,rfl,hp,hj,q⟩:=h
  cases ro
  obtain⟨t,rfl⟩:=ri
  obtain⟨its,n,r,ho,hz⟩:=I.lst hp
  obtain⟨h1,h2,h3,h4⟩:=qLu hj
  have hl:=r.length
  have hn:=qER
  have I':Inv X pins σ (upd H p (.lst (xs.set j v))) { s with heap:=s.heap.update p (Obj.mapSeq (·.setIfInBounds j u)) } :=
    I.qTH hp ho (qKm its n j u) (r.set rv j) (by rw [List.length_set];exact hz) s.toks
  by_cases h0:0≤k
  · have hk:k.toNat=j:=by
      rw [seqIndex_of h0 h4] at h1
      exact Option.some.inj h1
    exact W.ki_setAt ho h0 (by lia) (by rw [List.size_toArray,← hl];exact h4) (by rw [hk];exact⟨_,I',q⟩)
  · have hk:(k+(its.toArray.size:Int)).toNat=j:=by
      rw [seqIndex_neg (by lia) h3] at h1
      rw [List.size_toArray,← hl]
      exact Option.some.inj h1
    exact W.ki_setBack ho (by lia) (by rw [List.size_toArray,← hl];exact h3) (by lia) (by rw [hk];exact⟨_,I',q⟩)
theorem qIv (lo hi:Option Int) (n:Nat):(sliceBounds lo hi none n).1=((HT.sIx n 0 lo:Nat):Int)∧(sliceBounds lo hi none n).2.1=((HT.sIx n n hi:Nat):Int)∧(sliceBounds lo hi none n).2.2=1:=by
  refine⟨?_,?_,rfl⟩
  · cases lo with
    | none=>simp [sliceBounds,HT.sIx]
    | some i =>
      simp only [sliceBounds,HT.sIx,Option.getD_none,show (1:Int) > 0 by decide,if_true]
      by_cases h:i<0
      · simp only [h,if_true]<;>lia
      · simp only [h,if_false]<;>lia
  · cases hi with
    | none=>simp [sliceBounds,HT.sIx]
    | some i =>
      simp only [sliceBounds,HT.sIx,Option.getD_none,show (1:Int) > 0 by decide,if_true]
      by_cases h:i<0
      · simp only [h,if_true]<;>lia
      · simp only [h,if_false]<;>lia
theorem qHs (its:List Value) (lo hi:Option Int):slicePick its.toArray lo hi none=((its.drop (HT.sIx its.length 0 lo)).take (HT.sIx its.length its.length hi - HT.sIx its.length 0 lo)).toArray:=by
  obtain⟨h1,h2,h3⟩:=qIv lo hi its.toArray.size
  unfold slicePick
  rw [h1,h2,h3]
  simp only [sliceRange_one,pick_run,List.size_toArray]<;>rfl
noncomputable def qVy (K:W.Frag):V→Option Int→Option Int→Hp→VK→Prop:=fun x lo hi H Q=>∃ a xs,x = .ref a∧SqL K H a xs∧∀ p,H p=none→Q (.ref p) (upd H p (.lst (qF5 xs lo hi)))
theorem qLd:SlR X (qVy X.K):=by
  k_dat 0"r45"
  obtain⟨a,xs,rfl,hx,q⟩:=h
  cases rx
  obtain⟨its,r,ht,hz⟩:=I.list hx
  have hlen:=r.length
  refine⟨"list",_,slot_list_getitem.lookup,ht.isList.typeIs,?_⟩
  refine wpAny_getItem_list_slice ht.isList hs pl pu .none (by simp) ?_ (by rw [List.size_toArray]<;>lia)
  rw [qHs,← hlen]
  refine⟨.ref s.heap.objs.size,_,I.laid (t':=s.toks) (o:=.lst (qF5 xs lo hi)) (fun b ob q=>Heap.get?_push_of_some _ q) (Nat.le_refl _) ?_,rfl,q _ (I.hok.fresh (Nat.le_refl _))⟩
  exact⟨Nat.le_trans (qFh xs lo hi) hz,_,0,(r.drop (HT.sIx xs.length 0 lo)).take (HT.sIx xs.length xs.length hi - HT.sIx xs.length 0 lo),Heap.get?_push_size _ rfl⟩
noncomputable def qD7:V→Bool
  | .non=>true
  | .bl _=>true
  | .int _=>true
  | .str _=>true
  | _=>false
noncomputable def eqV:V→V→Bool
  | .non,.non=>true
  | .bl a,.bl b=>a==b
  | .bl a,.int b=>(if a then 1 else 0)==b
  | .int a,.bl b=>a==(if b then 1 else 0)
  | .int a,.int b=>a==b
  | .str a,.str b=>a==b
  | _,_=>false
theorem qS4 {A:Around} {s:Shared} {y x:V} {u v:Value} (ry:RelV y u) (rx:RelV x v) (fy:qD7 y=true) (fx:qD7 x=true):SeqAt.EqAt A s u v (eqV y x):=by
  cases y with
  | non =>
    cases ry
    cases x with
    | non=>cases rx;exact SeqAt.EqAt.same _
    | bl b=>cases rx;exact SeqAt.EqAt.none_bool b
    | int b=>obtain⟨t,rfl⟩:=rx;exact SeqAt.EqAt.none_int b t
    | str b=>obtain⟨t,rfl⟩:=rx;exact SeqAt.EqAt.none_str b t
    | _=>exact absurd (show false=true from fx) Bool.false_ne_true
  | bl a =>
    cases ry
    cases x with
    | non=>cases rx;exact SeqAt.EqAt.bool_none a
    | bl b=>cases rx;exact SeqAt.EqAt.bool_bool a b
    | int b=>obtain⟨t,rfl⟩:=rx;exact SeqAt.EqAt.bool_int a b t
    | str b=>obtain⟨t,rfl⟩:=rx;exact SeqAt.EqAt.bool_str a b t
    | _=>exact absurd (show false=true from fx) Bool.false_ne_true
  | int a =>
    obtain⟨t',rfl⟩:=ry
    cases x with
    | non=>cases rx;exact SeqAt.EqAt.int_none a t'
    | bl b=>cases rx;exact SeqAt.EqAt.int_bool a t' b
    | int b=>obtain⟨t,rfl⟩:=rx;exact SeqAt.EqAt.int_int a t' b t
    | str b=>obtain⟨t,rfl⟩:=rx;exact SeqAt.EqAt.int_str a t' b t
    | _=>exact absurd (show false=true from fx) Bool.false_ne_true
  | str a =>
    obtain⟨t',rfl⟩:=ry
    cases x with
    | non=>cases rx;exact SeqAt.EqAt.str_none a t'
    | bl b=>cases rx;exact SeqAt.EqAt.str_bool a t' b
    | int b=>obtain⟨t,rfl⟩:=rx;exact SeqAt.EqAt.str_int a t' b t
    | str b=>obtain⟨t,rfl⟩:=rx;exact SeqAt.EqAt.str_str a t' b t
    | _=>exact absurd (show false=true from fx) Bool.false_ne_true
  | _=>exact absurd (show false=true from fy) Bool.false_ne_true
noncomputable def eqU (x:V) (u:Value):Bool:=match u with
  | .none=>eqV .non x
  | .bool b=>eqV (.bl b) x
  | .int i _=>eqV (.int i) x
  | .str z _=>eqV (.str z) x
  | _=>false
theorem qN8 {x y:V} {u:Value} (r:RelV y u) (f:qD7 y=true):eqU x u=eqV y x:=by
  cases y with
  | non=>cases r;rfl
  | bl b=>cases r;rfl
  | int i=>obtain⟨t,rfl⟩:=r;rfl
  | str z=>obtain⟨t,rfl⟩:=r;rfl
  | _=>exact absurd (show false=true from f) Bool.false_ne_true
theorem qIb {x:V}:∀ {xs:List V} {us:List Value},Vals xs us→xs.all qD7=true→us.any (eqU x)=xs.any fun y=>eqV y x
  | _,_,.nil,_=>rfl
  | y::xs,u::us,.cons r t,f=>by
    rw [List.all_cons,Bool.and_eq_true] at f
    rw [List.any_cons,List.any_cons,qN8 r f.1,qIb t f.2]
theorem qGY {A:Around} {s:Shared} {x:V} {v:Value} (rx:RelV x v) (fx:qD7 x=true):∀ {xs:List V} {us:List Value},Vals xs us→xs.all qD7=true→∀ u∈us,SeqAt.EqAt A s u v (eqU x u)
  | _,_,.nil,_=>fun u hu=>by cases hu
  | y::xs,u::us,.cons r t,f=>fun u' hu=>by
    rw [List.all_cons,Bool.and_eq_true] at f
    rcases List.mem_cons.mp hu with rfl | hu
    · rw [qN8 r f.1];exact qS4 r rx f.1 fx
    · exact qGY rx fx t f.2 u' hu
noncomputable def inV (x:V) (xs:List V):Bool:=xs.any fun y=>eqV y x
noncomputable def rIn (K:W.Frag) (neg:Bool):R2:=fun x y H Q=>∃ p xs,y = .ref p∧(SqL K H p xs∨SqT K H p xs)∧qD7 x=true∧xs.all qD7=true∧Q (.bl (if neg then !inV x xs else inV x xs)) H
theorem qMP:OpR X (compareOp .In) (rIn X.K false):=by
  k_dat 0"r16"
  obtain⟨p,xs,rfl,hq,fx,fs,q⟩:=h
  cases ry
  rcases hq with hq | hq
  · obtain⟨its,r,pl,hz⟩:=I.list hq
    refine SeqAt.in_listAt (eqU x) pl.isList (fun w hw=>qGY rx fx r fs w (by simpa using hw)) ⟨.bl _,H,I,rfl,?_⟩
    rw [show its.toArray.any (eqU x)=its.any (eqU x) by simp,qIb r fs]
    exact q
  · obtain⟨its,r,pl,hz⟩:=I.tuple hq
    refine SeqAt.in_tupleAt (eqU x) pl (fun w hw=>qGY rx fx r fs w (by simpa using hw)) ⟨.bl _,H,I,rfl,?_⟩
    rw [show its.toArray.any (eqU x)=its.any (eqU x) by simp,qIb r fs]
    exact q
theorem qJa:qEA X (.builtin "len") (fun xs H Q=>∃ p ys,xs=[.ref p]∧(SqL X.K H p ys∨SqT X.K H p ys)∧Q (.int ys.length) H):=by
  k_dat 0"r24"
  obtain⟨p,ys,rfl,hq,q⟩:=h
  obtain⟨u,rfl,rx⟩:=vals1 r
  cases rx
  have hn:=qER
  rcases hq with hq | hq
  · obtain⟨its,r',pl,hz⟩:=I.list hq
    have hlen:=r'.length
    exact Calls.call_len_list pl.isList (by simp only [List.size_toArray]<;>lia) ⟨.int ys.length,H,I.tok _,⟨s.toks+1,by rw [List.size_toArray,hlen]⟩,q⟩
  · obtain⟨its,r',pl,hz⟩:=I.tuple hq
    have hlen:=r'.length
    exact len_tuple pl (by simp only [List.size_toArray]<;>lia) ⟨.int ys.length,H,I.tok _,⟨s.toks+1,by rw [List.size_toArray,hlen]⟩,q⟩
theorem qIg:qEA X (.builtin "len") (fun xs H Q=>∃ z,xs=[.str z]∧z.length≤sizeLine∧Q (.int z.length) H):=by
  k_dat 0"r24"
  obtain⟨z,rfl,hz,q⟩:=h
  obtain⟨u,rfl,t,rfl⟩:=vals1 r
  have hn:=qER
  exact len_str (by lia) ⟨.int z.length,H,I.tok _,⟨_,rfl⟩,q⟩
theorem qIl:qEA X (.type "list") (fun xs H Q=>∃ p ys,xs=[.ref p]∧(SqL X.K H p ys∨SqT X.K H p ys)∧∀ l,H l=none→Q (.ref l) (upd H l (.lst ys))):=by
  k_dat 0"r24"
  obtain⟨p,ys,rfl,hq,q⟩:=h
  obtain⟨u,rfl,rx⟩:=vals1 r
  cases rx
  have fin:∀ (its:List Value),Vals ys its→ys.length≤sizeLine→∀ (h':Heap) (c':Nat),(∀ b o',s.heap.get? b=some o'→h'.get? b=some o') →
      h'.get? s.heap.objs.size=some { cls:=.type "list",dict:=none,data:=.seq its.toArray c',slots:=#[] }→EP X pins σ Q (.ref s.heap.objs.size) { s with heap:=h' }:=fun its r' hz h' c' kp e =>
    ⟨.ref s.heap.objs.size,_,I.laid (t':=s.toks) kp (Nat.le_refl _) (show qBH X.K X.prog X.w _ h' _ (.lst ys) from⟨hz,its,c',r',e⟩),rfl,q _ (I.hok.fresh (Nat.le_refl _))⟩
  rcases hq with hq | hq
  · obtain⟨its,r',pl,hz⟩:=I.list hq
    have hlen:=r'.length
    obtain⟨o,ho,hc,n,hd⟩:=pl.isList
    exact call_list_seq p (.inl rfl) ho hc hd (fun h' c' kp e=>fin its r' hz h' c' kp e) (by simp only [List.size_toArray]<;>lia)
  · obtain⟨its,r',pl,hz⟩:=I.tuple hq
    have hlen:=r'.length
    obtain⟨o,ho,hc,n,hd⟩:=pl
    exact call_list_seq p (.inr rfl) ho hc hd (fun h' c' kp e=>fin its r' hz h' c' kp e) (by simp only [List.size_toArray]<;>lia)
theorem qHu:qEA X (.type "tuple") (fun xs H Q=>∃ p ys,xs=[.ref p]∧((SqL X.K H p ys∧∀ l,H l=none→Q (.ref l) (upd H l (.tup ys)))∨(SqT X.K H p ys∧Q (.ref p) H))):=by
  k_dat 0"r24"
  obtain⟨p,ys,rfl,h⟩:=h
  obtain⟨u,rfl,rx⟩:=vals1 r
  cases rx
  rcases h with ⟨hq,q⟩ | ⟨hq,q⟩
  · obtain⟨its,r',pl,hz⟩:=I.list hq
    have hlen:=r'.length
    refine call_tuple_list pl.isList (fun h' kp=>?_) (by simp only [List.size_toArray]<;>lia)
    have I1:Inv X pins σ H { s with heap:=h' }:=I.kept (t':=s.toks) kp
    have I2:Inv X pins σ (upd H h'.objs.size (.tup ys)) { s with heap:=h'.push { cls:=.type "tuple",data:=.seq its.toArray } } :=
      I1.laid (t':=s.toks) (fun b o e=>Heap.get?_push_of_some _ e) (Nat.le_refl _) (show qBH X.K X.prog X.w _ _ _ (.tup ys) from⟨hz,its,r',qCH.new _ _⟩)
    exact⟨.ref h'.objs.size,_,I2,rfl,q _ (I1.hok.fresh (Nat.le_refl _))⟩
  · obtain⟨its,r',pl,hz⟩:=I.tuple hq
    exact call_tuple_same pl ⟨.ref p,H,I,rfl,q⟩
def tyV (K:W.Frag) (T:String) (x:V) (H:Hp):Prop:=match x with
  | .str _=>T = "str"
  | .int _=>T = "int"
  | .ref p=>(T = "list" ∧ ∃ xs,SqL K H p xs)∨(T = "tuple" ∧ ∃ o,K.lookup p=some o∧o.cls = .type "tuple" ∧ o.dict=none) ∨
      (T = "dict" ∧ ((∃ kvs,H p=some (.dK kvs))∨∃ kvs,H p=some (.dT kvs)))∨(T = "set" ∧ ∃ S n,H p=some (.set S n))
  | _=>False
theorem qO8 {pins:List (Addr×Obj)} {σ:St} {H:Hp} {s:Shared} {T:String} {x:V} {v:Value} (I:Inv X pins σ H s) (r:RelV x v) (ty:tyV X.K T x H) :
    s.TypeIs v T∧∀ a,v = .ref a→∃ ob,s.heap.get? a=some ob∧ob.dict=none:=by
  cases x with
  | str z =>
    obtain⟨t,rfl⟩:=r
    cases (show T = "str" from ty)
    exact⟨typeIs_str s z t,fun _ e=>nomatch e⟩
  | int i =>
    obtain⟨t,rfl⟩:=r
    cases (show T = "int" from ty)
    exact⟨typeIs_int s i t,fun _ e=>nomatch e⟩
  | ref p =>
    cases r
    rcases ty with ⟨rfl,xs,hq⟩ | ⟨rfl,o,hk,hc,hd⟩ | ⟨rfl,hk⟩ | ⟨rfl,S,n,hk⟩
    · obtain⟨its,_,pl,_⟩:=I.list hq
      refine⟨pl.isList.typeIs,fun a e=>?_⟩
      cases e
      obtain⟨o,n,e,c,hd,_⟩:=pl
      exact⟨o,e,hd⟩
    · refine⟨⟨o,I.kIn p o hk,hc⟩,fun a e=>?_⟩
      cases e
      exact⟨o,I.kIn _ o hk,hd⟩
    · have z:∃ o,s.heap.get? p=some o∧o.ExactDict:=by
        rcases hk with ⟨kvs,hk⟩ | ⟨kvs,hk⟩
        · obtain⟨_,_,_,_,o,_,_,e,ex,_⟩:=I.hok p _ hk
          exact⟨o,e,ex⟩
        · obtain⟨_,_,_,_,o,_,_,e,ex,_⟩:=I.hok p _ hk
          exact⟨o,e,ex⟩
      obtain⟨o,e,ex⟩:=z
      refine⟨⟨o,e,ex.1⟩,fun a e2=>?_⟩
      cases e2
      exact⟨o,e,ex.2.1⟩
    · obtain⟨o,_,_,_,e,ex,_⟩:=I.hok p _ hk
      refine⟨⟨o,e,ex.1⟩,fun a e2=>?_⟩
      cases e2
      exact⟨o,e,ex.2.1⟩
  | _=>exact False.elim ty
noncomputable def tBM (K:W.Frag) (T:String) (r:V→List V→Hp→VK→Prop) (to:TE) (t:TA):TE:=fun σ H Q=>to σ H fun x H1=>tyV K T x H1∧t σ H1 fun xs H2=>r x xs H2 Q
variable {o e:Expr} {es:List Expr} {to:TE} {t:TA} {name:Str} {apos cpos:Pos} {T id:String} {r:V→List V→Hp→VK→Prop}
theorem qRl (pa:PlainAttrs T) (slot:Slot T name id) (hty:typeOf (.builtin id)=pure (.type "method_descriptor")) (hm:MtR X id r) (ho:PE X o to) (ha:PA X (e::es) t)
    (hbase:attributeBase o name X.env (eval o X.env)=eval o X.env:=by rfl)
    (hfew:((backTo cpos (starEach (e::es) X.env)).all (fun x=>!x.1)&&(backToKw cpos (keywordEach [] X.env)).all (fun x=>x.1.isSome)
      && decide ((e::es).length+([]:List Keyword).length+(if ([]:List Keyword).isEmpty then 0 else 1)<30))=true:=by rfl)
    (hline:(apos.endLine==cpos.line)=true:=by rfl) (hs:starEach (e::es) X.env=(false,eval e X.env)::starEach es X.env:=by rfl) (hplain:(backTo cpos (starEach es X.env)).any (·.1)=false:=by rfl) :
    PE X (.Call (.Attribute o name apos) (e::es) [] cpos) (tBM X.K T r to t):=by
  k_dat 0"r2"
  refine wpAny_Call_method_late hbase hfew hline rfl (thn (ho pins s σ H _ I h) fun v s1 hqz=>?_)
  obtain⟨x,H1,I1,r1,ty,q1⟩:=hqz
  obtain⟨h1,h2⟩:=qO8 I1 r1 ty
  refine⟨T,id,pa,slot,hty,h1,h2,?_⟩
  have hA:=ha cpos pins s1 σ H1 _ I1 q1
  rw [hs] at hA ⊢
  refine Calls.callWith_builtin (by show (false || (backTo cpos (starEach es X.env)).any (·.1))=false;rw [hplain]<;>rfl) (Calls.evalArgs_plain ?_)
  exact thn hA fun us s2 ⟨vs,H2,I2,r2,q2⟩=>hm pins s2 σ H2 x vs v us Q I2 r1 r2 q2
end
end L2
namespace L2
open PySem PySem.Spec PyProof.Rows
def MtM (X:Cx) (id:String) (r:V→List V→Hp→VK→Prop):Prop :=
  ∀ (pins:List (Addr×Obj)) (s:Shared) (σ:St) (H:Hp) (x:V) (xs:List V) (v:Value) (us:List Value) (Q:VK),Inv X pins σ H s→RelV x v→Vals xs us→r x xs H Q →
    wpAny (model X.prog X.w) X.A (call (.builtin id) (v::us)) (EP X pins σ Q) X.xe s
theorem Vals.one {x:V} {us:List Value} (h:Vals [x] us):∃ u,us=[u]∧RelV x u:=by
  cases h with
  | cons r t=>cases t;exact⟨_,rfl,r⟩
theorem Vals.zero:∀ {us:List Value},Vals [] us→us=[]
  | _,.nil=>rfl
theorem Vals.rep {xs:List V} {us:List Value} (h:Vals xs us):∀ k:Nat,Vals (List.replicate k xs).flatten (List.replicate k us).flatten
  | 0=>.nil
  | k+1=>by
    rw [List.replicate_succ,List.replicate_succ,List.flatten_cons,List.flatten_cons]
    exact Vals.append h (Vals.rep h k)
theorem foldl_rep (its:List Value):∀ (k:Nat) (acc:List Value),
    List.foldl (fun x1 x2=>x1++x2) acc.toArray (List.replicate k its.toArray)=(acc++(List.replicate k its).flatten).toArray
  | 0,acc=>by simp
  | k + 1,acc=>by
    have e:acc.toArray++its.toArray=(acc++its).toArray:=by simp
    have e2:(acc++its)++(List.replicate k its).flatten=acc++(List.replicate (k+1) its).flatten:=by
      rw [List.replicate_succ,List.flatten_cons,List.append_assoc]
    rw [← e2,← foldl_rep its k (acc++its),← e,List.replicate_succ,List.foldl_cons]
section
variable {X:Cx} {pins:List (Addr×Obj)} {σ:St} {H:Hp} {s:Shared} {l b:Addr} {xs ys zs:List V}
theorem Inv.qUq {its its':List Value} {n:Nat} {f:Array Value→Array Value} {t':Nat} (I:Inv X pins σ H s) (hH:H l=some (.lst xs))
    (e:s.heap.get? l=some { cls:=.type "list",data:=.seq its.toArray n }) (hf:f its.toArray=its'.toArray) (hv:Vals ys its') (hz:ys.length≤sizeLine) :
    Inv X pins σ (upd H l (.lst ys)) { s with heap:=s.heap.update l (Obj.mapSeq f),toks:=t' }:=by
  have q:=PySem.IsL.update e f
  rw [hf] at q
  refine I.write (x:=l) (e:=l) (by rw [hH];exact trivial) (.inl rfl) (fun b' u hb hu=>(Heap.get?_update_other s.heap (Obj.mapSeq f) (Ne.symm hb)).trans hu) ⟨_,q⟩ ?_
  exact⟨hz,its',_,hv,q⟩
theorem Inv.qUf {its:List Value} {t':Nat} (I:Inv X pins σ H s) (hv:Vals ys its) (hz:ys.length≤sizeLine) :
    Inv X pins σ (upd H s.heap.objs.size (.lst ys)) { s with heap:=s.heap.push { cls:=.type "list",data:=.seq its.toArray },toks:=t' } :=
  I.laid (fun _ _ q=>Heap.get?_push_of_some _ q) (Nat.le_refl _) ⟨hz,its,0,hv,Heap.get?_push_size _ rfl⟩
theorem Inv.fresh (I:Inv X pins σ H s):H s.heap.objs.size=none:=I.hok.fresh (Nat.le_refl _)
theorem Inv.qNr (I:Inv X pins σ H s) (hH:H l=some (.lst xs)):xs.length≤sizeLine∧∃ (its:List Value) (n:Nat),Vals xs its∧xs.length=its.length∧s.heap.get? l=some { cls:=.type "list",data:=.seq its.toArray n }:=by
  obtain⟨z,its,n,r,e⟩:=I.hok l _ hH
  exact⟨z,its,n,r,r.length,e⟩
theorem qKT {n:Nat} (h:n≤sizeLine):Builtin.List.listTooLong n=false:=by
  unfold Builtin.List.listTooLong
  exact decide_eq_false (by lia)
end
section
variable {X:Cx}
noncomputable def qPg:V→List V→Hp→VK→Prop:=fun x vs H Q=>∃ l xs y,x = .ref l∧vs=[y]∧H l=some (.lst xs)∧xs.length<sizeLine∧Q .non (upd H l (.lst (xs++[y])))
theorem qMs:MtM X "list.append" qPg:=by
  intro pins s σ H x vs v us Q I rx rv h
  obtain⟨l,xs,y,rfl,rfl,hH,hz,q⟩:=h
  cases rx
  obtain⟨u,rfl,ru⟩:=rv.one
  obtain⟨z,its,n,r,hl,e⟩:=I.qNr hH
  refine call_meets F.slot_list_append ⟨_,e,rfl⟩ F.entry_list_append (F.args_list_append_2 _ _) (PySem.list_append l its.toArray n u (by rw [List.size_toArray];lia)) ⟨e,?_⟩
  refine⟨.non,_,I.qUq (its':=its++[u]) hH e (by simp) (r.append (.cons ru .nil)) ?_,rfl,q⟩
  rw [List.length_append,List.length_singleton]
  lia
noncomputable def qVj:R2:=fun x y H Q=>∃ l b xs zs,x = .ref l∧y = .ref b∧H l=some (.lst xs)∧H b=some (.lst zs)∧xs.length+zs.length≤sizeLine∧∀ p,H p=none→Q (.ref p) (upd H p (.lst (xs++zs)))
theorem qTp:OpR X (binaryOp .Add) qVj:=by
  k_dat 0"r16"
  obtain⟨l,b,xs,zs,rfl,rfl,hH,hB,hz,q⟩:=h
  cases rx
  cases ry
  obtain⟨z,its,n,r,hl,e⟩:=I.qNr hH
  obtain⟨z2,its2,n2,r2,hl2,e2⟩:=I.qNr hB
  refine PySem.P.add_list e e2 ?_ (by rw [List.size_toArray,List.size_toArray];lia)
  have ea:its.toArray++its2.toArray=(its++its2).toArray:=by simp
  rw [ea]
  exact⟨.ref _,_,I.qUf (t':=s.toks) (r.append r2) (by rw [List.length_append];lia),rfl,q _ I.fresh⟩
noncomputable def qVv:R2:=fun x y H Q=>∃ l k xs,x = .ref l∧y = .int k∧H l=some (.lst xs)∧-(2 ^ 63)≤k∧k<2 ^ 63∧xs.length * k.toNat≤sizeLine ∧
  ∀ p,H p=none→Q (.ref p) (upd H p (.lst (List.replicate k.toNat xs).flatten))
theorem len_rep {α:Type} (xs:List α) (k:Nat):(List.replicate k xs).flatten.length=k * xs.length:=by
  induction k with
  | zero=>simp
  | succ k ih=>rw [List.replicate_succ,List.flatten_cons,List.length_append,ih,Nat.succ_mul,Nat.add_comm]
theorem qSq:OpR X (binaryOp .Mult) qVv:=by
  k_dat 0"r16"
  obtain⟨l,k,xs,rfl,rfl,hH,h1,h2,hz,q⟩:=h
  cases rx
  obtain⟨t,rfl⟩:=ry
  obtain⟨z,its,n,r,hl,e⟩:=I.qNr hH
  have hlen:its.toArray.size * k.toNat≤sizeLine:=by rw [List.size_toArray,← hl];exact hz
  have hcap:¬ its.toArray.size * k.toNat > (2 ^ 63 - 1) / 8:=by
    have:(sizeLine:Nat)≤(2 ^ 63 - 1) / 8:=by decide
    lia
  have hfit:¬ (!Builtin.List.listFitsIndex k)=true:=by
    rw [fitsIndex_both h1 h2]
    exact Bool.false_ne_true
  have hlong:¬ Builtin.List.listTooLong (its.toArray.size * k.toNat)=true:=by
    rw [qKT hlen]
    exact Bool.false_ne_true
  have hnew:List.foldl (fun x1 x2=>x1++x2) #[] (List.replicate (if its.toArray.isEmpty=true then 0 else k.toNat) its.toArray)=(List.replicate k.toNat its).flatten.toArray:=by
    have f0:∀ m:Nat,List.foldl (fun x1 x2=>x1++x2) #[] (List.replicate m its.toArray)=(List.replicate m its).flatten.toArray:=fun m=>by
      have:=foldl_rep its m []
      rw [List.nil_append] at this
      exact this
    rw [f0]
    cases its with
    | nil=>simp
    | cons a r'=>rw [if_neg (by simp)]
  refine wpAny_binaryOp_repeat_ref (T:= "list") (U:= "int") (by decide) ⟨_,e,rfl⟩ (fun s'=>typeIs_int s' k t) noFill_list_mul F.fills_int_mul F.slot_int_rmul repeat_list F.slot_int_index.lookup
    (call_meets F.slot_int_rmul (typeIs_int s k t) F.entry_int_rmul (F.args_int_rmul_2 _ _) (int___rmul___int_list k t l its.toArray n)
      ⟨e,rfl,⟨_,e,rfl⟩,call_meets F.slot_list_mul ⟨_,e,rfl⟩ F.entry_list_mul (F.args_list_mul_2 _ _) (AutoListH.list___mul___list_int_3 l its.toArray n k t hfit hcap hlong) ⟨e,?_⟩⟩)
  rw [hnew]
  exact⟨.ref _,_,I.qUf (t':=s.toks) (r.rep k.toNat) (by rw [len_rep,Nat.mul_comm];exact hz),rfl,q _ I.fresh⟩
end
end L2
namespace Att
open PySem PySem.W PySem.Calls PyProof.Rows
theorem qFw {P:Params} {h:Heap}:∀ (ns:List Int) (vs:List Value),WellAll P h vs (ns.map WData.int)→IntsAre vs ns:=by
  intro ns
  induction ns with
  | nil =>
    intro vs w
    rw [List.map_nil] at w
    cases w
    exact .nil
  | cons n ns ih =>
    intro vs w
    rw [List.map_cons] at w
    cases w with
    | cons a b =>
      cases a
      exact .cons _ _ (ih _ b)
theorem qM1 {l:OpenLaw} {n:Nat} (hn:l.most=some n) {P:Params} {h:Heap} {args:List WData} {vals:List Value}
    (hpre:l.row.toRowW.claim.pre args=true) (hwl:WellAll P h vals args) :
    ∃ a vs ns,vals=[Value.ref a]∧args=[WData.list (ns.map WData.int)]∧h.get? a=some { cls:=.type "list",data:=.seq vs.toArray }∧IntsAre vs ns∧ns.length≤n:=by
  have hsh:WShape.hasAll [] args [.list .int]=true:=(pre_splitW hpre).1
  have hc:l.pre.holds [] { args:=args }=true:=(pre_splitW hpre).2
  obtain⟨d,r,rfl,h1,h2⟩:=hasAllW_cons hsh
  obtain rfl:=hasAllW_nil h2
  obtain⟨xs,rfl,h3⟩:=hasW_list h1
  obtain⟨ns,rfl⟩:=items_int h3
  have hlen:ns.length≤n:=by
    unfold OpenLaw.pre at hc
    have h4:(WTm.not (.lt (.lit (.int (n:Int))) (.len (.arg 0)))).holds [] { args:=[.list (ns.map .int)] }=true:=by
      have h4:=(holds_andW hc).1
      rw [hn] at h4
      exact h4
    have h5:=condW_of h4 (w_not (w_lt w_lit (w_len_list (w_arg rfl))))
    rw [List.length_map] at h5
    refine Nat.le_of_not_lt fun q=>?_
    have q':(n:Int)<((ns.length:Nat):Int):=by lia
    first
      | (rw [decide_eq_true q'] at h5;exact absurd h5 (by decide))
      | (simp at h5;lia)
  cases hwl with
  | cons w1 w2 =>
    cases w2
    cases w1 with
    | list ho hall=>exact⟨_,_,ns,rfl,rfl,ho,qFw ns _ hall,hlen⟩
theorem qMx (l:OpenLaw) (args:List WData):l.row.toRowW.claim.post args (.bool true) args=true :=
  postW_of (r:=l.row.toRowW) (X:=(true==true))
    (show WShape.has [] (.bool true) .bool=true by first | rfl | decide | simp [WShape.has,WShape.arms,WShape.armsAll])
    (show (WTm.eq .res (.lit (.bool true))).value [] { args:=args,res:=some (.bool true),after:=args }=some (.bool (true==true)) from w_eq_bool (w_res rfl) w_lit) rfl
theorem qKP {l:OpenLaw} {n:Nat} {q:Program} {loose:List Str} {XP:(Str→Option Value)→Heap→Prop} {YP:World→Heap→Prop} {d:DefRec}
    (hn:l.most=some n) (hdf:d.params.defaults=[])
    (call:∀ (w:World) (s₀ s₁:Shared) (mg mb:Str→Option Value) (fa:Addr) (o:Obj) (pm cd doc:Value) (a:Addr) (vs:List Value) (ns:List Int),
      Ground q loose [] XP w s₀ mg mb s₁.heap→YP w s₁.heap →
      s₁.heap.get? fa=some o→o.data = .func (docDef d.name d.params d.body d.scope pm cd doc)→s₁.heap.CodeRec cd d.name→mg d.name=some (.ref fa) →
      s₁.heap.get? a=some { cls:=.type "list",data:=.seq vs.toArray }→IntsAre vs ns→ns.length≤n→s₁.gens=#[] →
      codeAny (model l.prog w) callerA (.call (.ref fa) ⟨[.ref a],[]⟩) (fun r s'=>r = .ok (.ret (.bool true))∧OldK s₁.heap s'.heap∧s'.os=s₁.os∧AllBare s'.gens) s₁) :
    WalkO q loose XP YP l.row.toRowW d [] (fun f vs=>PySem.call f vs):=by
  intro w s₀ s₁ mg mb G Y fa o pm cd doc dV kV ho hd hcd hD hmg hg args vals as hpre hlay hrd hwl hlo
  obtain rfl:dV = .none:=Dflts.none hD hdf
  obtain rfl:kV = .none:=Dflts.noKw hD
  obtain⟨a,vs,ns,rfl,rfl,hobj,hints,hlen⟩:=qM1 hn hpre hwl
  refine enter_call (codeAny_mono (call w s₀ s₁ mg mb fa o pm cd doc a vs ns G Y ho (fd_plain hd) hcd hmg hobj hints hlen hg) fun r s' hq=>?_)
  obtain⟨rfl,h2,h3,h4⟩:=hq
  exact⟨.inl ⟨.bool true,.bool true,[],rfl,fun _=>rfl,.bool true,qMx l _,fun _=>⟨List.Pairwise.nil,fun _ hm=>(nomatch hm)⟩⟩,h2,h3,h4⟩
end Att
namespace L2
open PySem PySem.Spec PyProof.Rows
theorem qIH:∀ {vs:List Value} {ns:List Int},IntsAre vs ns→Vals (ns.map V.int) vs
  | _,_,.nil=>.nil
  | _,_,.cons n t h=>.cons ⟨t,rfl⟩ (qIH h)
def qT2 (H:Hp):Prop:=∀ b,H b=none∨∃ o xs,H b=some (.frz o (.lst xs))
theorem qOw {P:Program} {w:World} {K:W.Frag} {mg mb:Str→Option Value} {CX:CXT} {k:Nat} {fa a:Addr} {fd:FuncData} {x:Str} {sp:Sp} {s₁:Shared} {vs:List Value} {ns:List Int}
    (KX:K.In s₁.heap) (hns:s₁.heap.Ns mainGlobals mg) (hb:s₁.heap.Ns builtinsNs mb) (hbb:∀ x:Str,x ≠ "__name__" → mb x=bootBuiltins x) (hlim:s₁.heap.NoLimit) (hg:s₁.gens=#[])
    (ha:s₁.heap.get? a=some { cls:=.type "list",data:=.seq vs.toArray }) (hi:IntsAre vs ns) (hl:ns.length≤sizeLine) (hr:qAx k callerA)
    (F:∀ base:Heap,K.In base→base.Ns mainGlobals mg→qAJ P w K mg base CX k fa fd [x] sp) (hbind:∀ (s:Shared) (u:Value),BindsTo s fd ⟨[u],[]⟩ [(x,u)])
    (hsp:∀ H:Hp,qT2 H→SqL K H a (ns.map V.int)→sp [.ref a] H (fun v _=>v = .bl true) fun _ _ _=>False)
    (hCX:∀ H e s',CX [] H s₁ (fun _ _ _=>False) e s'→False) :
    codeAny (model P w) callerA (.call (.ref fa) ⟨[.ref a],[]⟩) (fun r s'=>r = .ok (.ret (.bool true))∧OldK s₁.heap s'.heap∧s'.os=s₁.os∧AllBare s'.gens) s₁:=by
  have rv:=qIH hi
  have lenV:=hi.length
  -- from an abstract heap in which nothing but the script may be tracked
  have core : ∀ H:Hp,qT2 H→SqL K H a (ns.map V.int)→HOk K P w H s₁.heap→(∀ b,H b≠none→b=a)→(H a≠none→K.lookup a=none) →
      codeAny (model P w) callerA (.call (.ref fa) ⟨[.ref a],[]⟩) (fun r s'=>r = .ok (.ret (.bool true))∧OldK s₁.heap s'.heap∧s'.os=s₁.os∧AllBare s'.gens) s₁:=by
    intro H hO hS hok hA hK
    have base_of:∀ {b:Addr} {o:Obj},s₁.heap.get? b=some o→H b=none→(qIc s₁.heap H).get? b=some o:=fun e n=>qNZ e n
    have noA:∀ {b:Addr} {o:Obj} {es:Array DictEntry} {ep:Nat},s₁.heap.get? b=some o→o.data = .dict es ep→H b=none:=fun {b o es ep} e d=>by
      cases q:H b with
      | none=>rfl
      | some u =>
        have e':b=a:=hA b (by rw [q];simp)
        subst e'
        rw [ha] at e;cases e
        have d':Data.seq vs.toArray _=Data.dict es ep:=d
        cases d'
    have nsK:∀ {b:Addr} {m:Str→Option Value},s₁.heap.Ns b m→(qIc s₁.heap H).Ns b m:=fun {b m} ⟨o,es,ep,e,d,r⟩=>⟨o,es,ep,base_of e (noA e d),d,r⟩
    have hKb:K.In (qIc s₁.heap H):=fun b o e=>base_of (KX b o e) (by
      cases q:H b with
      | none=>rfl
      | some u =>
        have e':b=a:=hA b (by rw [q];simp)
        subst e'
        rw [hK (by rw [q];simp)] at e;cases e)
    have hM:Mod K mg (qIc s₁.heap H):=⟨hKb,nsK hns,⟨mb,nsK hb,hbb⟩,let ⟨mc,h1,h2⟩:=hlim;⟨mc,nsK h1,h2⟩⟩
    have e0:qHq P w K mg (qIc s₁.heap H) callerA [] s₁ H:=⟨rfl,hM,fun b o e=>qQ9 e,Nat.le_of_eq (qMc _ _),trivial,fun b hb=>absurd (show b∈([]:List Addr) from hb) (by simp),hok,.of_eq hg⟩
    refine codeAny_mono ((F _ hKb (nsK hns)).run callerA [] s₁ H ⟨[.ref a],[]⟩ [.ref a] [.ref a] _ _ hr e0 (hbind s₁ (.ref a)) (.cons rfl .nil) (hsp H hO hS)) fun r s' h=>?_
    cases r with
    | error e=>exact (hCX H e s' h).elim
    | ok fl =>
      cases fl with
      | next=>exact False.elim h
      | brk=>exact False.elim h
      | cont=>exact False.elim h
      | ret u =>
        obtain⟨v,H',os,bare,un,hok',r',q⟩:=h
        have q':v = .bl true:=q
        subst q'
        obtain rfl:u=Value.bool true:=r'
        refine⟨rfl,OldK.of_keep fun b o e=>?_,os,bare⟩
        cases q:H b with
        | none=>exact un.keep b o e q (by intro z;exact absurd (show b∈([]:List Addr) from z) (by simp)) (by simp)
        | some u =>
          rcases hO b with z | ⟨ob,xs,z⟩
          · rw [q] at z;cases z
          · have z2:=un.frzs b ob _ z
            obtain⟨e1,_⟩:=hok b _ z
            obtain⟨e2,_⟩:=hok' b _ z2
            rw [e] at e1;cases e1
            exact e2
  cases hk:K.lookup a with
  | some o =>
    -- the script is one of the module's own objects
    have e:=KX a o hk
    rw [ha] at e
    cases e
    refine core (fun _=>none) (fun _=>.inl rfl) (.inr ⟨_,vs.toArray,_,hk,rfl,rfl,rfl,by rw [List.size_toArray,lenV];exact hl,by simpa using rv⟩) (fun b u z=>by have z':(none:Option HO)=some u:=z;cases z') (fun b z=>absurd rfl z) fun z=>absurd rfl z
  | none =>
    refine core (fun b=>if b=a then some (.frz { cls:=.type "list",data:=.seq vs.toArray } (.lst (ns.map V.int))) else none) (fun b=>?_) (.inl (.inr ⟨{ cls:=.type "list",data:=.seq vs.toArray },if_pos rfl⟩)) (fun b u z=>?_) (fun b z=>?_) fun _=>hk
    · by_cases hb:b=a
      · exact .inr ⟨_,_,if_pos hb⟩
      · exact .inl (if_neg hb)
    · by_cases hb:b=a
      · have z':=(if_pos hb).symm.trans z
        cases z'
        subst hb
        exact⟨ha,by rw [List.length_map];exact hl,vs,_,rv,ha⟩
      · have z':=(if_neg hb).symm.trans z
        cases z'
    · by_cases hb:b=a
      · exact hb
      · exact absurd (if_neg hb) z
end L2
namespace L2
open PySem PySem.Spec PyProof.Rows
theorem qRD {l:W.OpenLaw} {n k:Nat} {q:Program} {loose:List Str} {XP:(Str→Option Value)→Heap→Prop} {YP:World→Heap→Prop} {d:DefRec} {K:Params→W.Frag} {CX:World→CXT} {sp:World→Sp} {x:Str}
    (hn:l.most=some n) (hn2:n≤sizeLine) (hdf:d.params.defaults=[]) (hr:qAx k callerA)
    (hY:∀ (w:World) (h:Heap),YP w h→(K w.params).In h)
    (F:∀ (w:World) (mg:Str→Option Value) (fa:Addr) (h:Heap),(K w.params).In h→h.Ns mainGlobals mg→mg d.name=some (.ref fa) →
      ∃ fd:FuncData,(∀ (s:Shared) (u:Value),BindsTo s fd ⟨[u],[]⟩ [(x,u)]) ∧
        ∀ base:Heap,(K w.params).In base→base.Ns mainGlobals mg→qAJ l.prog w (K w.params) mg base (CX w) k fa fd [x] (sp w))
    (hsp:∀ (w:World) (H:Hp) (a:Addr) (ns:List Int),ns.length≤n→qT2 H→SqL (K w.params) H a (ns.map V.int)→sp w [.ref a] H (fun v _=>v = .bl true) fun _ _ _=>False)
    (hCX:∀ (w:World) (H:Hp) (s:Shared) (e:Value) (s':Shared),CX w [] H s (fun _ _ _=>False) e s'→False) :
    W.WalkO q loose XP YP l.row.toRowW d [] (fun f vs=>PySem.call f vs):=by
  refine Att.qKP hn hdf fun w s₀ s₁ mg mb fa o pm cd doc a vs ns G Y ho hd hcd hmg hobj hints hlen hg=>?_
  have KX:=hY w _ Y
  obtain⟨fd,hb,hF⟩:=F w mg fa _ KX G.T.g hmg
  exact qOw KX G.T.g G.T.b G.T.builtins G.T.nolimit hg hobj hints (Nat.le_trans hlen hn2) hr hF hb (fun H hO hS=>hsp w H a ns hlen hO hS) fun H e s'=>hCX w H s₁ e s'
end L2
namespace L2
open PySem PySem.Spec PyProof.Rows
noncomputable def inClass (s:Stmt) (j:Nat):Stmt:=match s with
  | .ClassDef _ _ _ body _ _ _ _ _ _ _=>body.getD j (.Pass ⟨0,0,0,0⟩)
  | _=>.Pass ⟨0,0,0,0⟩
noncomputable def qAh (s:Stmt):Arguments:=match s with
  | .FunctionDef _ a _ _ _ _ _ _ _ _=>a
  | _=>{ posonlyargs:=[],args:=[],vararg:=none,kwonlyargs:=[],kw_defaults:=[],kwarg:=none,defaults:=[] }
noncomputable def qAZ (s:Stmt):List Stmt:=match s with
  | .FunctionDef _ _ b _ _ _ _ _ _ _=>b
  | _=>[]
noncomputable def qK (s:Stmt):Scope:=match s with
  | .FunctionDef _ _ _ _ _ _ sc _ _ _=>sc
  | _=>{ kind:=.function,names:=[],isGenerator:=false,isCoroutine:=false }
noncomputable abbrev CX0:CXT:=fun _ _ _ _ _ _=>False
noncomputable abbrev E0:XK:=fun _ _ _=>False
theorem qH7 {X:Cx}:Passes CX0 X E0:=fun _ _ _ _ _ _ _ h=>h.elim
structure Fun (K:W.Frag) (x qual:Str) (st:Stmt) (f:Addr) (fd:FuncData):Prop where
  ex:∃ (oc:Value) (od:Option Addr) (kV doc pm:Value) (an:Option Addr) (cdv ct:Value) (osl:Array (Option Value)),
    fd=W.fnOf x qual (qAh st) (qAZ st) (qK st) .none kV doc pm an cdv ct∧K.lookup f=some ⟨oc,od,.func fd,osl⟩∧W.codeIn K cdv qual=true
  kp:W.keepIn K (.ref f)=true
section
variable {P:Program} {w:World} {K:W.Frag} {mg:Str→Option Value} {base:Heap}
theorem Fun.ok {x qual:Str} {st:Stmt} {f:Addr} {fd:FuncData} {N ps:List Str} {k:Nat} {sp:Sp} (F:Fun K x qual st f fd) (S:qQ N ps (qK st)) (len:∀ vs H Q E,sp vs H Q E→vs.length=ps.length)
    (hbody:∀ (cdv:Value) (A:Around) (outer:List Env) (s:Shared) (H:Hp) (vs:List V) (Q:VK) (E:XK),qAx k (A.deeper (envOfC qual (qK st) s.heap.objs.size f cdv))→sp vs H Q E →
      ∃ t,PSs (qIx CX0 P w K mg base N qual (qK st) f cdv A outer s H E).nox (qAZ st) t∧t { nx:=fun _ H'=>Q .non H',rt:=Q } (start N vs) H):qAJ P w K mg base CX0 (k+1) f fd ps sp:=by
  k_dat 0"r47"
  refine qRZ lk hcd S len fun A outer s H vs Q E hr hsp=>?_
  obtain⟨t,h,q⟩:=hbody cdv A outer s H vs Q E hr hsp
  exact⟨t,h.nox,q⟩
theorem Fun.binds {x qual:Str} {st:Stmt} {f:Addr} {fd:FuncData} {ps:List Str} (F:Fun K x qual st f fd)
    (h:∀ (kV doc pm:Value) (an:Option Addr) (cdv ct:Value) (us:List Value),us.length=ps.length→bindArgs (W.fnOf x qual (qAh st) (qAZ st) (qK st) .none kV doc pm an cdv ct) ⟨us,[]⟩=pure (ps.zip us)):Binds K fd ps []:=by
  k_dat 0"r47"
  exact .all (h kV doc pm an cdv ct)
theorem qPC {x qual:Str} {st:Stmt} {f:Addr} {oc:Value} {od an:Option Addr} {osl:Array (Option Value)} {kV doc pm cdv ct:Value} (l:K.lookup f=some ⟨oc,od,.func (W.fnOf x qual (qAh st) (qAZ st) (qK st) .none kV doc pm an cdv ct),osl⟩)
    (c:W.codeIn K cdv qual=true) (k:W.keepIn K (.ref f)=true):Fun K x qual st f (W.fnOf x qual (qAh st) (qAZ st) (qK st) .none kV doc pm an cdv ct):=⟨⟨oc,od,kV,doc,pm,an,cdv,ct,osl,rfl,l,c⟩,k⟩
end
theorem qFJ {n:Nat} (h:n≤1000):n<sizeLine:=Nat.lt_of_le_of_lt h (by decide)
theorem qBK {A B:Prop} (h:B):if false=true then A else B:=by
  rw [if_neg Bool.false_ne_true]
  exact h
theorem qCD {A B:Prop} (h:A):if true=true then A else B:=by
  rw [if_pos rfl]
  exact h
def qUl (H H':Hp):Prop:=∀ b o,H b=some o→H' b=some o
theorem qUl.free {H H':Hp} (e:qUl H H') {l:Addr} (h:H' l=Option.none):H l=Option.none:=by
  cases q:H l with
  | none=>rfl
  | some o =>
    rw [e l o q] at h
    cases h
end L2
namespace L2
open PySem PySem.Spec PyProof.Rows
section
variable {κ:Type} [DecidableEq κ]
noncomputable def qCh (kvs:List (κ×V)) (k:κ):Option V:=(kvs.find? fun kv=>decide (kv.1=k)).map (·.2)
noncomputable def putK (kvs:List (κ×V)) (k:κ) (v:V):List (κ×V) :=
  if (kvs.any fun kv=>decide (kv.1=k))=true then kvs.map (fun kv=>if kv.1=k then (kv.1,v) else kv) else kvs++[(k,v)]
theorem qPO {k:κ}:qCh ([]:List (κ×V)) k=none:=rfl
theorem qGb {p:κ×V} {r:List (κ×V)} {k:κ} (e:p.1=k):qCh (p::r) k=some p.2:=by simp [qCh,List.find?_cons,e]
theorem qHH {p:κ×V} {r:List (κ×V)} {k:κ} (e:¬ p.1=k):qCh (p::r) k=qCh r k:=by simp [qCh,List.find?_cons,e]
theorem qJo (k:κ):∀ kvs:List (κ×V),(kvs.any fun kv=>decide (kv.1=k))=(qCh kvs k).isSome
  | []=>rfl
  | p::r=>by
    rw [List.any_cons]
    by_cases e:p.1=k
    · simp only [qGb e,decide_eq_true e,Bool.true_or,Option.isSome_some]
    · rw [qHH e,decide_eq_false e,Bool.false_or];exact qJo k r
theorem qDm (kvs:List (κ×V)) (k:κ) (v:V):(putK kvs k v).length≤kvs.length+1:=by
  unfold putK
  split
  · rw [List.length_map];lia
  · rw [List.length_append,List.length_cons,List.length_nil];lia
theorem qDS.qFf {o:Option V} {u:Option Value} (r:qDS o u):o.isSome=u.isSome:=by
  cases o with
  | none=>cases u with
    | none=>rfl
    | some _=>exact (show False from r).elim
  | some _=>cases u with
    | none=>exact (show False from r).elim
    | some _=>rfl
theorem qDS.getD {o:Option V} {u:Option Value} {d:V} {d':Value} (r:qDS o u) (rd:RelV d d'):RelV (o.getD d) (u.getD d'):=by
  cases o with
  | none=>cases u with
    | none=>exact rd
    | some _=>exact (show False from r).elim
  | some _=>cases u with
    | none=>exact (show False from r).elim
    | some _=>exact r
theorem KV.val {kvs:List (κ×V)} {vs:List (κ×Value)} (r:KV kvs vs) (k:κ):qDS (qCh kvs k) (valueAt vs k):=by
  unfold KV at r
  induction r with
  | nil=>exact True.intro
  | @cons p q ps qs h t ih =>
    obtain⟨h1,h2⟩:=h
    by_cases e:p.1=k
    · have e':q.1=k:=h1.symm.trans e
      have b:valueAt (q::qs) k=some q.2:=by simp [valueAt,List.find?_cons,e']
      rw [qGb e,b];exact h2
    · have e':¬ q.1=k:=fun z=>e (h1.trans z)
      have b:valueAt (q::qs) k=valueAt qs k:=by simp [valueAt,List.find?_cons,e']
      rw [qHH e,b];exact ih
theorem KV.any {kvs:List (κ×V)} {vs:List (κ×Value)} (r:KV kvs vs) (k:κ):(kvs.any fun kv=>decide (kv.1=k))=vs.any fun kv=>decide (kv.1=k):=by
  unfold KV at r
  induction r with
  | nil=>rfl
  | cons h t ih=>rw [List.any_cons,List.any_cons,ih,h.1]
theorem KV.repl {kvs:List (κ×V)} {vs:List (κ×Value)} (r:KV kvs vs) (k:κ) {y:V} {u:Value} (ry:RelV y u) :
    KV (kvs.map fun kv=>if kv.1=k then (kv.1,y) else kv) (vs.map fun kv=>if kv.1=k then (kv.1,u) else kv):=by
  unfold KV at r ⊢
  induction r with
  | nil=>exact .nil
  | @cons p q ps qs h t ih =>
    rw [List.map_cons,List.map_cons]
    refine .cons ?_ ih
    obtain⟨h1,h2⟩:=h
    by_cases e:p.1=k
    · rw [if_pos e,if_pos (h1.symm.trans e)];exact⟨h1,ry⟩
    · rw [if_neg e,if_neg (fun z=>e (h1.trans z))];exact⟨h1,h2⟩
theorem KV.put {kvs:List (κ×V)} {vs:List (κ×Value)} (r:KV kvs vs) (k:κ) {y:V} {u:Value} (ry:RelV y u):KV (putK kvs k y) (stored vs k u):=by
  unfold putK stored
  rw [r.any k]
  by_cases e:(vs.any fun kv=>decide (kv.1=k))=true
  · rw [if_pos e,if_pos e];exact r.repl k ry
  · rw [if_neg e,if_neg e];exact Paired.snoc r ⟨rfl,ry⟩
theorem KV.keys {kvs:List (κ×V)} {vs:List (κ×Value)} (r:KV kvs vs):kvs.map (·.1)=vs.map (·.1):=by
  unfold KV at r
  induction r with
  | nil=>rfl
  | cons h t ih=>rw [List.map_cons,List.map_cons,ih,h.1]
theorem KV.length {kvs:List (κ×V)} {vs:List (κ×Value)} (r:KV kvs vs):kvs.length=vs.length:=Paired.length r
end
theorem qJt {P:Program} {w:World} {k:Key} {u:Value} (r:RelV (kV k) u):(qAg P w).is k u=true:=by
  cases k with
  | inl i=>obtain⟨t,e⟩:=(show ∃ t,u=Value.int i t from r);subst e;exact qKY P w i t
  | inr x=>obtain⟨t,e⟩:=(show ∃ t,u=Value.str x t from r);subst e;exact qKG P w x t
theorem qFT {P:Program} {w:World}:∀ {ks:List Key} {us:List Value},Vals (ks.map kV) us→ItemsAre (qAg P w) ks us
  | [],_,r=>by rw [List.map_nil] at r;cases r;exact .nil
  | k::ks,_,r=>by
    rw [List.map_cons] at r
    cases r with
    | cons h t=>exact .cons (qJt h) (qFT t)
noncomputable abbrev KT (K:W.Frag) (H:Hp):List (List Key×V)→List (List Key×Addr×Value)→Prop:=Paired fun p q=>p.1=q.1∧SqT K H q.2.1 (p.1.map kV)∧RelV p.2 q.2.2
theorem KT.val {K:W.Frag} {H:Hp} {kvs:List (List Key×V)} {xs:List (List Key×Addr×Value)} (r:KT K H kvs xs) (k:List Key):qDS (qCh kvs k) ((atKey xs k).map (·.2)):=by
  induction r with
  | nil=>exact True.intro
  | @cons p q ps qs h t ih =>
    obtain⟨h1,_,h2⟩:=h
    by_cases e:p.1=k
    · have e':q.1=k:=h1.symm.trans e
      have b:atKey (q::qs) k=some q.2:=by simp [atKey,List.find?_cons,e']
      rw [qGb e,b];exact h2
    · have e':¬ q.1=k:=fun z=>e (h1.trans z)
      have b:atKey (q::qs) k=atKey qs k:=by simp [atKey,List.find?_cons,e']
      rw [qHH e,b];exact ih
theorem KT.repl {K:W.Frag} {H:Hp} {kvs:List (List Key×V)} {xs:List (List Key×Addr×Value)} (r:KT K H kvs xs) (k:List Key) {y:V} {u:Value} (ry:RelV y u) :
    KT K H (kvs.map fun kv=>if kv.1=k then (kv.1,y) else kv) (xs.map (putAt k u)):=by
  induction r with
  | nil=>exact .nil
  | @cons p q ps qs h t ih =>
    rw [List.map_cons,List.map_cons]
    refine .cons ?_ ih
    obtain⟨h1,h2,h3⟩:=h
    unfold putAt
    by_cases e:p.1=k
    · rw [if_pos e,if_pos (h1.symm.trans e)];exact⟨h1,h2,ry⟩
    · rw [if_neg e,if_neg (fun z=>e (h1.trans z))];exact⟨h1,h2,h3⟩
theorem KT.put {K:W.Frag} {H:Hp} {kvs:List (List Key×V)} {xs:List (List Key×Addr×Value)} (r:KT K H kvs xs) (k:List Key) {b:Addr} {y:V} {u:Value} (hb:SqT K H b (k.map kV)) (ry:RelV y u) :
    KT K H (putK kvs k y) (storedH xs k b u):=by
  have e:(kvs.any fun kv=>decide (kv.1=k))=(atKey xs k).isSome:=by
    rw [qJo,(r.val k).qFf,Option.isSome_map]
  unfold putK storedH
  rw [e]
  by_cases q:(atKey xs k).isSome=true
  · rw [if_pos q,if_pos q];exact r.repl k ry
  · rw [if_neg q,if_neg q];exact Paired.snoc r ⟨rfl,hb,ry⟩
theorem KT.keeps {K:W.Frag} {H H':Hp} {kvs:List (List Key×V)} {xs:List (List Key×Addr×Value)} (r:KT K H kvs xs) (ht:∀ b ys,H b=some (.tup ys)→H' b=some (.tup ys)):KT K H' kvs xs :=
  Paired.qT4 r fun _ _ z=>⟨z.1,z.2.1.elim (fun y=>.inl (ht _ _ y)) .inr,z.2.2⟩
section
variable {K:W.Frag} {P:Program} {w:World} {H:Hp} {h:Heap} {a:Addr}
theorem qRg {u:HO} (ok:HOk K P w H h) (e:Rd H a u):qBH K P w H h a u:=e.ok ok
theorem qIJ {kvs:List (Key×V)} (ok:HOk K P w H h) (e:Rd H a (.dK kvs)):kvs.length≤sizeLine∧(a==sysModules)=false∧∃ vs,KV kvs vs∧h.DictOf (qAg P w) a vs :=
  show qBH K P w H h a (.dK kvs) from qRg ok e
theorem qRc {kvs:List (Key×V)} (ok:HOk K P w H h) (e:H a=some (.dK kvs)):kvs.length≤sizeLine∧(a==sysModules)=false∧∃ vs,KV kvs vs∧h.DictOf (qAg P w) a vs:=qIJ ok (.inl e)
theorem qFV {ks:List Key} (ok:HOk K P w H h) (e:H a=some (.tup (ks.map kV))):(tupleKind (qAg P w)).is h ks a:=by
  obtain⟨_,its,r,o,h1,⟨h2,_⟩,n,h3⟩:=(show qBH K P w H h a (.tup (ks.map kV)) from ok a _ e)
  exact⟨o,its.toArray,n,h1,h2,h3,by simpa using qFT r⟩
theorem qGK {ks:List Key} (kin:K.In h) (ok:HOk K P w H h) (e:SqT K H a (ks.map kV)):(tupleKind (qAg P w)).is h ks a:=by
  rcases e with e | ⟨o,its,n,h1,h2,h3,_,r⟩
  · exact qFV ok e
  · exact⟨o,its,n,kin a o h1,h2.1,h3,qFT r⟩
theorem qMC {kvs:List (List Key×V)} (kin:K.In h) (ok:HOk K P w H h) (e:Rd H a (.dT kvs)):kvs.length≤sizeLine∧(a==sysModules)=false ∧
    ∃ xs,KT K H kvs xs∧h.DictOfH (tupleKind (qAg P w)) a xs:=by
  obtain⟨z,y,xs,r,o,es,ep,h1,h2,h3,h4,h5⟩:=(show qBH K P w H h a (.dT kvs) from qRg ok e)
  refine⟨z,y,xs,r,o,es,ep,h1,h2,h3,h4,fun x hx=>?_,h5⟩
  have all:∀ {l:List (List Key×V)} {m:List (List Key×Addr×Value)},KT K H l m→∀ x∈m,(tupleKind (qAg P w)).is h x.1 x.2.1:=by
    intro l m q
    induction q with
    | nil=>intro x hx;exact nomatch hx
    | @cons p q ps qs hq t ih =>
      intro x hx
      rcases List.mem_cons.mp hx with e | hx
      · subst e
        exact qGK kin ok (by rw [← hq.1];exact hq.2.1)
      · exact ih x hx
  exact all r x hx
theorem qLg {kvs:List (List Key×V)} (kin:K.In h) (ok:HOk K P w H h) (e:H a=some (.dT kvs)):kvs.length≤sizeLine∧(a==sysModules)=false ∧
    ∃ xs,KT K H kvs xs∧h.DictOfH (tupleKind (qAg P w)) a xs:=qMC kin ok (.inl e)
end
def qEj (K:W.Frag) (H:Hp) (a:Addr) (y:V) (r:Option V):Prop :=
  (∃ kvs k,Rd H a (.dK kvs)∧y=kV k∧r=qCh kvs k)∨∃ kvs k b,Rd H a (.dT kvs)∧y = .ref b∧SqT K H b (k.map kV)∧r=qCh kvs k
def qK3 (K:W.Frag) (H:Hp) (a:Addr) (y v:V) (H':Hp):Prop :=
  (∃ kvs k,H a=some (.dK kvs)∧y=kV k∧kvs.length<sizeLine∧H'=upd H a (.dK (putK kvs k v))) ∨
  ∃ kvs k b,H a=some (.dT kvs)∧y = .ref b∧SqT K H b (k.map kV)∧kvs.length<sizeLine∧H'=upd H a (.dT (putK kvs k v))
theorem qEj.k {K:W.Frag} {H:Hp} {a:Addr} {kvs:List (Key×V)} {k:Key} (e:H a=some (.dK kvs)):qEj K H a (kV k) (qCh kvs k):=.inl ⟨kvs,k,.inl e,rfl,rfl⟩
theorem qEj.t {K:W.Frag} {H:Hp} {a b:Addr} {kvs:List (List Key×V)} {k:List Key} (e:H a=some (.dT kvs)) (eb:SqT K H b (k.map kV)):qEj K H a (.ref b) (qCh kvs k):=.inr ⟨kvs,k,b,.inl e,rfl,eb,rfl⟩
theorem qK3.k {K:W.Frag} {H:Hp} {a:Addr} {kvs:List (Key×V)} {k:Key} {v:V} (e:H a=some (.dK kvs)) (hl:kvs.length<sizeLine):qK3 K H a (kV k) v (upd H a (.dK (putK kvs k v))):=.inl ⟨kvs,k,e,rfl,hl,rfl⟩
theorem qK3.t {K:W.Frag} {H:Hp} {a b:Addr} {kvs:List (List Key×V)} {k:List Key} {v:V} (e:H a=some (.dT kvs)) (eb:SqT K H b (k.map kV)) (hl:kvs.length<sizeLine) :
    qK3 K H a (.ref b) v (upd H a (.dT (putK kvs k v))):=.inr ⟨kvs,k,b,e,rfl,eb,hl,rfl⟩
section
variable {X:Cx} {pins:List (Addr×Obj)} {σ:St} {H:Hp} {s:Shared} {a:Addr} {y v:V} {u r:Value} {o:Option V} {A:Around} {E:Value→Shared→Prop}
theorem Inv.big (I:Inv X pins σ H s):sysModules<s.heap.objs.size:=by
  have h:mainGlobals<s.heap.objs.size:=(I.mod.glob.keeps I.bk).lt
  exact Nat.lt_trans (by decide) h
theorem qH6 {Q:Value→Shared→Prop} (hu:A.units+1<cLine) (I:Inv X pins σ H s) (g:qEj X.K H a y (some v)) (ry:RelV y u) (h:∀ w' s',Inv X pins σ H s'→RelV v w'→Q w' s') :
    wpAny (model X.prog X.w) A (getItem (.ref a) u) Q E s:=by
  rcases g with ⟨kvs,k,e,ey,l⟩ | ⟨kvs,k,b,e,ey,eb,l⟩
  · subst ey
    obtain⟨z,hd,vs,rel,dd⟩:=qIJ I.hok e
    obtain⟨w',hw,rw'⟩:=qDS.some_of (v:=v) (o:=valueAt vs k) (by rw [l];exact rel.val k)
    exact wpAny_getItem_of (qJt ry) dd.mapOf hw (h w' _ (I.tok _) rw')
  · subst ey
    cases (show u=Value.ref b from ry)
    obtain⟨z,hd,xs,rel,dd⟩:=qMC I.kIn I.hok e
    obtain⟨w',hw,rw'⟩:=qDS.some_of (v:=v) (o:=(atKey xs k).map (·.2)) (by rw [l];exact rel.val k)
    obtain⟨p,hp,hp2⟩:=Option.map_eq_some_iff.mp hw
    refine wpAny_getItem_heap (tupleKind_room_in1 hu) (qGK I.kIn I.hok eb) dd hp ?_
    rw [hp2]
    exact h w' _ (I.tok _) rw'
theorem qVQ {Q:Value→Shared→Prop} (hu:A.units+1<cLine) (I:Inv X pins σ H s) (g:qEj X.K H a y o) (ry:RelV y u) (h:∀ s',Inv X pins σ H s'→Q (.bool o.isSome) s') :
    wpAny (model X.prog X.w) A (compareOp .In u (.ref a)) Q E s:=by
  rcases g with ⟨kvs,k,e,ey,l⟩ | ⟨kvs,k,b,e,ey,eb,l⟩
  · subst ey
    obtain⟨z,hd,vs,rel,dd⟩:=qIJ I.hok e
    refine wpAny_in_of (qJt ry) hd dd.mapOf ?_
    rw [← (rel.val k).qFf,← l]
    exact h _ (I.tok _)
  · subst ey
    cases (show u=Value.ref b from ry)
    obtain⟨z,hd,xs,rel,dd⟩:=qMC I.kIn I.hok e
    refine wpAny_in_heap (tupleKind_room_in1 hu) (qGK I.kIn I.hok eb) hd dd ?_
    have q:=(rel.val k).qFf
    rw [Option.isSome_map] at q
    rw [← q,← l]
    exact h _ (I.tok _)
theorem qIZ {h':Heap} {t':Nat} {ob:HO} (I:Inv X pins σ H s) (mu:Mut (H a)) (hs:Heap.SameBut a s.heap h') (he:∃ q,h'.get? a=some q) (new:qBH X.K X.prog X.w (upd H a ob) h' a ob) :
    Inv X pins σ (upd H a ob) { s with heap:=h',toks:=t' } :=
  I.write (x:=a) (e:=a) mu (.inl rfl) (fun b q hb z=>(hs.2 b hb).trans z) he new
theorem qOg {K:W.Frag} {P:Program} {w:World} {H':Hp} {h':Heap} {kvs:List (Key×V)} {vs:List (Key×Value)} (z:kvs.length≤sizeLine) (hd:(a==sysModules)=false) (rel:KV kvs vs) (dd:h'.DictOf (qAg P w) a vs) :
    qBH K P w H' h' a (.dK kvs):=⟨z,hd,vs,rel,dd⟩
theorem qMq {H':Hp} {Q:Unit→Shared→Prop} (hu:A.units+1<cLine) (I:Inv X pins σ H s) (g:qK3 X.K H a y v H') (ry:RelV y u) (rv:RelV v r) (h:∀ s',Inv X pins σ H' s'→Q () s') :
    wpAny (model X.prog X.w) A (setItem (.ref a) u r) Q E s:=by
  rcases g with ⟨kvs,k,e,ey,l,eH⟩ | ⟨kvs,k,b,e,ey,eb,l,eH⟩
  · subst ey eH
    obtain⟨z,hd,vs,rel,dd⟩:=qRc I.hok e
    have hz:vs.length≤sizeLine:=by rw [← rel.length];exact z
    have hl:(putK kvs k v).length≤sizeLine:=by have:=qDm kvs k v;lia
    refine wpAny_setItem_pairs (hsz:=hz) (qJt ry) dd fun h' dd' hs=>h _ ?_
    have he:∃ q,h'.get? a=some q:=let ⟨q,_,_,hq,_⟩:=dd';⟨q,hq⟩
    exact qIZ I (by rw [e];exact True.intro) hs he (qOg hl hd (rel.put k rv) dd')
  · subst ey eH
    cases (show u=Value.ref b from ry)
    obtain⟨z,hd,xs,rel,dd⟩:=qLg I.kIn I.hok e
    have hz:xs.length≤sizeLine:=by rw [← Paired.length rel];exact z
    have hl:(putK kvs k v).length≤sizeLine:=by have:=qDm kvs k v;lia
    refine wpAny_setItem_heap (hsz:=hz) (tupleKind_room_in1 hu) (qGK I.kIn I.hok eb) dd fun h' dd' hs=>h _ ?_
    obtain⟨q,es,ep,hq,h2,h3,h4,_,h5⟩:=dd'
    refine qIZ I (by rw [e];exact True.intro) hs ⟨q,hq⟩ ⟨hl,hd,_,(rel.put k eb rv).keeps fun c ys ec=>?_,q,es,ep,hq,h2,h3,h4,h5⟩
    rw [qg (qIA ec e (fun z=>nomatch z))]
    exact ec
end
def qSG (i:Expr):Prop:=∀ ov iv,subscripted i false ov iv=operate [ov,iv] (getItem ov iv)
theorem qQd {prog:Program} {w:World} {A:Around} {E:Value→Shared→Prop} {s:Shared} {env:Env} {value slice:Expr} {pos:Pos} {T id:String} {Q:Value→Shared→Prop}
    (hl:typeLookup (.type T) "__getitem__" = pure (some (.builtin id))) (hs:qSG slice)
    (h:wpAny (model prog w) A (eval value env) (fun o s₁=>wpAny (model prog w) A (eval slice env) (fun i s₂=>s₂.TypeIs o T∧wpAny (model prog w) A (getItem o i) Q E s₂) E s₁) E s) :
    wpAny (model prog w) A (eval (.Subscript value slice pos) env) Q E s:=by
  refine Subscript_ (wpAny_mono h (fun o s₁ h₁=>wpAny_mono h₁ (fun i s₂ h₂=>?_) fun _ _ x=>x) fun _ _ x=>x)
  obtain⟨hT,h₂⟩:=h₂
  unfold subscriptTail
  k_dat 0"r11"
  rw [getitemInPython_of_ne hT.not_modules]
  refine wpAny_bind (wpAny_specialOf hT hl ?_)
  have fin:wpAny (model prog w) A (subscripted slice false o i) (fun r s₃=>wpAny (model prog w) A (letTemporaryGo value o r >>= fun _=>pure r) Q E s₃) E s₂:=by
    rw [hs o i]
    exact wpAny_operating (wpAny_mono h₂ (fun r s₃ h₃=>wpAny_bind (wpAny_letTemporaryGo (wpAny_pure h₃))) fun _ _ x=>x)
  first
    | exact wpAny_pure (wpAny_bind fin)
    | exact wpAny_bind (wpAny_pure (wpAny_bind fin))
    | exact wpAny_bind fin
theorem qKi {X:Cx} {pins:List (Addr×Obj)} {σ:St} {H:Hp} {s:Shared} {a:Addr} {y:V} {o:Option V} (I:Inv X pins σ H s) (g:qEj X.K H a y o):s.TypeIs (.ref a) "dict":=by
  rcases g with ⟨kvs,k,e,_,_⟩ | ⟨kvs,k,b,e,_,_,_⟩
  · obtain⟨_,_,vs,_,dd⟩:=qIJ I.hok e
    exact dd.typeIs
  · obtain⟨_,_,xs,_,dd⟩:=qMC I.kIn I.hok e
    exact dd.typeIs
noncomputable def qVK (K:W.Frag) (td ty:TE):TE:=fun σ H Q=>td σ H fun x H1=>ty σ H1 fun y H2=>∃ a v,x = .ref a∧qEj K H2 a y (some v)∧Q v H2
noncomputable def qVx (K:W.Frag) (ty td:TE):TE:=fun σ H Q=>ty σ H fun y H1=>td σ H1 fun x H2=>∃ a o,x = .ref a∧qEj K H2 a y o∧Q (.bl o.isSome) H2
noncomputable def qUr (K:W.Frag) (td ty tv:TE) (rd:V→V→Hp→VK→Prop):TS:=fun D σ H=>td σ H fun x H1=>ty σ H1 fun y H2=>∃ a v,x = .ref a∧qEj K H2 a y (some v) ∧
  tv σ H2 fun y2 H3=>rd v y2 H3 fun z H4=>∃ H5,qK3 K H4 a y z H5∧D.nx σ H5
section
variable {X:Cx} {o i e value:Expr} {pos pos' tpos:Pos} {td ty tv:TE}
theorem qPz (hu:X.A.units+1<cLine) (ho:PE X o td) (hi:PE X i ty) (hs:qSG i):PE X (.Subscript o i pos) (qVK X.K td ty):=by
  k_dat 0"r2"
  refine qQd PySem.F.slot_dict_getitem.lookup hs (thn (ho pins s σ H _ I h) fun u s1 ⟨x,H1,I1,rx,q1⟩=>thn (hi pins s1 σ H1 _ I1 q1) fun iv s2 hqz=>?_)
  obtain⟨y,H2,I2,ry,a,v,ex,g,q2⟩:=hqz
  subst ex
  k_dat 0"r27"
  exact⟨qKi I2 g,qH6 hu I2 g ry fun w' s3 I3 rw'=>⟨v,H2,I3,rw',q2⟩⟩
theorem qTE (hu:X.A.units+1<cLine) (hi:PE X i ty) (ho:PE X o td):PC X .In i o (qVx X.K ty td):=by
  k_dat 0"r2"
  refine thn (hi pins s σ H _ I h) fun iv s1 ⟨y,H1,I1,ry,q1⟩=>thn (ho pins s1 σ H1 _ I1 q1) fun u s2 hqz=>?_
  obtain⟨x,H2,I2,rx,a,ov,ex,g,q2⟩:=hqz
  subst ex
  k_dat 0"r27"
  exact qVQ hu I2 g ry fun s3 I3=>⟨.bl ov.isSome,H2,I3,rfl,q2⟩
theorem qPo {op:Operator} {rd:V→V→Hp→VK→Prop} (hu:X.A.units+1<cLine) (ho:PE X o td) (hi:PE X i ty) (hv:PE X value tv) (hop:qTf X op rd)
    (ha:∀ ov iv new,augStore i ov iv new=(do holding [new,ov,iv] (setItem ov iv new);release [new,ov,iv] [];pure .next)):PS X (.AugAssign (.Subscript o i tpos) op value pos) (qUr X.K td ty tv rd):=by
  k_dat 0"r15"
  refine wpAny_AugAssign_SubscriptAny (thn (ho pins s σ H _ I h) fun u s1 ⟨x,H1,I1,rx,q1⟩=>thn (hi pins s1 σ H1 _ I1 q1) fun iv s2 hqz=>?_) ha
  obtain⟨y,H2,I2,ry,a,v,ex,g,q2⟩:=hqz
  subst ex
  k_dat 0"r27"
  refine qH6 hu I2 g ry fun w' s3 I3 rw'=>thn (hv pins s3 σ H2 _ I3 q2) fun w2 s4 ⟨y2,H3,I4,ry2,q3⟩=>thn (hop pins s4 σ H3 v y2 w' w2 _ I4 rw' ry2 q3) fun w3 s5 hqz=>?_
  obtain⟨z,H4,I5,rz,H5,g5,q4⟩:=hqz
  exact qMq hu I5 g5 ry rz fun s6 I6=>⟨σ,H5,I6,q4⟩
end
theorem qJy {K:W.Frag} {P:Program} {w:World} {H:Hp} (h:Heap) (hb:sysModules<h.objs.size):qBH K P w H (h.push { cls:=.type "dict",data:=.dict #[] }) h.objs.size (.dK []) :=
  ⟨Nat.zero_le _,beq_eq_false_iff_ne.mpr (Ne.symm (Nat.ne_of_lt hb)),[],.nil,Heap.DictOf.new h⟩
noncomputable def qTy (K:W.Frag):TE:=fun _ H Q=>∀ p,H p=none→K.lookup p=none→Q (.ref p) (upd H p (.dK []))
section
variable {X:Cx} {pos:Pos}
theorem qPQ:PE X (.Dict [] [] pos) (qTy X.K):=fun pins s σ H Q I h =>
  wpAny_Dict_empty ⟨.ref s.heap.objs.size,_,I.laid (a:=s.heap.objs.size) (o:=.dK []) (t':=s.toks) (fun _ _ q=>Heap.get?_push_of_some _ q) (Nat.le_refl _) (qJy s.heap I.big),rfl,h _ (I.hok.fresh (Nat.le_refl _)) (by cases e:X.K.lookup s.heap.objs.size with | none=>rfl | some o=>exact absurd (Heap.lt_size (I.kIn _ o e)) (Nat.lt_irrefl _))⟩
end
noncomputable def qJN:List (TE×TE)→St→Hp→(List (V×V)→Hp→Prop)→Prop
  | [],_,H,Q=>Q [] H
  | (tk,tv)::r,σ,H,Q=>tk σ H fun x H1=>tv σ H1 fun y H2=>qJN r σ H2 fun ps H3=>Q ((x,y)::ps) H3
noncomputable abbrev VV:List (V×V)→List (Value×Value)→Prop:=Paired fun p q=>RelV p.1 q.1∧RelV p.2 q.2
def PPs (X:Cx) (pos:Pos) (keys:List (Option Expr)) (values:List Expr) (trs:List (TE×TE)):Prop :=
  ∀ (pins:List (Addr×Obj)) (s:Shared) (σ:St) (H:Hp) (Q:List (V×V)→Hp→Prop),Inv X pins σ H s→qJN trs σ H Q →
    wpAny (model X.prog X.w) X.A (evalPairs (pairTrees keys values X.env pos)) (fun vs s'=>∃ ps H',Inv X pins σ H' s'∧VV ps vs∧Q ps H') X.xe s
theorem qPl {X:Cx} {pos:Pos}:PPs X pos [] [] []:=fun pins s σ H Q I h=>pairTrees_nil_walk ⟨[],H,I,.nil,h⟩
theorem qNa {X:Cx} {pos:Pos} {k v:Expr} {ks:List (Option Expr)} {vs:List Expr} {tk tv:TE} {trs:List (TE×TE)} (hk:PE X k tk) (hv:PE X v tv) (hr:PPs X pos ks vs trs) :
    PPs X pos (some k::ks) (v::vs) ((tk,tv)::trs):=fun pins s σ H Q I h =>
  pairTrees_cons_walk (thn (hk pins s σ H _ I h) fun u s1 ⟨x,H1,I1,rx,q1⟩=>thn (hv pins s1 σ H1 _ I1 q1) fun w2 s2 ⟨y,H2,I2,ry,q2⟩ =>
    thn (hr pins s2 σ H2 _ I2 q2) fun ws s3 ⟨ps,H3,I3,rel,q3⟩=>⟨(x,y)::ps,H3,I3,.cons ⟨rx,ry⟩ rel,q3⟩)
noncomputable def qEQ (kvs more:List (Key×V)):List (Key×V):=more.foldl (fun acc kv=>putK acc kv.1 kv.2) kvs
theorem KV.merge:∀ {more:List (Key×V)} {rs:List (Key×Value)} {kvs:List (Key×V)} {vs:List (Key×Value)},KV more rs→KV kvs vs→KV (qEQ kvs more) (merged vs rs):=by
  intro more rs kvs vs r
  unfold KV at r
  induction r generalizing kvs vs with
  | nil=>intro q;exact q
  | @cons p q ps qs h t ih =>
    intro r0
    have e:KV (putK kvs p.1 p.2) (stored vs q.1 q.2):=by
      have:=r0.put p.1 h.2
      rw [← h.1];exact this
    exact ih e
theorem qED:∀ (more kvs:List (Key×V)),(qEQ kvs more).length≤kvs.length+more.length
  | [],kvs=>by show kvs.length≤kvs.length+0;lia
  | p::r,kvs=>by
    have h1:=qED r (putK kvs p.1 p.2)
    have h2:=qDm kvs p.1 p.2
    show (qEQ (putK kvs p.1 p.2) r).length≤_
    rw [List.length_cons];lia
theorem qGQ {P:Program} {w:World}:∀ {kvs:List (Key×V)} {ws:List (Value×Value)},VV (kvs.map fun kv=>(kV kv.1,kv.2)) ws→∃ rs,Carries (qAg P w) ws rs∧KV kvs rs
  | [],_,r=>by rw [List.map_nil] at r;cases r;exact⟨[],True.intro,.nil⟩
  | p :: kvs,_,r=>by
    rw [List.map_cons] at r
    cases r with
    | @cons a b as bs h t =>
      obtain⟨rs,c,q⟩:=qGQ (P:=P) (w:=w) t
      obtain⟨b1,b2⟩:=b
      exact⟨(p.1,b2)::rs,⟨qJt h.1,rfl,c⟩,.cons ⟨rfl,h.2⟩ q⟩
noncomputable def qUS (K:W.Frag) (trs:List (TE×TE)):TE:=fun σ H Q=>∀ p,H p=none→K.lookup p=none→qJN trs σ (upd H p (.dK [])) fun ps H2=>H2 p=some (.dK [])∧∃ kvs:List (Key×V),ps=kvs.map (fun kv=>(kV kv.1,kv.2))∧kvs.length≤15∧Q (.ref p) (upd H2 p (.dK (qEQ [] kvs)))
theorem qP8 {X:Cx} {pos:Pos} {keys:List (Option Expr)} {values:List Expr} {trs:List (TE×TE)} (h:PPs X pos keys values trs) (hall:keys.all (·.isSome)=true) (hl:keys.length=values.length) (h0:keys≠[])
    (h15:keys.length≤15):PE X (.Dict keys values pos) (qUS X.K trs):=by
  intro pins s σ H Q I q
  have hn:=I.hok.fresh (Nat.le_refl s.heap.objs.size)
  have I1:=I.laid (a:=s.heap.objs.size) (o:=.dK []) (h':=s.heap.push { cls:=.type "dict",data:=.dict #[] }) (t':=s.toks) (fun _ _ q=>Heap.get?_push_of_some _ q) (Nat.le_refl _) (qJy s.heap I.big)
  refine wpAny_Dict_walk (knd:=qAg X.prog X.w) hall hl h0 h15 (thn (h pins _ σ _ _ I1 (q _ hn (by cases e:X.K.lookup s.heap.objs.size with | none=>rfl | some o=>exact absurd (Heap.lt_size (I.kIn _ o e)) (Nat.lt_irrefl _)))) fun ws s2 hqz=>?_)
  obtain⟨ps,H2,I2,rel,e,kvs,ep,lk,q2⟩:=hqz
  subst ep
  obtain⟨rs,c,rk⟩:=qGQ (P:=X.prog) (w:=X.w) rel
  obtain⟨z,hd,vs0,r0,dd⟩:=qRc I2.hok e
  cases r0
  refine⟨rs,c,dd,fun h' dd' hs=>⟨.ref s.heap.objs.size,_,?_,rfl,q2⟩⟩
  have hz:(qEQ [] kvs).length≤sizeLine:=by
    have h1:=qED kvs []
    rw [List.length_nil] at h1
    rw [sizeLine_eq];lia
  have he:∃ q,h'.get? s.heap.objs.size=some q:=let ⟨q,_,_,hq,_⟩:=dd';⟨q,hq⟩
  exact qIZ I2 (by rw [e];exact True.intro) hs he (qOg hz hd (rk.merge .nil) dd')
end L2
set_option maxHeartbeats 4000000
namespace L2
open PySem PySem.Spec PyProof.Rows
noncomputable def qFQ (cells:List (Str×Addr)):List (Str×NameKind)→List (Str×Addr)→List (Str×Addr)
  | [],acc=>acc
  | (n,k)::r,acc=>qFQ cells r (if k = .free then (n,(cells.lookup n).getD 0)::acc else acc)
theorem qGT {env:Env} {f:(Str×NameKind)→List (Str×Addr)→Sem (ForInStep (List (Str×Addr)))}
    (h1:∀ n k acc,k≠.free→f (n,k) acc=pure (.yield acc)) (h2:∀ n acc c,env.cells.lookup n=some c→f (n,.free) acc=pure (.yield ((n,c)::acc))) :
    ∀ (names:List (Str×NameKind)) (acc:List (Str×Addr)),(∀ x∈names,x.2 = .free→∃ c,env.cells.lookup x.1=some c)→forIn names acc f=(pure (qFQ env.cells names acc):Sem (List (Str×Addr)))
  | [],acc,_=>by simp [qFQ]
  | (n,k)::r,acc,h=>by
    rw [List.forIn_cons]
    by_cases hk:k = .free
    · subst hk
      obtain⟨c,hc⟩:=h (n,.free) List.mem_cons_self rfl
      rw [h2 n acc c hc,pure_bind]
      show forIn r ((n,c)::acc) f=_
      rw [qGT h1 h2 r ((n,c)::acc) fun x hx=>h x (List.mem_cons_of_mem _ hx)]
      show _=pure (qFQ env.cells r (if NameKind.free = .free then (n,(env.cells.lookup n).getD 0)::acc else acc))
      rw [if_pos rfl,hc]
      rfl
    · rw [h1 n k acc hk,pure_bind]
      show forIn r acc f=_
      rw [qGT h1 h2 r acc fun x hx=>h x (List.mem_cons_of_mem _ hx)]
      show _=pure (qFQ env.cells r (if k = .free then (n,(env.cells.lookup n).getD 0)::acc else acc))
      rw [if_neg hk]
theorem qLi {env:Env} {sc:Scope} (h:∀ x∈sc.names,x.2 = .free→∃ c,env.cells.lookup x.1=some c):closureFor sc env=pure (qFQ env.cells sc.names []):=by
  simp only [closureFor]
  rw [qGT (env:=env) ?h1 ?h2 sc.names [] h,pure_bind]
  case h1 =>
    intro n k acc hk
    have:(k==NameKind.free)=false:=by simpa using hk
    simp only [this,Bool.false_eq_true,if_false]
  case h2 =>
    intro n acc c hc
    simp only [beq_self_eq_true,if_true,cellOf,hc]
    rfl
theorem qJm {cells:List (Str×Addr)} {x:Str} {c:Addr}:∀ (names:List (Str×NameKind)) (acc:List (Str×Addr)),(∀ y∈names,y.2 = .free→∃ c,cells.lookup y.1=some c)→(qFQ cells names acc).lookup x=some c→acc.lookup x=some c∨cells.lookup x=some c
  | [],acc,_,h=>.inl h
  | (n, k)::r,acc,hf,h=>by
    rcases qJm r _ (fun y hy=>hf y (List.mem_cons_of_mem _ hy)) h with h | h
    · by_cases hk:k = .free
      · rw [if_pos hk] at h
        obtain⟨c',hc'⟩:=hf (n,k) List.mem_cons_self hk
        have hc2:cells.lookup n=some c':=hc'
        rw [hc2] at h
        by_cases e:x=n
        · subst e
          simp at h
          subst h
          exact .inr hc2
        · have:(x==n)=false:=by simpa using e
          rw [List.lookup_cons,this] at h
          exact .inl h
      · rw [if_neg hk] at h
        exact .inl h
    · exact .inr h
theorem qFX {cells:List (Str×Addr)} {x:Str}:∀ (names:List (Str×NameKind)) (acc:List (Str×Addr)),((∃ c,acc.lookup x=some c)∨(x,NameKind.free)∈names)→∃ c,(qFQ cells names acc).lookup x=some c
  | [],acc,h=>by
    rcases h with h | h
    · exact h
    · cases h
  | (n, k)::r,acc,h=>by
    refine qFX r _ ?_
    rcases h with ⟨c,h⟩ | h
    · refine .inl ?_
      by_cases hk:k = .free
      · rw [if_pos hk,List.lookup_cons]
        by_cases e:(x==n)=true
        · rw [e];exact⟨_,rfl⟩
        · have e':(x==n)=false:=by simpa using e
          rw [e'];exact⟨c,h⟩
      · rw [if_neg hk];exact⟨c,h⟩
    · rcases List.mem_cons.mp h with e | h
      · injection e with e1 e2
        subst e1;subst e2
        refine .inl ?_
        rw [if_pos rfl,List.lookup_cons]
        simp
      · exact .inr h
theorem qDT {α:Type}:∀ {l:List (Str×α)} {x:Str} {k:α},l.lookup x=some k→(x,k)∈l
  | [],_,_,h=>by simp at h
  | (n,a)::r,x,k,h=>by
    rw [List.lookup_cons] at h
    by_cases e:x=n
    · subst e
      simp at h
      subst h
      exact List.mem_cons_self
    · have:(x==n)=false:=by simpa using e
      rw [this] at h
      exact List.mem_cons_of_mem _ (qDT h)
theorem qDB {env:Env}:∀ {names:List (Str×NameKind)} {x:Str} {k:NameKind},
    (names.map fun (n,k)=>if (k==NameKind.free&&env.scope.kind == .function&&env.kindOf n==some .cell) then (n,NameKind.cell) else (n,k)).lookup x=some k →
    ∃ k0,names.lookup x=some k0∧(k=k0∨k0 = .free)
  | [],_,_,h=>by simp at h
  | (n, k0)::r,x,k,h=>by
    rw [List.map_cons] at h
    by_cases e:x=n
    · subst e
      refine⟨k0,by simp,?_⟩
      by_cases hc:(k0==NameKind.free&&env.scope.kind == .function&&env.kindOf x==some .cell)=true
      · right
        simp at hc
        exact hc.1.1
      · left
        dsimp only at h
        rw [if_neg hc] at h
        simp at h
        exact h.symm
    · have e':(x==n)=false:=by simpa using e
      rw [List.lookup_cons,e']
      dsimp only at h
      split at h
      · rw [List.lookup_cons,e'] at h
        exact qDB h
      · rw [List.lookup_cons,e'] at h
        exact qDB h
theorem qDC {env:Env} (hk:env.scope.kind = .function):∀ {names:List (Str×NameKind)} {x:Str},names.lookup x=some .free→env.kindOf x=some .cell →
    (names.map fun (n,k)=>if (k==NameKind.free&&env.scope.kind == .function&&env.kindOf n==some .cell) then (n,NameKind.cell) else (n,k)).lookup x=some .cell
  | [],_,h,_=>by simp at h
  | (n,k0)::r,x,h,hx=>by
    rw [List.map_cons]
    by_cases e:x=n
    · subst e
      simp at h
      subst h
      have hc:(NameKind.free==NameKind.free&&env.scope.kind == .function&&env.kindOf x==some .cell)=true:=by simp [hk,hx]
      dsimp only
      rw [if_pos hc]
      simp
    · have e':(x==n)=false:=by simpa using e
      rw [List.lookup_cons,e'] at h
      dsimp only
      split
      · rw [List.lookup_cons,e'];exact qDC hk h hx
      · rw [List.lookup_cons,e'];exact qDC hk h hx
structure qAr (so:Scope) (N:List Str) (caps:List (Nat×Str)) (sc:Scope):Prop where
  kind:sc.kind = .function
  nocell:∀ y∈sc.names,y.2≠.cell
  names:∀ y∈sc.names,y.2 = .local→sc.names.lookup y.1=some .local
  free:∀ y∈sc.names,y.2 = .free→so.names.lookup y.1=some .cell
  caps:∀ p∈caps,N[p.1]? = some p.2∧so.names.lookup p.2=some .cell∧sc.names.lookup p.2=some .free
noncomputable def qIn (caps:List (Nat×Str)) (σ:St):St:=caps.map fun p=>(σ[p.1]?).join
noncomputable abbrev qAi (X:Cx) (L:List Str) (caps:List (Nat×Str)) (sc:Scope) (C:Addr) (s:Shared) (H:Hp) (fp:List Addr):Cx :=
  { X with N:=L++caps.map (·.2),s₀:=s,H₀:=H,env:=compEnvC sc (qFQ X.env.cells sc.names []) C X.env,outer:=X.stack,stack:=X.stack,ex:=fp,fn:=fun _=>false,pn:=[],xe:=fun _ _=>False }
theorem qEC {a b:Addr} {n:Nat} (h:a<n) (h2:n≤b):a≠b:=Nat.ne_of_lt (Nat.lt_of_lt_of_le h h2)
section
variable {X:Cx} {pins:List (Addr×Obj)} {σ:St} {H:Hp} {s:Shared} {L:List Str} {caps:List (Nat×Str)} {sc:Scope} {C D:Addr} {fp:List Addr}
theorem Inv.qLK (I:Inv X pins σ H s) (S:qAr X.env.scope X.N caps sc):∀ x∈sc.names,x.2 = .free→∃ c,X.env.cells.lookup x.1=some c:=fun x hx hf =>
  I.ok.has x.1 (.inl (S.free x hx hf))
theorem Inv.qFp (I:Inv X pins σ H s) (S:qAr X.env.scope X.N caps sc) {x:Str} {c:Addr} (h:(qFQ X.env.cells sc.names []).lookup x=some c):X.env.cells.lookup x=some c:=by
  rcases qJm sc.names [] (I.qLK S) h with h | h
  · simp at h
  · exact h
theorem qLN {h₁:Heap} {tk:Nat} {m:Str→Option Value} {oD:Obj} (I:Inv X pins σ H s) (S:qAr X.env.scope X.N caps sc) (hfp:∀ b∈fp,qHf X pins H b) (hfo:∀ b∈fp,∃ o,s.heap.get? b=some o)
    (hC:s.heap.objs.size≤C) (hn:h₁.Ns C m) (old:∀ b o,s.heap.get? b=some o→h₁.get? b=some o) (hD:s.heap.objs.size≤D) (hDC:D≠C) (eD:h₁.get? D=some oD) (dD:∀ v,oD.data≠.cell v) :
    Inv (qAi X L caps sc C s H fp) [(D,oD)] (List.replicate L.length none++qIn caps σ) H { s with heap:=h₁,toks:=tk }:=by
  have hcells:∀ x c,(qFQ X.env.cells sc.names []).lookup x=some c→∃ v,s.heap.IsCell c v:=fun x c e=>I.cell x c (I.qFp S e)
  refine⟨⟨I.ok.mod,S.kind,I.ok.glob,I.ok.blt,hC,fun x y c h1 h2=>I.ok.inj x y c (I.qFp S h1) (I.qFp S h2),fun x hx=>?_,fun _ _ h=>(Bool.false_ne_true h).elim,I.ok.hd,I.ok.frames,.inl rfl,fun b hb=>⟨?_,fun x c e=>(hfp b hb).2.2.2.2.1 x c (I.qFp S e)⟩,I.bs,Nat.le_trans I.ok.bsz I.sz,fun b o e hb=>?_,fun b hb hz=>?_,I.stack,I.qLq⟩,
    rfl,I.bare,Un.kept old,⟨m,hn,fun i x v e1 e2 e3=>?_⟩,fun x c e=>?_,I.hok.fresh hC,fun x c e=>I.freeC x c (I.qFp S e),fun p hp=>?_,I.hok.kept old,?_⟩
  · -- has
    have key:∀ k,(relabel sc X.env).names.lookup x=some k→(k = .cell∨k = .free)→(x,NameKind.free)∈sc.names:=fun k e hk=>by
      obtain⟨k0,e0,h0⟩:=qDB e
      have hm:=qDT e0
      rcases h0 with h0 | h0
      · subst h0
        rcases hk with hk | hk
        · exact absurd hk (S.nocell _ hm)
        · rw [hk] at hm;exact hm
      · rw [h0] at hm;exact hm
    have hm:(x,NameKind.free)∈sc.names:=by
      rcases hx with hx | hx
      · exact key _ hx (.inl rfl)
      · exact key _ hx (.inr rfl)
    exact qFX sc.names [] (.inr hm)
  · obtain⟨o,e⟩:=hfo b hb
    exact Nat.ne_of_lt (Nat.lt_of_lt_of_le (Heap.lt_size e) hC)
  · rcases (hfp b hb).2.2.2.1 with z | z
    · exact I.ok.noex b o e z
    · exact absurd (Nat.lt_of_lt_of_le (Heap.lt_size e) (Nat.le_trans I.ok.bsz z)) (Nat.lt_irrefl _)
  · rcases List.mem_cons.mp (I.qIt b hz) with z | z
    · exact (hfp b hb).2.1 z
    · exact (hfp b hb).2.2.1 z
  · -- loc
    have e1':(L++caps.map (·.2))[i]? = some x:=e1
    by_cases hi:i<L.length
    · rw [List.getElem?_append_left (by simpa using hi),List.getElem?_replicate] at e2
      split at e2<;>cases e2
    · rw [List.getElem?_append_right (by simpa using Nat.not_lt.mp hi),List.length_replicate] at e2
      rw [List.getElem?_append_right (Nat.not_lt.mp hi)] at e1'
      unfold qIn at e2
      rw [List.getElem?_map] at e1' e2
      cases hp:caps[i - L.length]? with
      | none=>rw [hp] at e1';cases e1'
      | some p =>
        rw [hp] at e1' e2
        have ex:p.2=x:=Option.some.inj e1'
        have ev:(σ[p.1]?).join=some v:=Option.some.inj e2
        have ev':σ[p.1]? = some (some v):=by
          cases q:σ[p.1]? with
          | none=>rw [q] at ev;cases ev
          | some o=>rw [q] at ev;exact congrArg some ev
        obtain⟨c1,c2,c3⟩:=S.caps p (List.mem_of_getElem? hp)
        obtain⟨m0,hn0,hl⟩:=I.loc
        rw [ex] at c1 c2 c3
        obtain⟨u,r,l⟩:=hl p.1 x v c1 ev' (.inr (.inl c2))
        refine⟨u,r,.inr ⟨.inl (qDC I.ok.kind c3 c2),?_⟩⟩
        rcases l with ⟨hk,_⟩ | ⟨_,c,hc,hcell⟩
        · have:X.env.scope.names.lookup x=some .local:=hk
          rw [c2] at this;cases this
        · obtain⟨c',hc'⟩:=qFX (cells:=X.env.cells) sc.names [] (.inr (qDT c3))
          have:=I.qFp S hc'
          rw [hc] at this
          cases this
          obtain⟨o,ho,hd⟩:=hcell
          exact⟨c,hc',o,old _ _ ho,hd⟩
  · obtain⟨v,o,ho,hd⟩:=hcells x c e
    exact⟨v,o,old _ _ ho,hd⟩
  · have:p∈[(D,oD)]:=hp
    have ep:p=(D,oD):=by simpa using this
    subst ep
    refine⟨eD,I.hok.fresh hD,hDC,fun z=>?_,dD⟩
    have zz:H D=none:=I.hok.fresh hD
    obtain⟨_,o,ho,_⟩:=(I.stack).mem z
    exact absurd (Nat.lt_of_lt_of_le (Heap.lt_size ho) hD) (Nat.lt_irrefl _)
  · show (List.replicate L.length none++qIn caps σ).length=(L++caps.map (·.2)).length
    unfold qIn
    simp
def PIf (X:Cx) (ifs:List Expr) (t:TT):Prop :=
  ∀ (pins:List (Addr×Obj)) (s:Shared) (σ:St) (H:Hp) (Q:Bool→Hp→Prop),Inv X pins σ H s→t σ H Q →
    wpAny (model X.prog X.w) X.A (forIn ifs true fun c r=>if r=true then do let ok ← isTrue c X.env (eval c X.env);pure (ForInStep.yield ok) else pure (ForInStep.yield r)) (TP X pins σ Q) X.xe s
theorem qQ3:PIf X [] (fun _ H Q=>Q true H):=fun pins s σ H Q I h=>wpAny_tests_nil ⟨H,I,h⟩
theorem qQP {c:Expr} {t:TT} (h:PT X c t):PIf X [c] t:=fun pins s σ H Q I hq=>wpAny_tests_one (h pins s σ H Q I hq)
theorem qJM {prog:Program} {w:World} {A:Around} {R:Result→Shared→Prop} {s:Shared} {elt target iter:Expr} {ifs:List Expr} {scope:Scope} {pos:Pos} {it acc:Value} {env:Env} (I:Nat→Shared→Prop)
    (turn : ∀ n s,I n s→wpAny (model prog w) A (pyNext it) (fun r s₁=>match r with
      | none=>R (.ok .next) s₁
      | some v=>wpAny (model prog w) A (letOwnedTupleGo target it v) (fun _ s1'=>wpAny (model prog w) A (assign target env v) (fun _ s₂ =>
          wpAny (model prog w) A (forIn ifs true fun c r=>if r=true then do let ok ← isTrue c env (eval c env);pure (ForInStep.yield ok) else pure (ForInStep.yield r)) (fun ok s₃ =>
            if ok=true then wpAny (model prog w) A (eval elt env) (fun x s₄ =>
              wpAny (model prog w) A (call (.builtin "list.append") [acc,x]) (fun _ s₅=>∃ m,m<n∧I m s₅) (fun _ _=>False) s₄) (fun _ _=>False) s₃
            else ∃ m,m<n∧I m s₃) (fun _ _=>False) s₂) (fun _ _=>False) s1') (fun _ _=>False) s₁) (fun _ _=>False) s)
    (n:Nat) (h:I n s):codeAny (model prog w) A (.compLoop (.ListComp elt [⟨target,iter,ifs,0⟩] scope pos) 0 it acc env) R s:=by
  refine codeAny_loop rfl I (fun n s hI=>?_) n h
  show wpAny _ A ((compTurn (.ListComp elt [⟨target,iter,ifs,0⟩] scope pos) 0 it acc env).onRaise (fun x=>do noteFrame x env;theTreesLotGoes x)) _ _ s
  refine wpAny_noted ?_
  rw [compTurn_list]
  refine wpAny_bind (wpAny_standAt (wpAny_bind (wpAny_mono (turn n s hI) (fun r s₁ h₁=>?_) fun _ _ h'=>h'.elim)))
  cases r with
  | none=>exact wpAny_pure h₁
  | some v =>
    refine wpAny_bind (wpAny_mono h₁ (fun _ s1' h1'=>?_) fun _ _ h'=>h'.elim)
    refine wpAny_bind (wpAny_mono h1' (fun _ s₂ h₂=>wpAny_bind (wpAny_mono h₂ (fun ok s₃ h₃=>?_) fun _ _ h'=>h'.elim)) fun _ _ h'=>h'.elim)
    cases ok with
    | false=>exact wpAny_pure ⟨rfl,h₃⟩
    | true =>
      exact wpAny_bind (wpAny_bind (wpAny_mono h₃ (fun x s₄ h₄=>wpAny_bind (wpAny_mono h₄ (fun _ s₅ h₅=>wpAny_pure (wpAny_pure ⟨rfl,h₅⟩)) fun _ _ h'=>h'.elim)) fun _ _ h'=>h'.elim))
def qME (J:It) (g:TG) (tc:TT) (te:TE) (σ0:St) (H1:Hp) (Fin:List V→Hp→Prop):Prop :=
  ∃ W : Nat→Nat→St→List V→Hp→Prop,(∃ m,W 0 m σ0 [] H1)∧∀ i m σ ys H,W i m σ ys H →
    (J.stop i H∧Fin ys H)∨(J.go i H∧ys.length<sizeLine∧∀ x H',J.yld i H x H'→g x σ H' fun σ2 H2=>tc σ2 H2 fun b H3 =>
      if b=true then te σ2 H3 fun y H4=>∃ m',m'<m∧W (i+1) m' σ2 (ys++[y]) H4 else ∃ m',m'<m∧W (i+1) m' σ2 ys H3)
theorem qHE {elt iter tg:Expr} {ifs:List Expr} {pos:Pos} {g:TG} {tc:TT} {te:TE} {J:It} {it:Addr} {tn:Nat→Heap→Prop} {Fin:List V→Hp→Prop} {RR:Value→Addr→Result→Shared→Prop} {E:Value→Shared→Prop} {s₂:Shared}
    (hc:X.calm=true) (S:qAr X.env.scope X.N caps sc) (I:Inv X pins σ H s₂) (T:Turn X.prog X.w X.K tg J fp it tn) (st:tn 0 s₂.heap) (hfp:∀ b∈fp,qHf X pins H b)
    (hg:∀ C,PG (qAi X L caps sc C s₂ H fp) tg g) (hif:∀ C,PIf (qAi X L caps sc C s₂ H fp) ifs tc) (he:∀ C,PE (qAi X L caps sc C s₂ H fp) elt te)
    (hW:qME J g tc te (List.replicate L.length none++qIn caps σ) H Fin)
    (hRR:∀ C D s' m ys H',Inv X pins σ (upd H' D (.lst ys)) s'→s'.heap.Ns C m→qHf X pins (upd H' D (.lst ys)) C→H' D=none→Fin ys H'→RR (.ref D) C (.ok .next) s') :
    wpAny (model X.prog X.w) X.A (newList []) (fun acc s₃=>wpAny (model X.prog X.w) X.A (newFunctionEnv sc X.env.globals (qFQ X.env.cells sc.names []) [] X.env.qual none .none (some X.env)) (fun cenv s₄ =>
      codeAny (model X.prog X.w) X.A (.compStart (.ListComp elt [⟨tg,iter,ifs,0⟩] sc pos) 0 (.ref it) acc { cenv with scope:=relabel sc X.env }) (RR acc cenv.locals) s₄) E s₃) E s₂:=by
  refine wpAny_newObj_type (wpAny_newFunctionEnv S.nocell (by intro y hy;simp at hy) (fun h₁ hns₁ hsb₁=>?_) S.kind)
  dsimp only at hns₁ hsb₁ ⊢
  generalize hH2:s₂.heap.push { cls:=.type "list",dict:=none,data:=.seq ([]:List Value).toArray }=H2 at hns₁ hsb₁ ⊢
  have hCs:H2.objs.size=s₂.heap.objs.size+1:=by rw [← hH2,Heap.size_push]
  have hDC:s₂.heap.objs.size≠H2.objs.size:=by rw [hCs];exact Nat.ne_of_lt (Nat.lt_succ_self _)
  have hCle:s₂.heap.objs.size≤H2.objs.size:=by rw [hCs];exact Nat.le_succ _
  have below:∀ b,b<s₂.heap.objs.size→b≠H2.objs.size∧b≠s₂.heap.objs.size:=fun b hb=>⟨by rw [hCs];exact Nat.ne_of_lt (Nat.lt_succ_of_lt hb),Nat.ne_of_lt hb⟩
  have old:∀ b o,s₂.heap.get? b=some o→h₁.get? b=some o:=fun b o e=>hsb₁.extBut b o (below b (Heap.lt_size e)).1 (Heap.get?_push_of_some _ (hH2 ▸ Heap.get?_push_of_some _ e))
  have hacc:h₁.get? s₂.heap.objs.size=some { cls:=.type "list",data:=.seq ([]:List Value).toArray }:=hsb₁.extBut _ _ hDC (Heap.get?_push_of_some _ (hH2 ▸ Heap.get?_push_size _ rfl))
  generalize hCn:H2.objs.size=C at hns₁ hsb₁ hDC hCle below ⊢
  generalize hDn:s₂.heap.objs.size=D at hacc hDC ⊢
  have hDle:s₂.heap.objs.size≤D:=Nat.le_of_eq hDn
  have fo:∀ b∈fp,∃ o,s₂.heap.get? b=some o:=fun b hb=>let ⟨o,e,_⟩:=T.obj 0 _ st b hb;⟨o,e⟩
  have bD:∀ b∈fp,D≠b:=fun b hb z=>by
    obtain⟨o,e⟩:=fo b hb
    exact qEC (Heap.lt_size e) hDle z.symm
  have cD:∀ x c,X.env.cells.lookup x=some c→c≠D:=fun x c e=>by
    obtain⟨v,o,ho,_⟩:=I.cell x c e
    exact qEC (Heap.lt_size ho) hDle
  have cC:∀ x c,X.env.cells.lookup x=some c→c≠C:=fun x c e=>by
    obtain⟨v,o,ho,_⟩:=I.cell x c e
    exact qEC (Heap.lt_size ho) hCle
  have start:=fun tk=>qLN (L:=L) (fp:=fp) (tk:=tk) I S hfp fo hCle hns₁ old hDle hDC hacc (fun v z=>by
    have z':Data.seq _ _=Data.cell v:=z
    cases z')
  obtain⟨W,⟨m0,w0⟩,turn⟩:=hW
  -- the static facts of the iterator's records in the block
  have stat:∀ {pl:List (Addr×Obj)} {H':Hp},(∀ b∈fp,H' b=none)→(∀ p∈pl,p.1=D)→∀ b∈fp,qHf (qAi X L caps sc C s₂ H fp) pl H' b:=fun {pl H'} hn hpl b hb=>by
    obtain⟨f0,f1,f2,f3,f4,f5⟩:=hfp b hb
    obtain⟨o,e⟩:=fo b hb
    refine⟨hn b hb,(below b (Heap.lt_size e)).1,fun z=>?_,.inl hb,fun x c e'=>f4 x c (I.qFp S e'),fun p hp z=>?_⟩
    · rcases List.mem_cons.mp (I.qIt b z) with z | z
      · exact f1 z
      · exact f2 z
    · have hp':p∈pl:=hp
      exact bD b hb ((hpl p hp').symm.trans z)
  have fin:∀ (s':Shared) (σ':St) (H':Hp) (ys:List V) (its:List Value) (n:Nat),Inv (qAi X L caps sc C s₂ H fp) [(D,{ cls:=.type "list",data:=.seq its.toArray n })] σ' H' s'→Vals ys its→ys.length≤sizeLine→Fin ys H'→RR (.ref D) C (.ok .next) s':=fun s' σ' H' ys its n I' rv hz hF=>by
    obtain⟨m,hm,_⟩:=I'.loc
    obtain⟨eD,hDn',_,_,_⟩:=I'.pin (D,{ cls:=.type "list",data:=.seq its.toArray n }) (by simp)
    have eD':s'.heap.get? D=some { cls:=.type "list",data:=.seq its.toArray n }:=eD
    have hDnone:H' D=none:=hDn'
    have hCnone:H' C=none:=I'.free
    have neD:∀ b o,s₂.heap.get? b=some o→b≠D:=fun b o e=>qEC (Heap.lt_size e) hDle
    have neH:∀ b u,H b=some u→b≠D:=fun b u e=>qEC (I.hok.lt e) hDle
    have ub:=I'.base
    have hok:HOk X.K X.prog X.w (upd H' D (.lst ys)) s'.heap:=fun b u e=>by
      by_cases hb:b=D
      · subst hb
        rw [qAH] at e
        cases e
        exact⟨hz,its,n,rv,eD'⟩
      · rw [qg hb] at e
        exact (I'.hok b u e).stay (fun c v _ q=>q) (fun c q=>by rw [qg (qAD q hDnone)];exact q) fun c xs q=>by rw [qg (qAD q hDnone)];exact q
    have un:Un (frs X.stack) fp H (upd H' D (.lst ys)) s₂.heap s'.heap:=⟨ub.keep,ub.slot,fun b o e n hx=>by rw [qg (neD b o e)];exact ub.free b o e n hx,ub.there,fun b xs e=>by rw [qg (neH b _ e)];exact ub.tups b xs e,
      fun b o u e=>by rw [qg (neH b _ e)];exact ub.frzs b o u e,fun b ps e=>by rw [qg (neH b _ e)];exact ub.tbls b ps e⟩
    have IX:Inv X pins σ (upd H' D (.lst ys)) s':=I.qUu (ch:=fp) I'.os un hok I'.bare fun b hb=>by
      obtain⟨f0,f1,f2,f3,f4,f5⟩:=hfp b hb
      exact⟨f3,f1,f4,f5⟩
    refine hRR C D s' m ys H' IX hm ⟨by rw [qg (Ne.symm hDC)];exact hCnone,?_,?_,.inr (Nat.le_trans I.sz hCle),cC,fun p hp=>?_⟩ hDnone hF
    · exact Ne.symm (qEC I.lt hCle)
    · exact I.qUd hCle
    · exact qEC (Heap.lt_size (I.pin p hp).1) hCle
  have loop:∀ s₃:Shared,s₃={ s₂ with heap:=h₁,toks:=s₂.toks+([]:List (Str×Value)).length } →
      codeAny (model X.prog X.w) X.A (.compLoop (.ListComp elt [⟨tg,iter,ifs,0⟩] sc pos) 0 (.ref it) (.ref D) (compEnvC sc (qFQ X.env.cells sc.names []) C X.env)) (RR (.ref D) C) s₃:=by
    rintro s₃ rfl
    refine qJM (fun k s'=>∃ i σ' H' ys its n,Inv (qAi X L caps sc C s₂ H fp) [(D,{ cls:=.type "list",data:=.seq its.toArray n })] σ' H' s'∧tn i s'.heap∧(∀ b∈fp,H' b=none)∧Vals ys its∧ys.length≤sizeLine∧W i k σ' ys H') ?_ m0
      ⟨0,_,H,[],[],0,start _,T.keep 0 _ _ st (fun b hb o e=>old b o e),fun b hb=>(hfp b hb).1,.nil,Nat.zero_le _,w0⟩
    rintro k s' ⟨i,σ',H',ys,its,n,I',st',fr',rv,hz,w'⟩
    have hpl:∀ p∈[(D,({ cls:=.type "list",data:=.seq its.toArray n }:Obj))],p.1=D:=fun p hp=>by
      rcases List.mem_cons.mp hp with e | e
      · rw [e]
      · cases e
    rcases turn i k σ' ys H' w' with ⟨stop,hF⟩ | ⟨go,hlen,step⟩
    · refine thn (T.done (qAi X L caps sc C s₂ H fp) rfl rfl rfl hc i _ s' σ' H' _ I' (stat fr' hpl) st' stop) fun r s4 hqz=>?_
      obtain⟨hr,I4⟩:=hqz
      subst hr
      exact fin s4 σ' H' ys its n I4 rv hz hF
    · refine thn (T.item (qAi X L caps sc C s₂ H fp) rfl rfl rfl hc i _ s' σ' H' _ I' (stat fr' hpl) st' go) fun r s4 hqz=>?_
      obtain⟨u,hr,h4⟩:=hqz
      subst hr
      refine thn h4 fun _ s5 hqz=>?_
      obtain⟨x,H5,I5,r5,y5,st5,fr5⟩:=hqz
      have I5':=I5.pinned (stat fr5 hpl) (T.obj _ _ st5)
      refine thn (hg C _ s5 σ' H5 x u _ I5' r5 (step x H5 y5)) fun _ s6 hqz=>?_
      obtain⟨σ6,H6,I6,q6⟩:=hqz
      refine thn (hif C _ s6 σ6 H6 _ I6 q6) fun ok s7 hqz=>?_
      obtain⟨H7,I7,q7⟩:=hqz
      have back:∀ {σ8:St} {H8:Hp} {s8:Shared},Inv (qAi X L caps sc C s₂ H fp) ([(D,{ cls:=.type "list",data:=.seq its.toArray n })]++qHC fp s5.heap) σ8 H8 s8 →
          tn (i+1) s8.heap∧∀ b∈fp,H8 b=none:=fun {σ8 H8 s8} I8=>by
        refine⟨T.keep _ _ _ st5 fun b hb o e=>(I8.pin (b,o) (List.mem_append_right _ (List.mem_append_right _ (qDD hb e)))).1,fun b hb=>?_⟩
        obtain⟨o,e,d⟩:=T.obj _ _ st5 b hb
        exact (I8.pin (b,o) (List.mem_append_right _ (List.mem_append_right _ (qDD hb e)))).2.1
      cases ok with
      | false =>
        rw [if_neg Bool.false_ne_true] at q7
        rw [if_neg Bool.false_ne_true]
        obtain⟨m',hm',w7⟩:=q7
        obtain⟨b1,b2⟩:=back I7
        exact⟨m',hm',i+1,σ6,H7,ys,its,n,I7.qE4,b1,b2,rv,hz,w7⟩
      | true =>
        rw [if_pos rfl] at q7
        rw [if_pos rfl]
        refine thn (he C _ s7 σ6 H7 _ I7 q7) fun yv s8 hqz=>?_
        obtain⟨y,H8,I8,r8,m',hm',w8⟩:=hqz
        obtain⟨b1,b2⟩:=back I8
        obtain⟨eD,hDn8,neL8,nf8,_⟩:=I8.pin (D,{ cls:=.type "list",data:=.seq its.toArray n }) (by simp)
        have hl:=rv.length
        refine append_at (s:=s8) eD (fun h9 sb e9=>?_) (by simp only [List.size_toArray];lia)
        have I8':Inv (qAi X L caps sc C s₂ H fp) [] σ6 H8 s8:=I8.qGF fun p hp=>nomatch hp
        have I9:Inv (qAi X L caps sc C s₂ H fp) [] σ6 H8 { s8 with heap:=h9 }:=I8'.turned (t':=s8.toks) (it:=D) (fun b o hb e=>(sb.2 b hb).trans e) hDn8 neL8 (.inr hDle) (fun x c e=>cD x c (I.qFp S e)) fun p hp=>nomatch (show p∈([]:List (Addr×Obj)) from hp)
        have ep:its.toArray.push yv=(its++[yv]).toArray:=by simp
        rw [ep] at e9
        refine⟨m',hm',i+1,σ6,H8,ys++[y],its++[yv],n+1,I9.qGF fun p hp=>?_,T.keep _ _ _ b1 fun b hb o e=>(sb.2 b (Ne.symm (bD b hb))).trans e,b2,Vals.append rv (.cons r8 .nil),by rw [List.length_append];exact hlen,w8⟩
        obtain rfl:p=(D,({ cls:=.type "list",data:=.seq (its++[yv]).toArray (n+1) }:Obj)):=by
          rcases List.mem_cons.mp hp with e | e
          · exact e
          · cases e
        exact⟨e9,hDn8,neL8,nf8,fun v z=>by
          have z':Data.seq _ _=Data.cell v:=z
          cases z'⟩
  exact codeAny_compStart_list (loop _ rfl) (T.self X.A 0 _ _ _ (T.keep 0 _ _ st fun b hb o e=>old b o e) (loop _ rfl))
noncomputable def qL1 (wi:TI) (g:TG) (tc:TT) (te:TE) (nL:Nat) (caps:List (Nat×Str)):TE:=fun σ H Q=>wi σ H fun J H1 =>
  qME J g tc te (List.replicate nL none++qIn caps σ) H1 fun ys H2=>∀ p,H2 p=none→Q (.ref p) (upd H2 p (.lst ys))
theorem qLn {elt iter tg:Expr} {ifs:List Expr} {pos:Pos} {wi:TI} {g:TG} {tc:TT} {te:TE} (L:List Str) (caps:List (Nat×Str)) (hc:X.calm=true) (S:qAr X.env.scope X.N caps sc) (hi:PI X tg iter wi)
    (hg:∀ C s H fp,PG (qAi X L caps sc C s H fp) tg g) (hif:∀ C s H fp,PIf (qAi X L caps sc C s H fp) ifs tc) (he:∀ C s H fp,PE (qAi X L caps sc C s H fp) elt te)
    (hs:∀ x,foldedSetIterable iter X.env x=pure x:=by intro _;rfl):PE X (.ListComp elt [⟨tg,iter,ifs,0⟩] sc pos) (qL1 wi g tc te L.length caps):=by
  k_dat 0"r2"
  rw [eval_ListComp]
  refine wpAny_comprehension_free (use:=none) rfl hs (qLi (I.qLK S)) S.kind S.names (thn (hi pins s σ H _ I h) fun v s1 h1=>thn h1 fun itv s2 h2=>?_)
  obtain⟨it,fp,tn,J,H2,e,I2,T,st2,f2,hW⟩:=h2
  subst e
  refine qHE (L:=L) (RR:=fun acc C=>compPost (model X.prog X.w) X.A X.xe none (EP X pins σ Q) acc C) hc S I2 T st2 f2 (fun C=>hg C _ _ _) (fun C=>hif C _ _ _) (fun C=>he C _ _ _) hW ?_
  intro C D s' m ys H' I' hn hC hDn hF
  refine⟨m,hn,fun h' sb=>?_⟩
  obtain⟨f0,f1,f2,f3,f4,f5⟩:=hC
  exact⟨.ref D,_,I'.turned (t':=s'.toks) (it:=C) (fun b o hb e=>(sb.2 b hb).trans e) f0 f1 f3 f4 f5,rfl,hF D hDn⟩
theorem qRA {elt iter tg:Expr} {ifs:List Expr} {pos py spos:Pos} {wi:TI} {g:TG} {tc:TT} {te:TE} {i:Nat} {y:Str} (L:List Str) (caps:List (Nat×Str)) (hc:X.calm=true) (hN:X.N.Nodup) (hy:X.N[i]? = some y) (hyl:X.env.scope.names.lookup y=some .local)
    (S:qAr X.env.scope X.N caps sc) (hi:PI X tg iter wi)
    (hg:∀ C s H fp,PG (qAi X L caps sc C s H fp) tg g) (hif:∀ C s H fp,PIf (qAi X L caps sc C s H fp) ifs tc) (he:∀ C s H fp,PE (qAi X L caps sc C s H fp) elt te)
    (hsw:swapsWith (.ListComp elt [⟨tg,iter,ifs,0⟩] sc pos) (some (.Name y py)) spos.line X.env=pure true:=by rfl)
    (hs:∀ x,foldedSetIterable iter X.env x=pure x:=by intro _;rfl):PS X (.Assign [.Name y py] (.ListComp elt [⟨tg,iter,ifs,0⟩] sc pos) spos) (qQY (qL1 wi g tc te L.length caps) (qG6 i)):=by
  k_dat 0"r15"
  rw [exec_Assign_Name_used _ _ _ _ hsw]
  refine wpAny_bind (wpAny_standAt (wpAny_bind ?_))
  show wpAny _ X.A (do let _ ← comprehension (.ListComp elt [⟨tg,iter,ifs,0⟩] sc pos) sc X.env _ (newList []) false (eval iter X.env) (some (assign (.Name y py) X.env))) _ _ s
  refine wpAny_bind (wpAny_mono (wpAny_comprehension_free (use:=some (assign (.Name y py) X.env)) (Q:=fun _ s'=>SP X pins D .next s') rfl hs (qLi (I.qLK S)) S.kind S.names
    (thn (hi pins s σ H _ I h) fun v s1 h1=>thn h1 fun itv s2 h2=>?_)) (fun _ s' hq=>wpAny_pure (wpAny_pure hq)) fun _ _ e=>e)
  obtain⟨it,fp,tn,J,H2,e,I2,T,st2,f2,hW⟩:=h2
  subst e
  refine qHE (L:=L) (RR:=fun acc C=>compPost (model X.prog X.w) X.A X.xe (some (assign (.Name y py) X.env)) (fun _ s'=>SP X pins D .next s') acc C) hc S I2 T st2 f2 (fun C=>hg C _ _ _) (fun C=>hif C _ _ _) (fun C=>he C _ _ _) hW ?_
  intro C Dd s' m ys H' I' hn hC hDn hF
  obtain⟨f0,f1,f2,f3,f4,f5⟩:=hC
  show wpAny _ X.A (assign (.Name y py) X.env (.ref Dd)) _ _ _
  refine wpAny_assign_Name (qII (v:=.ref Dd) I' hN hy (.inl hyl) rfl (fun s'' I'' hsb=>?_) (.inr hyl))
  obtain⟨a,hsb,ha⟩:=hsb
  have hL:a≠C:=by
    rcases ha with z | z
    · rw [z];exact Ne.symm f1
    · exact f4 y a z
  refine⟨m,hn.sameBut hsb (Ne.symm hL),fun h' sb=>?_⟩
  exact⟨_,_,I''.turned (t':=s''.toks) (it:=C) (fun b o hb e=>(sb.2 b hb).trans e) f0 f1 f3 f4 f5,hF Dd hDn⟩
end
end L2
namespace L3
open PySem PySem.Spec PyProof.Rows L2
inductive Dt where
  | non | bl (b:Bool) | int (i:Int) | str (x:Str) | tup (xs:List Dt) | lst (n:Nat) | ty (n:String) | dic (n:Nat) | ins (n:Nat) | exc (n:String)
inductive SO where
  | ro (xs:List Dt) | rw (xs:List Dt) | dc (kvs:List (Key×Dt)) | dt (kvs:List (List Key×Dt)) | ob (C:Str) (fs:List (Str×Dt))
noncomputable def SO.items:SO→List Dt
  | .ro xs=>xs
  | .rw xs=>xs
  | .dc _=>[]
  | .dt _=>[]
  | .ob _ _=>[]
def IsL (K:W.Frag) (H:Hp) (a:Addr):Prop:=∃ vs,SqL K H a vs
noncomputable def qVi:HO→Bool
  | .dK _=>true
  | .dT _=>true
  | _=>false
def IsD (H:Hp) (a:Addr):Prop:=∃ u,H a=some u∧qVi u=true
def IsO (H:Hp) (a:Addr):Prop:=∃ C dx fs,H a=some (.ins C dx fs)
noncomputable abbrev Sto:=List SO
noncomputable abbrev Rho:=List (Option Dt)
mutual
noncomputable def D (K:W.Frag) (φ:Nat→Addr) (N:Nat) (H:Hp):Dt→V→Prop
  | .non,v=>v = .non
  | .bl b,v=>v = .bl b
  | .int i,v=>v = .int i
  | .str x,v=>v = .str x
  | .ty n,v=>v = .ty n
  | .tup ds,v=>∃ a vs,v = .ref a∧SqT K H a vs∧DL K φ N H ds vs
  | .lst n,v=>n<N∧v = .ref (φ n)∧IsL K H (φ n)
  | .dic n,v=>n<N∧v = .ref (φ n)∧IsD H (φ n)
  | .ins n,v=>n<N∧v = .ref (φ n)∧IsO H (φ n)
  | .exc n,v=>∃ a o C,v = .ref a∧H a=some (.frz o (.own 0))∧W.nsIn K mainGlobals (Str.ofString n)=some (some (.ref C))∧o.cls = .ref C
noncomputable def DL (K:W.Frag) (φ:Nat→Addr) (N:Nat) (H:Hp):List Dt→List V→Prop
  | [],vs=>vs=[]
  | d::ds,vs=>∃ v r,vs=v::r∧D K φ N H d v∧DL K φ N H ds r
end
structure Evo (K:W.Frag) (φ:Nat→Addr) (N:Nat) (H:Hp) (φ':Nat→Addr) (N':Nat) (H':Hp):Prop where
  le:N≤N'
  ext:∀ i,i<N→φ' i=φ i
  tup:∀ a vs,SqT K H a vs→SqT K H' a vs
  lst:∀ i,i<N→IsL K H (φ i)→IsL K H' (φ i)
  dic:∀ i,i<N→IsD H (φ i)→IsD H' (φ i)
  ins:∀ i,i<N→IsO H (φ i)→IsO H' (φ i)
  frz:∀ a o u,H a=some (.frz o u)→H' a=some (.frz o u)
section
variable {K:W.Frag} {φ φ' φ1 φ2:Nat→Addr} {N N' N1 N2:Nat} {H H' H1 H2:Hp}
theorem Evo.refl:Evo K φ N H φ N H:=⟨Nat.le_refl _,fun _ _=>rfl,fun _ _ h=>h,fun _ _ h=>h,fun _ _ h=>h,fun _ _ h=>h,fun _ _ _ h=>h⟩
theorem Evo.trans (a:Evo K φ N H φ1 N1 H1) (b:Evo K φ1 N1 H1 φ2 N2 H2):Evo K φ N H φ2 N2 H2 :=
  ⟨Nat.le_trans a.le b.le,fun i hi=>(b.ext i (Nat.lt_of_lt_of_le hi a.le)).trans (a.ext i hi),fun x vs h=>b.tup x vs (a.tup x vs h), 
    fun i hi h=>(fun q:IsL K H1 (φ1 i)→IsL K H2 (φ1 i)=>a.ext i hi ▸ q (a.ext i hi ▸ a.lst i hi h)) (b.lst i (Nat.lt_of_lt_of_le hi a.le)),
    fun i hi h=>(fun q:IsD H1 (φ1 i)→IsD H2 (φ1 i)=>a.ext i hi ▸ q (a.ext i hi ▸ a.dic i hi h)) (b.dic i (Nat.lt_of_lt_of_le hi a.le)),
    fun i hi h=>(fun q:IsO H1 (φ1 i)→IsO H2 (φ1 i)=>a.ext i hi ▸ q (a.ext i hi ▸ a.ins i hi h)) (b.ins i (Nat.lt_of_lt_of_le hi a.le)),
    fun x o u h=>b.frz x o u (a.frz x o u h)⟩
mutual
theorem D.evo (e:Evo K φ N H φ' N' H'):∀ {d:Dt} {v:V},D K φ N H d v→D K φ' N' H' d v
  | .non,_,h=>by simpa [D] using h
  | .bl _,_,h=>by simpa [D] using h
  | .int _,_,h=>by simpa [D] using h
  | .str _,_,h=>by simpa [D] using h
  | .ty _,_,h=>by simpa [D] using h
  | .tup ds,v,h=>by
    simp only [D] at h ⊢
    obtain⟨a,vs,h1,h2,h3⟩:=h
    exact⟨a,vs,h1,e.tup a vs h2,DL.evo e h3⟩
  | .lst n,v,h=>by
    simp only [D] at h ⊢
    obtain⟨h1,h2,h3⟩:=h
    exact⟨Nat.lt_of_lt_of_le h1 e.le,by rw [e.ext n h1];exact h2,by rw [e.ext n h1];exact e.lst n h1 h3⟩
  | .dic n,v,h=>by
    simp only [D] at h ⊢
    obtain⟨h1,h2,h3⟩:=h
    exact⟨Nat.lt_of_lt_of_le h1 e.le,by rw [e.ext n h1];exact h2,by rw [e.ext n h1];exact e.dic n h1 h3⟩
  | .ins n,v,h=>by
    simp only [D] at h ⊢
    obtain⟨h1,h2,h3⟩:=h
    exact⟨Nat.lt_of_lt_of_le h1 e.le,by rw [e.ext n h1];exact h2,by rw [e.ext n h1];exact e.ins n h1 h3⟩
  | .exc n,v,h=>by
    simp only [D] at h ⊢
    obtain⟨a,o,C,h1,h2,h3⟩:=h
    exact⟨a,o,C,h1,e.frz _ _ _ h2,h3⟩
theorem DL.evo (e:Evo K φ N H φ' N' H'):∀ {ds:List Dt} {vs:List V},DL K φ N H ds vs→DL K φ' N' H' ds vs
  | [],vs,h=>by simpa [DL] using h
  | d::ds,vs,h=>by
    simp only [DL] at h ⊢
    obtain⟨v,r,h1,h2,h3⟩:=h
    exact⟨v,r,h1,D.evo e h2,DL.evo e h3⟩
end
theorem DL.length:∀ {ds:List Dt} {vs:List V},DL K φ N H ds vs→ds.length=vs.length
  | [],vs,h=>by simp only [DL] at h;rw [h];rfl
  | d::ds,vs,h=>by
    k_dat 0"r12"
    obtain⟨v,r,h1,_,h3⟩:=h
    rw [h1,List.length_cons,List.length_cons,DL.length h3]
theorem DL.get:∀ {ds:List Dt} {vs:List V} {i:Nat} {d:Dt},DL K φ N H ds vs→ds[i]? = some d→∃ v,vs[i]? = some v∧D K φ N H d v
  | [],_,_,_,_,e=>by simp at e
  | d::ds,vs,0,d',h,e=>by
    k_dat 0"r12"
    obtain⟨v,r,h1,h2,_⟩:=h
    simp at e
    subst e;subst h1
    exact⟨v,rfl,h2⟩
  | d::ds,vs,i+1,d',h,e=>by
    k_dat 0"r12"
    obtain⟨v,r,h1,_,h3⟩:=h
    subst h1
    obtain⟨w,e1,e2⟩:=DL.get (i:=i) h3 (by simpa using e)
    exact⟨w,by simpa using e1,e2⟩
theorem DL.nil:DL K φ N H [] []:=by simp [DL]
theorem DL.cons {d:Dt} {v:V} {ds:List Dt} {vs:List V} (h:D K φ N H d v) (t:DL K φ N H ds vs):DL K φ N H (d::ds) (v::vs):=by
  simp only [DL];exact⟨v,vs,rfl,h,t⟩
theorem DL.qCq {d:Dt} {v:V} {ds:List Dt} {vs:List V} (h:DL K φ N H (d::ds) (v::vs)):D K φ N H d v∧DL K φ N H ds vs:=by
  k_dat 0"r12"
  obtain⟨v',r,h1,h2,h3⟩:=h
  cases h1
  exact⟨h2,h3⟩
theorem DL.append:∀ {ds es:List Dt} {vs ws:List V},DL K φ N H ds vs→DL K φ N H es ws→DL K φ N H (ds++es) (vs++ws)
  | [],_,vs,_,h,h'=>by simp only [DL] at h;rw [h];exact h'
  | d::ds,es,vs,ws,h,h'=>by
    k_dat 0"r12"
    obtain⟨v,r,h1,h2,h3⟩:=h
    subst h1
    exact DL.cons h2 (DL.append h3 h')
theorem DL.drop:∀ {ds:List Dt} {vs:List V} (n:Nat),DL K φ N H ds vs→DL K φ N H (ds.drop n) (vs.drop n)
  | ds,vs,0,h=>h
  | [],vs,n+1,h=>by simp only [DL] at h;rw [h];simpa using DL.nil
  | d::ds,vs,n+1,h=>by
    k_dat 0"r12"
    obtain⟨v,r,h1,h2,h3⟩:=h
    subst h1
    exact DL.drop n h3
theorem DL.take:∀ {ds:List Dt} {vs:List V} (n:Nat),DL K φ N H ds vs→DL K φ N H (ds.take n) (vs.take n)
  | ds,vs,0,h=>by simpa using DL.nil
  | [],vs,n+1,h=>by simp only [DL] at h;rw [h];simpa using DL.nil
  | d::ds,vs,n+1,h=>by
    k_dat 0"r12"
    obtain⟨v,r,h1,h2,h3⟩:=h
    subst h1
    exact DL.cons h2 (DL.take n h3)
theorem DL.set {d:Dt} {v:V} (hd:D K φ N H d v):∀ {ds:List Dt} {vs:List V} (n:Nat),DL K φ N H ds vs→DL K φ N H (ds.set n d) (vs.set n v)
  | [],vs,n,h=>by simp only [DL] at h;rw [h];simpa using DL.nil
  | e::ds,vs,0,h=>by
    k_dat 0"r12"
    obtain⟨w,r,h1,h2,h3⟩:=h
    subst h1
    exact DL.cons hd h3
  | e::ds,vs,n+1,h=>by
    k_dat 0"r12"
    obtain⟨w,r,h1,h2,h3⟩:=h
    subst h1
    exact DL.cons h2 (DL.set hd n h3)
theorem DL.one {d:Dt} {vs:List V} (h:DL K φ N H [d] vs):∃ v,vs=[v]∧D K φ N H d v:=by
  k_dat 0"r12"
  obtain⟨v,r,h1,h2,h3⟩:=h
  subst h3
  exact⟨v,h1,h2⟩
theorem DL.two {d e:Dt} {vs:List V} (h:DL K φ N H [d,e] vs):∃ v w,vs=[v,w]∧D K φ N H d v∧D K φ N H e w:=by
  k_dat 0"r12"
  obtain⟨v,r,h1,h2,w,r',h3,h4,h5⟩:=h
  subst h5;subst h3
  exact⟨v,w,h1,h2,h4⟩
theorem D.int {i:Int} {v:V} (h:D K φ N H (.int i) v):v = .int i:=by simpa [D] using h
theorem D.bl {i:Bool} {v:V} (h:D K φ N H (.bl i) v):v = .bl i:=by simpa [D] using h
theorem D.str {i:Str} {v:V} (h:D K φ N H (.str i) v):v = .str i:=by simpa [D] using h
theorem D.non {v:V} (h:D K φ N H .non v):v = .non:=by simpa [D] using h
theorem D.ty {n:String} {v:V} (h:D K φ N H (.ty n) v):v = .ty n:=by simpa [D] using h
theorem D.tup {ds:List Dt} {v:V} (h:D K φ N H (.tup ds) v):∃ a vs,v = .ref a∧SqT K H a vs∧DL K φ N H ds vs:=by simpa [D] using h
theorem D.lst {n:Nat} {v:V} (h:D K φ N H (.lst n) v):n<N∧v = .ref (φ n):=by simp only [D] at h;exact⟨h.1,h.2.1⟩
theorem D.isL {n:Nat} {v:V} (h:D K φ N H (.lst n) v):IsL K H (φ n):=by simp only [D] at h;exact h.2.2
theorem D.dic {n:Nat} {v:V} (h:D K φ N H (.dic n) v):n<N∧v = .ref (φ n):=by simp only [D] at h;exact⟨h.1,h.2.1⟩
theorem D.ins {n:Nat} {v:V} (h:D K φ N H (.ins n) v):n<N∧v = .ref (φ n):=by simp only [D] at h;exact⟨h.1,h.2.1⟩
theorem D.exc {n:String} {v:V} (h:D K φ N H (.exc n) v):∃ a o C,v = .ref a∧H a=some (.frz o (.own 0))∧W.nsIn K mainGlobals (Str.ofString n)=some (some (.ref C))∧o.cls = .ref C:=by simpa [D] using h
theorem D.mkInt {i:Int}:D K φ N H (.int i) (.int i):=by simp [D]
theorem D.qEO {i:Bool}:D K φ N H (.bl i) (.bl i):=by simp [D]
theorem D.mkStr {i:Str}:D K φ N H (.str i) (.str i):=by simp [D]
theorem D.qH5:D K φ N H .non .non:=by simp [D]
theorem D.qVV {n:String}:D K φ N H (.ty n) (.ty n):=by simp [D]
theorem D.qDK {ds:List Dt} {a:Addr} {vs:List V} (h:SqT K H a vs) (t:DL K φ N H ds vs):D K φ N H (.tup ds) (.ref a):=by simp only [D];exact⟨a,vs,rfl,h,t⟩
theorem D.qRd {n:Nat} (h:n<N) (hl:IsL K H (φ n)):D K φ N H (.lst n) (.ref (φ n)):=by simp only [D];exact⟨h,trivial,hl⟩
theorem D.qRO {n:Nat} (h:n<N) (hl:IsD H (φ n)):D K φ N H (.dic n) (.ref (φ n)):=by simp only [D];exact⟨h,trivial,hl⟩
theorem D.qUp {n:Nat} (h:n<N) (hl:IsO H (φ n)):D K φ N H (.ins n) (.ref (φ n)):=by simp only [D];exact⟨h,trivial,hl⟩
end
def SqR (K:W.Frag) (H:Hp) (a:Addr) (xs:List V):Prop :=
  (∃ o,H a=some (.frz o (.lst xs))) ∨
    ∃ (o:Obj) (its:Array Value) (n:Nat),K.lookup a=some o∧o.cls = .type "list" ∧ o.dict=none∧o.data = .seq its n∧its.size≤sizeLine∧Vals xs its.toList
theorem SqR.sq {K:W.Frag} {H:Hp} {a:Addr} {xs:List V} (h:SqR K H a xs):SqL K H a xs:=by
  rcases h with h | h
  · exact .inl (.inr h)
  · exact .inr h
noncomputable def Holds (K:W.Frag) (φ:Nat→Addr) (N:Nat) (H:Hp):SO→Addr→Prop
  | .ro xs,a=>∃ vs,SqR K H a vs∧DL K φ N H xs vs
  | .rw xs,a=>∃ vs,H a=some (.lst vs)∧DL K φ N H xs vs
  | .dc kvs,a=>∃ vs:List (Key×V),H a=some (.dK vs)∧K.lookup a=none∧kvs.map (·.1)=vs.map (·.1)∧DL K φ N H (kvs.map (·.2)) (vs.map (·.2))
  | .dt kvs,a=>∃ vs:List (List Key×V),H a=some (.dT vs)∧K.lookup a=none∧kvs.map (·.1)=vs.map (·.1)∧DL K φ N H (kvs.map (·.2)) (vs.map (·.2))
  | .ob C fs,a=>∃ (c dx:Addr) (vs:List (Str×V)),H a=some (.ins c dx vs)∧K.lookup a=none∧W.nsIn K mainGlobals C=some (some (.ref c))∧fs.map (·.1)=vs.map (·.1)∧DL K φ N H (fs.map (·.2)) (vs.map (·.2))
noncomputable def SO.wr:SO→Bool
  | .ro _=>false
  | _=>true
structure Rep (K:W.Frag) (φ:Nat→Addr) (st:Sto) (H:Hp):Prop where
  injA:∀ (i j:Nat) a b,st[i]? = some a→st[j]? = some b→a.wr=true→b.wr=true→φ i=φ j→i=j
  all:∀ (i:Nat) o,st[i]? = some o→Holds K φ st.length H o (φ i)
section
variable {K:W.Frag} {φ φ':Nat→Addr} {N N':Nat} {st:Sto} {H H':Hp} {p:Addr}
theorem Rep.ro (R:Rep K φ st H):∀ (i:Nat) xs,st[i]? = some (.ro xs)→∃ vs,SqR K H (φ i) vs∧DL K φ st.length H xs vs:=fun i _ e=>R.all i _ e
theorem Rep.rw (R:Rep K φ st H):∀ (i:Nat) xs,st[i]? = some (.rw xs)→∃ vs,H (φ i)=some (.lst vs)∧DL K φ st.length H xs vs:=fun i _ e=>R.all i _ e
theorem Rep.seq (R:Rep K φ st H) {i:Nat} {o:SO} (e:st[i]? = some o) (hl:IsL K H (φ i)):∃ vs,SqL K H (φ i) vs∧DL K φ st.length H o.items vs:=by
  have no:∀ {u:HO},H (φ i)=some u→K.lookup (φ i)=none→(∀ vs,u≠.lst vs)→(∀ ob vs,u≠.frz ob vs)→False:=by
    intro u h hk h1 h2
    obtain⟨vs,(h3 | ⟨ob,h3⟩) | ⟨ob,_,_,h3,_⟩⟩:=hl
    · rw [h] at h3;exact h1 _ (Option.some.inj h3)
    · rw [h] at h3;exact h2 _ _ (Option.some.inj h3)
    · rw [hk] at h3;cases h3
  cases o with
  | ro xs =>
    obtain⟨vs,h1,h2⟩:=R.ro i xs e
    exact⟨vs,h1.sq,h2⟩
  | rw xs =>
    obtain⟨vs,h1,h2⟩:=R.rw i xs e
    exact⟨vs,SqL.of h1,h2⟩
  | dc kvs =>
    obtain⟨vs,h1,h2,_⟩:=R.all i _ e
    k_dat 0"r48"
  | dt kvs =>
    obtain⟨vs,h1,h2,_⟩:=R.all i _ e
    k_dat 0"r48"
  | ob C fs =>
    obtain⟨c,dx,vs,h1,h2,_⟩:=R.all i _ e
    k_dat 0"r48"
theorem qLr {a:Addr} {vs:List V} {o:HO} (h:SqT K H a vs) (hp:H p=none):SqT K (upd H p o) a vs:=by
  rcases h with h | h
  · exact .inl (by rw [qg (qAD h hp)];exact h)
  · exact .inr h
theorem qLj {a:Addr} {vs:List V} {o:HO} (h:SqR K H a vs) (hp:H p=none):SqR K (upd H p o) a vs:=by
  rcases h with ⟨ob,h⟩ | h
  · exact .inl ⟨ob,by rw [qg (qAD h hp)];exact h⟩
  · exact .inr h
theorem qNt {a:Addr} {vs ws:List V} {o:HO} (h:SqT K H a vs) (hp:H p=some (.lst ws)):SqT K (upd H p o) a vs:=by
  rcases h with h | h
  · exact .inl (by rw [qg (qIA h hp (by intro z;cases z))];exact h)
  · exact .inr h
theorem qQZ {a:Addr} {vs:List V} {o:HO} (h:SqL K H a vs) (hp:H p=none):SqL K (upd H p o) a vs:=by
  rcases h with (h | ⟨ob,h⟩) | h
  · exact .inl (.inl (by rw [qg (qAD h hp)];exact h))
  · exact .inl (.inr ⟨ob,by rw [qg (qAD h hp)];exact h⟩)
  · exact .inr h
theorem qLf {a:Addr} {o:HO} (h:IsL K H a) (hp:H p=none):IsL K (upd H p o) a:=let ⟨vs,h⟩:=h;⟨vs,qQZ h hp⟩
theorem qMA {a:Addr} {o:HO} (h:IsD H a) (hp:H p=none):IsD (upd H p o) a:=let ⟨vs,h,q⟩:=h;⟨vs,by rw [qg (qAD h hp)];exact h,q⟩
theorem qLp {a:Addr} {o:HO} (h:IsO H a) (hp:H p=none):IsO (upd H p o) a:=let ⟨c,d,f,h⟩:=h;⟨c,d,f,by rw [qg (qAD h hp)];exact h⟩
theorem qB4 {o:HO} (hp:H p=none):Evo K φ N H φ N (upd H p o):=⟨Nat.le_refl _,fun _ _=>rfl,fun _ _ h=>qLr h hp,fun _ _ h=>qLf h hp,fun _ _ h=>qMA h hp,fun _ _ h=>qLp h hp,fun _ _ _ h=>by rw [qg (qAD h hp)];exact h⟩
theorem Holds.stay {o:SO} {a:Addr} (h:Holds K φ N H o a) (e:Evo K φ N H φ' N' H') (hr:∀ vs,SqR K H a vs→SqR K H' a vs) (hw:o.wr=true→H' a=H a):Holds K φ' N' H' o a:=by
  cases o with
  | ro xs=>obtain⟨vs,h1,h2⟩:=h;exact⟨vs,hr vs h1,h2.evo e⟩
  | rw xs=>obtain⟨vs,h1,h2⟩:=h;exact⟨vs,by rw [hw rfl];exact h1,h2.evo e⟩
  | dc kvs=>obtain⟨vs,h1,h2,h3,h4⟩:=h;exact⟨vs,by rw [hw rfl];exact h1,h2,h3,h4.evo e⟩
  | dt kvs=>obtain⟨vs,h1,h2,h3,h4⟩:=h;exact⟨vs,by rw [hw rfl];exact h1,h2,h3,h4.evo e⟩
  | ob C fs=>obtain⟨c,dx,vs,h1,h2,h3,h4,h5⟩:=h;exact⟨c,dx,vs,by rw [hw rfl];exact h1,h2,h3,h4,h5.evo e⟩
theorem Holds.qRS {o:SO} {a:Addr} (h:Holds K φ N H o a) (hw:o.wr=true):∃ u,H a=some u:=by
  cases o with
  | ro xs=>cases hw
  | rw xs=>obtain⟨vs,h1,_⟩:=h;exact⟨_,h1⟩
  | dc kvs=>obtain⟨vs,h1,_⟩:=h;exact⟨_,h1⟩
  | dt kvs=>obtain⟨vs,h1,_⟩:=h;exact⟨_,h1⟩
  | ob C fs=>obtain⟨c,dx,vs,h1,_⟩:=h;exact⟨_,h1⟩
theorem Rep.laid {o:HO} (R:Rep K φ st H) (hp:H p=none):Rep K φ st (upd H p o) :=
  ⟨R.injA,fun i x e=>(R.all i x e).stay (qB4 hp) (fun _ h=>qLj h hp) fun w=>by
    obtain⟨u,h⟩:=(R.all i x e).qRS w
    exact qg (qAD h hp)⟩
noncomputable def qA9 (φ:Nat→Addr) (n:Nat) (p:Addr):Nat→Addr:=fun i=>if i=n then p else φ i
theorem qCx {n:Nat}:qA9 φ n p n=p:=by unfold qA9;rw [if_pos rfl]
theorem qFP {n i:Nat} (h:i<n):qA9 φ n p i=φ i:=by unfold qA9;rw [if_neg (Nat.ne_of_lt h)]
theorem qDy {o:SO} {u:HO} (hp:H p=none):Evo K φ st.length H (qA9 φ st.length p) (st++[o]).length (upd H p u) :=
  ⟨by rw [List.length_append];exact Nat.le_add_right _ _,fun i hi=>qFP hi,fun _ _ h=>qLr h hp,fun _ _ h=>qLf h hp,fun _ _ h=>qMA h hp,fun _ _ h=>qLp h hp,fun _ _ _ h=>by rw [qg (qAD h hp)];exact h⟩
theorem qQk {vs:List V} {xs:List Dt} (hp:H p=none):Evo K φ st.length H (qA9 φ st.length p) (st++[SO.rw xs]).length (upd H p (.lst vs)):=qDy hp
theorem qEk {α:Type} {l:List α} {x y:α} {i:Nat} (e:(l++[x])[i]? = some y):(i<l.length∧l[i]? = some y)∨(i=l.length∧y=x):=by
  by_cases h:i<l.length
  · left
    rw [List.getElem?_append_left h] at e
    exact⟨h,e⟩
  · right
    rw [List.getElem?_append_right (Nat.not_lt.mp h)] at e
    have h0:i - l.length=0:=by
      cases q:i - l.length with
      | zero=>rfl
      | succ n=>rw [q] at e;simp at e
    rw [h0] at e
    have:x=y:=by simpa using e
    exact⟨by lia,this.symm⟩
theorem qq {α:Type} {l:List α} {y:α} {i:Nat} (e:l[i]? = some y):i<l.length:=(List.getElem?_eq_some_iff.mp e).1
theorem Rep.add {o:SO} {u:HO} (R:Rep K φ st H) (hp:H p=none) (hd:Holds K (qA9 φ st.length p) (st++[o]).length (upd H p u) o p):Rep K (qA9 φ st.length p) (st++[o]) (upd H p u):=by
  have ev:Evo K φ st.length H (qA9 φ st.length p) (st++[o]).length (upd H p u):=qDy hp
  have notp:∀ (i:Nat) x,st[i]? = some x→x.wr=true→φ i≠p:=fun i x e w z=>by
    obtain⟨v,h⟩:=(R.all i x e).qRS w
    rw [z,hp] at h;cases h
  refine⟨fun i j a b e1 e2 w1 w2 h=>?_,fun i x e=>?_⟩
  · rcases qEk e1 with ⟨l1,e1⟩ | ⟨l1,e1⟩
    · rcases qEk e2 with ⟨l2,e2⟩ | ⟨l2,e2⟩
      · rw [qFP l1,qFP l2] at h
        exact R.injA i j _ _ e1 e2 w1 w2 h
      · rw [qFP l1,l2,qCx] at h
        exact absurd h (notp i _ e1 w1)
    · rcases qEk e2 with ⟨l2,e2⟩ | ⟨l2,e2⟩
      · rw [qFP l2,l1,qCx] at h
        exact absurd h.symm (notp j _ e2 w2)
      · rw [l1,l2]
  · rcases qEk e with ⟨l1,e1⟩ | ⟨l1,e1⟩
    · rw [qFP l1]
      exact (R.all i x e1).stay ev (fun _ h=>qLj h hp) fun w=>qg (notp i x e1 w)
    · rw [l1,qCx,e1];exact hd
theorem Rep.newL {vs:List V} {xs:List Dt} (R:Rep K φ st H) (hp:H p=none) (hd:DL K φ st.length H xs vs):Rep K (qA9 φ st.length p) (st++[.rw xs]) (upd H p (.lst vs)) :=
  R.add hp ⟨vs,qAH,hd.evo (qDy hp)⟩
theorem qOA {a:Addr} {vs:List V} {u w:HO} (h:SqT K H a vs) (hp:H p=some u) (h1:∀ xs,u≠.tup xs) (h2:∀ o x,u≠.frz o x):SqT K (upd H p w) a vs:=by
  rcases h with h | h
  · exact .inl (by rw [qg (qIA h hp (fun z=>h1 _ z.symm))];exact h)
  · exact .inr h
theorem qNY {a:Addr} {vs:List V} {u w:HO} (h:SqR K H a vs) (hp:H p=some u) (h2:∀ o x,u≠.frz o x):SqR K (upd H p w) a vs:=by
  rcases h with ⟨ob,h⟩ | h
  · exact .inl ⟨ob,by rw [qg (qIA h hp (fun z=>h2 _ _ z.symm))];exact h⟩
  · exact .inr h
noncomputable def qH9:HO→HO→Prop
  | .lst _,.lst _=>True
  | .dK _,.dK _=>True
  | .dT _,.dT _=>True
  | .ins _ _ _,.ins _ _ _=>True
  | _,_=>False
theorem qKC {a:Addr} {u w:HO} (h:IsL K H a) (hp:H p=some u) (hk:qH9 u w):IsL K (upd H p w) a:=by
  by_cases e:a=p
  · subst e
    cases u<;>cases w<;>first | exact hk.elim | skip
    · exact⟨_,SqL.of qAH⟩
    · k_dat 0"r32"
      · rw [hp] at h;cases h
      · rw [hp] at h;cases h
      · exact⟨vs,.inr h⟩
    · k_dat 0"r32"
      · rw [hp] at h;cases h
      · rw [hp] at h;cases h
      · exact⟨vs,.inr h⟩
    · k_dat 0"r32"
      · rw [hp] at h;cases h
      · rw [hp] at h;cases h
      · exact⟨vs,.inr h⟩
  · k_dat 0"r32"
    · exact⟨vs,.inl (.inl (by rw [qg e];exact h))⟩
    · exact⟨vs,.inl (.inr ⟨ob,by rw [qg e];exact h⟩)⟩
    · exact⟨vs,.inr h⟩
theorem qKF {a:Addr} {u w:HO} (h:IsD H a) (hp:H p=some u) (hk:qH9 u w):IsD (upd H p w) a:=by
  by_cases e:a=p
  · subst e
    obtain⟨vs,h,q⟩:=h
    rw [hp] at h
    cases h
    cases u<;>cases w<;>first | exact hk.elim | exact⟨_,qAH,rfl⟩ | cases q
  · obtain⟨vs,h,q⟩:=h
    exact⟨vs,by rw [qg e];exact h,q⟩
theorem qJ5 {a:Addr} {u w:HO} (h:IsO H a) (hp:H p=some u) (hk:qH9 u w):IsO (upd H p w) a:=by
  by_cases e:a=p
  · subst e
    obtain⟨c,d,f,h⟩:=h
    rw [hp] at h
    cases h
    cases w<;>first | exact hk.elim | exact⟨_,_,_,qAH⟩
  · obtain⟨c,d,f,h⟩:=h
    exact⟨c,d,f,by rw [qg e];exact h⟩
theorem qEs {u w:HO} (hk:qH9 u w):(∀ xs,u≠.tup xs)∧∀ o x,u≠.frz o x:=by
  cases u<;>first | exact hk.elim | exact⟨(fun _ z=>nomatch z),(fun _ _ z=>nomatch z)⟩
theorem qDe {n:Nat} {u w:HO} {o:SO} (hn:n<st.length) (h:H (φ n)=some u) (hk:qH9 u w):Evo K φ st.length H φ (st.set n o).length (upd H (φ n) w) :=
  ⟨by rw [List.length_set];exact Nat.le_refl _,fun _ _=>rfl,fun _ _ hh=>qOA hh h (qEs hk).1 (qEs hk).2,fun _ _ hh=>qKC hh h hk,fun _ _ hh=>qKF hh h hk,fun _ _ hh=>qJ5 hh h hk,fun _ o x hh=>by rw [qg (qIA hh h fun z=>(qEs hk).2 o x z.symm)];exact hh⟩
theorem qGJ {n:Nat} {vs ws:List V} {o:SO} (h:H (φ n)=some (.lst ws)):Evo K φ st.length H φ (st.set n o).length (upd H (φ n) (.lst vs)) :=
  ⟨by rw [List.length_set];exact Nat.le_refl _,fun _ _=>rfl,fun _ _ hh=>qNt hh h,fun _ _ hh=>qKC hh h trivial,fun _ _ hh=>qKF hh h trivial,fun _ _ hh=>qJ5 hh h trivial,fun _ o x hh=>by rw [qg (qIA hh h (by intro z;cases z))];exact hh⟩
theorem Rep.put {n:Nat} {u w:HO} {o q:SO} (R:Rep K φ st H) (hn:st[n]? = some q) (hq:q.wr=true) (ho:o.wr=true) (h:H (φ n)=some u) (hk:qH9 u w) (hd:Holds K φ (st.set n o).length (upd H (φ n) w) o (φ n)):Rep K φ (st.set n o) (upd H (φ n) w):=by
  have hlt:=qq hn
  have ev:Evo K φ st.length H φ (st.set n o).length (upd H (φ n) w):=qDe hlt h hk
  have get:∀ {i:Nat} {x:SO},(st.set n o)[i]? = some x→(i=n∧x=o)∨(i≠n∧st[i]? = some x):=fun {i x} e=>by
    by_cases h:i=n
    · left
      subst h
      rw [List.getElem?_set_self hlt] at e
      exact⟨rfl,(Option.some.inj e).symm⟩
    · right
      rw [List.getElem?_set_ne (Ne.symm h)] at e
      exact⟨h,e⟩
  refine⟨fun i j a b e1 e2 w1 w2 hh=>?_,fun i x e=>?_⟩
  · have g:∀ {i:Nat} {a:SO},(st.set n o)[i]? = some a→a.wr=true→∃ a',st[i]? = some a'∧a'.wr=true:=fun {i a} e w=>by
      rcases get e with ⟨h,_⟩ | ⟨_,h⟩
      · rw [h];exact⟨q,hn,hq⟩
      · exact⟨a,h,w⟩
    obtain⟨z1,g1,y1⟩:=g e1 w1
    obtain⟨z2,g2,y2⟩:=g e2 w2
    exact R.injA i j z1 z2 g1 g2 y1 y2 hh
  · rcases get e with ⟨h1,h2⟩ | ⟨h1,h2⟩
    · rw [h1,h2];exact hd
    · exact (R.all i x h2).stay ev (fun _ hh=>qNY hh h (qEs hk).2) fun w=>qg fun z=>h1 (R.injA i n x q h2 hn w hq z)
theorem Rep.qTA {n:Nat} {vs:List V} {xs ys:List Dt} (R:Rep K φ st H) (hn:st[n]? = some (.rw ys)) (hd:DL K φ st.length H xs vs):Rep K φ (st.set n (.rw xs)) (upd H (φ n) (.lst vs)):=by
  obtain⟨ws,hw,_⟩:=R.rw n ys hn
  exact R.put hn rfl rfl hw trivial ⟨vs,qAH,hd.evo (qGJ hw)⟩
end
noncomputable abbrev VD:=Dt→Sto→Prop
noncomputable abbrev TD:=Rho→Sto→VD→Prop
noncomputable abbrev TBD:=Rho→Sto→(Bool→Sto→Prop)→Prop
noncomputable abbrev TAD:=Rho→Sto→(List Dt→Sto→Prop)→Prop
structure qA0 where
  nx:Rho→Sto→Prop
  rt:VD
  bk:Rho→Sto→Prop:=fun _ _=>False
  ct:Rho→Sto→Prop:=fun _ _=>False
noncomputable abbrev TSD:=qA0→Rho→Sto→Prop
def DR (K:W.Frag) (φ:Nat→Addr) (N:Nat) (H:Hp) (ρ:Rho) (σ:L2.St):Prop :=
  ρ.length=σ.length∧∀ (i:Nat) d,ρ[i]? = some (some d)→∃ v,σ[i]? = some (some v)∧D K φ N H d v
section
variable {K:W.Frag} {φ φ':Nat→Addr} {N N':Nat} {H H':Hp} {ρ:Rho} {σ:L2.St}
theorem DR.evo (h:DR K φ N H ρ σ) (e:Evo K φ N H φ' N' H'):DR K φ' N' H' ρ σ :=
  ⟨h.1,fun i d q=>let ⟨v,h1,h2⟩:=h.2 i d q;⟨v,h1,h2.evo e⟩⟩
theorem DR.set {d:Dt} {v:V} (h:DR K φ N H ρ σ) (hd:D K φ N H d v) (i:Nat):DR K φ N H (ρ.set i (some d)) (σ.set i (some v)):=by
  refine⟨by rw [List.length_set,List.length_set];exact h.1,fun j e q=>?_⟩
  by_cases hj:j=i
  · subst hj
    have hl:j<ρ.length:=by
      have:=qq q
      rwa [List.length_set] at this
    rw [List.getElem?_set_self hl] at q
    cases q
    exact⟨v,by rw [List.getElem?_set_self (by rw [← h.1];exact hl)],hd⟩
  · rw [List.getElem?_set_ne (Ne.symm hj)] at q
    rw [List.getElem?_set_ne (Ne.symm hj)]
    exact h.2 j e q
end
def Pre (K:W.Frag) (φ:Nat→Addr) (st:Sto) (H:Hp) (ρ:Rho) (σ:L2.St):Prop:=Rep K φ st H∧DR K φ st.length H ρ σ
def Bhd (K:W.Frag) (φ:Nat→Addr) (st:Sto) (H:Hp) (φ':Nat→Addr) (st':Sto) (H':Hp):Prop:=Rep K φ' st' H'∧Evo K φ st.length H φ' st'.length H'
noncomputable def qAz (K:W.Frag) (t:TD):TE:=fun σ H Q=>∃ φ st ρ P,Pre K φ st H ρ σ∧t ρ st P ∧
  ∀ d st',P d st'→∀ φ' H' v,Bhd K φ st H φ' st' H'→D K φ' st'.length H' d v→Q v H'
noncomputable def liftT (K:W.Frag) (t:TBD):TT:=fun σ H Q=>∃ φ st ρ P,Pre K φ st H ρ σ∧t ρ st P ∧
  ∀ b st',P b st'→∀ φ' H',Bhd K φ st H φ' st' H'→Q b H'
noncomputable def qJi (K:W.Frag) (t:TAD):TA:=fun σ H Q=>∃ φ st ρ P,Pre K φ st H ρ σ∧t ρ st P ∧
  ∀ ds st',P ds st'→∀ φ' H' vs,Bhd K φ st H φ' st' H'→DL K φ' st'.length H' ds vs→Q vs H'
noncomputable def qKD (K:W.Frag) (t:TSD):TS:=fun E σ H=>∃ φ st ρ P,Pre K φ st H ρ σ∧t P ρ st ∧
  (∀ ρ' st',P.nx ρ' st'→∀ φ' H' σ',Bhd K φ st H φ' st' H'→DR K φ' st'.length H' ρ' σ'→E.nx σ' H') ∧
  (∀ ρ' st',P.bk ρ' st'→∀ φ' H' σ',Bhd K φ st H φ' st' H'→DR K φ' st'.length H' ρ' σ'→E.bk σ' H') ∧
  (∀ ρ' st',P.ct ρ' st'→∀ φ' H' σ',Bhd K φ st H φ' st' H'→DR K φ' st'.length H' ρ' σ'→E.ct σ' H') ∧
  (∀ d st',P.rt d st'→∀ φ' H' v,Bhd K φ st H φ' st' H'→D K φ' st'.length H' d v→E.rt v H')
def DE (X:Cx) (e:Expr) (t:TD):Prop:=PE X e (qAz X.K t)
def DT (X:Cx) (e:Expr) (t:TBD):Prop:=PT X e (liftT X.K t)
def DA (X:Cx) (es:List Expr) (t:TAD):Prop:=PA X es (qJi X.K t)
def DS (X:Cx) (s:Stmt) (t:TSD):Prop:=PS X s (qKD X.K t)
def DSs (X:Cx) (s:List Stmt) (t:TSD):Prop:=PSs X s (qKD X.K t)
section
variable {K:W.Frag} {φ φ1 φ2:Nat→Addr} {st st1 st2:Sto} {H H1 H2:Hp} {ρ:Rho} {σ:L2.St}
theorem Bhd.refl (h:Rep K φ st H):Bhd K φ st H φ st H:=⟨h,.refl⟩
theorem Bhd.trans (a:Bhd K φ st H φ1 st1 H1) (b:Bhd K φ1 st1 H1 φ2 st2 H2):Bhd K φ st H φ2 st2 H2:=⟨b.1,a.2.trans b.2⟩
theorem Pre.on (p:Pre K φ st H ρ σ) (b:Bhd K φ st H φ1 st1 H1):Pre K φ1 st1 H1 ρ σ:=⟨b.1,p.2.evo b.2⟩
end
theorem _root_.L2.PE.imp {X:Cx} {e:Expr} {t t':TE} (h:PE X e t) (i:∀ σ H Q,t' σ H Q→t σ H Q):PE X e t':=fun pins s σ H Q I q=>h pins s σ H Q I (i σ H Q q)
theorem _root_.L2.PT.imp {X:Cx} {e:Expr} {t t':TT} (h:PT X e t) (i:∀ σ H Q,t' σ H Q→t σ H Q):PT X e t':=fun pins s σ H Q I q=>h pins s σ H Q I (i σ H Q q)
theorem _root_.L2.PA.imp {X:Cx} {es:List Expr} {t t':TA} (h:PA X es t) (i:∀ σ H Q,t' σ H Q→t σ H Q):PA X es t':=fun pos pins s σ H Q I q=>h pos pins s σ H Q I (i σ H Q q)
theorem _root_.L2.PS.imp {X:Cx} {e:Stmt} {t t':TS} (h:PS X e t) (i:∀ D σ H,t' D σ H→t D σ H):PS X e t':=fun pins s σ H Dn I q=>h pins s σ H Dn I (i Dn σ H q)
theorem _root_.L2.PSs.imp {X:Cx} {e:List Stmt} {t t':TS} (h:PSs X e t) (i:∀ D σ H,t' D σ H→t D σ H):PSs X e t':=fun pins s σ H Dn I q=>h pins s σ H Dn I (i Dn σ H q)
end L3
namespace L3
open PySem PySem.Spec PyProof.Rows L2
open AutoSeq1 (wpAny_loadPart')
section
variable {prog:Program} {w:World} {A:Around} {E:Value→Shared→Prop} {s:Shared}
theorem qO4 {t b:Addr} {vs ws:List Value} {Q:Value→Shared→Prop} (ht:IsTup s.heap t vs.toArray) (hb:IsTup s.heap b ws.toArray)
    (h0:vs=[]→Q (.ref b) s) (h1:vs≠[]→ws=[]→Q (.ref t) s) (h2:vs≠[]→ws≠[]→Q (.ref s.heap.objs.size) { s with heap:=s.heap.push { cls:=.type "tuple",data:=.seq (vs++ws).toArray } })
    (hsz:vs.length+ws.length≤sizeLine):wpAny (model prog w) A (binaryOp .Add (.ref t) (.ref b)) Q E s:=by
  by_cases hv:vs=[]
  · obtain⟨⟨cls,dd,data,sl⟩,ho,hc,n,hd⟩:=id ht
    obtain⟨⟨cls2,dd2,data2,sl2⟩,ho2,hc2,n2,hd2⟩:=id hb
    simp only at hc hd hc2 hd2
    subst hc hd hc2 hd2
    exact concat_meets ⟨_,ho,rfl⟩ ⟨_,ho2,rfl⟩ noFill_tuple_add seq_tuple_add PySem.F.slot_tuple_add PySem.F.entry_tuple_add (PySem.F.args_tuple_add_2 _ _)
      (tuple_addW0 t b vs.toArray ws.toArray n n2 dd dd2 sl sl2 (by simp [hv])) ⟨ho,ho2,h0 hv⟩
  · exact HT.qP0 ht hb hv (h1 hv) (h2 hv) hsz
end
theorem qFE:fillsNumberSlot (.type "tuple") "mul" = pure false :=
  PySem.fillsNumberSlot_seq (id:= "tuple.__mul__") (r:=some (.builtin "tuple.__rmul__")) F.slot_tuple_mul.lookup (by decide +kernel) F.slot_tuple_rmul.lookup (by decide +kernel)
theorem qJP:seqRepeat? (.type "tuple")=pure (some (.builtin "tuple.__mul__")):=by
  unfold seqRepeat?
  rw [PySem.seqSlot_of (T:= "tuple") (name:= "__mul__") (id:= "tuple.__mul__") F.slot_tuple_mul.lookup (by decide +kernel),PySem.seqSlot_of (T:= "tuple") (name:= "__rmul__") (id:= "tuple.__rmul__") F.slot_tuple_rmul.lookup (by decide +kernel)]
  rfl
theorem qGc (a:Int) (t:Tok) (l:Addr) (items:Array Value) (n:Nat) (d:Option Addr) (sl:Array (Option Value)) :
    Meets (Builtin.«int.__rmul__» ⟨[.int a t,.ref l],[]⟩) (fun _ R s=>s.heap.get? l=some { cls:=.type "tuple",dict:=d,data:=.seq items n,slots:=sl }∧R (.ok (.ret Value.notImplemented)) s) :=
  .of_wp fun prog w A R s h=>by obtain⟨hp,g,d,tk,os⟩:=s;obtain⟨hl,h⟩:=h;wp_walk;exact⟨_,rfl,h⟩
theorem qKo (l:Addr) (items:Array Value) (n:Nat) (d:Option Addr) (sl:Array (Option Value)) (x:Int) (u:Tok) (h0:items.isEmpty=false) (h1:2≤x) (h2:x<2 ^ 20) (h3:items.size * x.toNat≤sizeLine) :
    Meets (Builtin.«tuple.__mul__» ⟨[.ref l,.int x u],[]⟩) (fun _ R s=>s.heap.get? l=some { cls:=.type "tuple",dict:=d,data:=.seq items n,slots:=sl } ∧
      R (.ok (.ret (Value.ref s.heap.objs.size))) { s with heap:=s.heap.push { cls:=Value.type "tuple",data:=Data.seq (List.foldl (fun x1 x2=>x1++x2) #[] (List.replicate x.toNat items)) },toks:=s.toks }) :=
  .of_wp fun prog w A R s h=>by
    obtain⟨hp,g,d,tk,os⟩:=s;obtain⟨hl,h⟩:=h
    have f1:=AutoSeq1.idx_int
    have e1:(decide (x < -(2 ^ 63)) || decide (x ≥ 2 ^ 63))=false:=by
      rw [decide_eq_false (by lia),decide_eq_false (by lia)];rfl
    have e2:(items.isEmpty || x==1)=false:=by
      rw [h0,Bool.false_or];exact beq_eq_false_iff_ne.mpr (by lia)
    have e3:(decide (x≤0) || items.isEmpty)=false:=by
      rw [h0,Bool.or_false];exact decide_eq_false (by lia)
    have e4:¬ ((items.size:Int) * x > (2 ^ 63 - 1) / 8):=by
      have hb:items.size * x.toNat≤16777216:=by rw [← sizeLine_eq];exact h3
      have:(items.size:Int) * x=((items.size * x.toNat:Nat):Int):=by
        rw [Int.natCast_mul,Int.toNat_of_nonneg (by lia)]
      rw [this]
      lia
    wp_walk using wpAny_loadPart' hl
    rw [if_neg (fun q=>Bool.false_ne_true (e1.symm.trans q))]
    wp_walk using wpAny_loadPart' hl
    rw [if_neg (fun q=>Bool.false_ne_true (e2.symm.trans q))]
    wp_walk using wpAny_loadPart' hl
    rw [if_neg (fun q=>Bool.false_ne_true (e3.symm.trans q))]
    wp_walk using wpAny_loadPart' hl
    rw [if_neg e4]
    wp_walk using wpAny_loadPart' hl
    have hx:(items.size:Int) * x=((items.size * x.toNat:Nat):Int):=by
      rw [Int.natCast_mul,Int.toNat_of_nonneg (by lia)]
    have e5:Builtin.Tuple.tupleTooMany ((items.size:Int) * x)=false:=by
      unfold Builtin.Tuple.tupleTooMany
      rw [hx]
      exact decide_eq_false (by lia)
    rw [if_neg (fun q=>Bool.false_ne_true (e5.symm.trans q))]
    have f0:List.foldl (fun x1 x2=>x1++x2) #[] (List.replicate x.toNat items)=(List.replicate x.toNat items.toList).flatten.toArray:=by
      have:=foldl_rep items.toList x.toNat []
      rw [List.nil_append,Array.toArray_toList] at this
      exact this
    have hsz:sizeOk (.seq (List.foldl (fun x1 x2=>x1++x2) #[] (List.replicate x.toNat items))):=by
      show (List.foldl (fun x1 x2=>x1++x2) #[] (List.replicate x.toNat items)).size≤sizeLine
      rw [f0,List.size_toArray,len_rep,Array.length_toList,Nat.mul_comm]
      exact h3
    unfold Builtin.Tuple.tupleExact
    exact wpAny_bind (wpAny_newObj_type (wpAny_pure ⟨_,rfl,h⟩) hsz)
section
variable {X:Cx}
theorem qPu:OpR X (binaryOp .Add) (fun x y H Q=>∃ a b xs ys,x = .ref a∧y = .ref b∧SqT X.K H a xs∧SqT X.K H b ys∧xs.length+ys.length≤sizeLine ∧
    (xs=[]→Q (.ref b) H)∧(xs≠[]→ys=[]→Q (.ref a) H)∧(xs≠[]→ys≠[]→∀ p,H p=none→Q (.ref p) (upd H p (.tup (xs++ys))))):=by
  k_dat 0"r16"
  obtain⟨a,b,xs,ys,rfl,rfl,ha,hb,hz,q0,q1,q2⟩:=h
  cases rx
  cases ry
  obtain⟨its,r1,p1,_⟩:=I.tuple ha
  obtain⟨its2,r2,p2,_⟩:=I.tuple hb
  refine qO4 p1 p2 (fun z=>⟨.ref b,H,I,rfl,q0 (r1.qEw.mp z)⟩) (fun z1 z=>⟨.ref a,H,I,rfl,q1 (fun w=>z1 (r1.qEw.mpr w)) (r2.qEw.mp z)⟩) (fun z1 z=>?_) (by rw [← r1.length,← r2.length];exact hz)
  refine⟨.ref s.heap.objs.size,_,I.laid (t':=s.toks) (o:=.tup (xs++ys)) (fun b ob q=>Heap.get?_push_of_some _ q) (Nat.le_refl _) ?_,rfl,q2 (fun w=>z1 (r1.qEw.mpr w)) (fun w=>z (r2.qEw.mpr w)) _ (I.hok.fresh (Nat.le_refl _))⟩
  exact⟨by rw [List.length_append];exact hz,_,r1.append r2,qCH.new _ _⟩
theorem qRC:OpR X (binaryOp .Mult) (fun x y H Q=>∃ a k xs,x = .ref a∧y = .int k∧SqT X.K H a xs∧xs≠[]∧2≤k∧k<2 ^ 20∧xs.length * k.toNat≤sizeLine ∧
    ∀ p,H p=none→Q (.ref p) (upd H p (.tup (List.replicate k.toNat xs).flatten))):=by
  k_dat 0"r16"
  obtain⟨a,k,xs,rfl,rfl,ha,hne,h2,h3,hz,q⟩:=h
  cases rx
  obtain⟨t,rfl⟩:=ry
  obtain⟨its,r1,p1,_⟩:=I.tuple ha
  have hl:=r1.length
  obtain⟨⟨cls,dd,data,sl⟩,ho,hc,n,hd⟩:=id p1
  simp only at hc hd
  subst hc hd
  have f0:List.foldl (fun x1 x2=>x1++x2) #[] (List.replicate k.toNat its.toArray)=(List.replicate k.toNat its).flatten.toArray:=by
    have:=foldl_rep its k.toNat []
    rw [List.nil_append] at this
    exact this
  have hz':its.toArray.size * k.toNat≤sizeLine:=by rw [List.size_toArray,← hl];exact hz
  have he:its.toArray.isEmpty=false:=by
    cases its with
    | nil=>exact absurd (List.length_eq_zero_iff.mp hl) hne
    | cons _ _=>rfl
  refine wpAny_binaryOp_repeat_ref (T:= "tuple") (U:= "int") (by decide) ⟨_,ho,rfl⟩ (fun s'=>typeIs_int s' k t) qFE F.fills_int_mul F.slot_int_rmul qJP F.slot_int_index.lookup
    (call_meets F.slot_int_rmul (typeIs_int s k t) F.entry_int_rmul (F.args_int_rmul_2 _ _) (qGc k t a its.toArray n dd sl)
      ⟨ho,rfl,⟨_,ho,rfl⟩,call_meets F.slot_tuple_mul ⟨_,ho,rfl⟩ F.entry_tuple_mul (F.args_tuple_mul_2 _ _) (qKo a its.toArray n dd sl k t he h2 h3 hz') ⟨ho,?_⟩⟩)
  rw [f0]
  refine⟨.ref s.heap.objs.size,_,I.laid (t':=s.toks) (o:=.tup (List.replicate k.toNat xs).flatten) (fun b ob q=>Heap.get?_push_of_some _ q) (Nat.le_refl _) ?_,rfl,q _ (I.hok.fresh (Nat.le_refl _))⟩
  exact⟨by rw [len_rep,Nat.mul_comm];exact hz,_,Vals.rep r1 _,qCH.new _ _⟩
end
end L3
namespace L3
open PySem PySem.Spec PyProof.Rows L2
noncomputable def okD:Nat→Dt→Bool
  | 0,.tup _=>false
  | n+1,.tup xs=>xs.all (okD n)
  | _,.lst _=>false
  | _,.ty _=>false
  | _,.dic _=>false
  | _,.ins _=>false
  | _,.exc _=>false
  | _,_=>true
noncomputable def eqL (f:Dt→Dt→Bool):List Dt→List Dt→Bool
  | [],[]=>true
  | x::xs,y::ys=>f x y&&eqL f xs ys
  | _,_=>false
noncomputable def eqD:Nat→Dt→Dt→Bool
  | _,.non,.non=>true
  | _,.bl a,.bl b=>a==b
  | _,.bl a,.int b=>(if a then 1 else 0)==b
  | _,.int a,.bl b=>a==(if b then 1 else 0)
  | _,.int a,.int b=>a==b
  | _,.str a,.str b=>a==b
  | n+1,.tup a,.tup b=>eqL (eqD n) a b
  | _,_,_=>false
theorem qG9 {f:Dt→Dt→Bool}:∀ {xs:List Dt},(∀ x∈xs,f x x=true)→eqL f xs xs=true
  | [],_=>rfl
  | x::xs,h=>by
    unfold eqL
    rw [h x List.mem_cons_self,qG9 fun y hy=>h y (List.mem_cons_of_mem _ hy)]
    rfl
theorem qEY:∀ {n:Nat} {d:Dt},okD n d=true→eqD n d d=true
  | 0,.tup _,h=>by simp [okD] at h
  | n+1,.tup xs,h=>by
    simp only [okD] at h
    simp only [eqD]
    exact qG9 fun x hx=>qEY (List.all_eq_true.mp h x hx)
  | n,.non,_=>by cases n<;>rfl
  | n,.bl b,_=>by cases n<;>simp [eqD]
  | n,.int b,_=>by cases n<;>simp [eqD]
  | n,.str b,_=>by cases n<;>simp [eqD]
  | n,.lst _,h=>by cases n<;>simp [okD] at h
  | n,.ty _,h=>by cases n<;>simp [okD] at h
  | n,.dic _,h=>by cases n<;>simp [okD] at h
  | n,.ins _,h=>by cases n<;>simp [okD] at h
  | n,.exc _,h=>by cases n<;>simp [okD] at h
theorem qCV {f:Dt→Dt→Bool}:∀ (xs ys:List Dt),eqL f xs ys=((List.range (min xs.length ys.length)).all (fun j=>f (xs.getD j .non) (ys.getD j .non))&&xs.length==ys.length)
  | [],[]=>rfl
  | [],_::_=>by simp [eqL]
  | _::_,[]=>by simp [eqL]
  | x :: xs,y::ys=>by
    unfold eqL
    rw [qCV xs ys]
    have e:min (x::xs).length (y::ys).length=min xs.length ys.length+1:=by simp [Nat.succ_min_succ]
    rw [e,List.range_succ_eq_map,List.all_cons,List.all_map]
    simp only [List.getD_cons_zero,List.length_cons]
    have e2:((xs.length+1==ys.length+1):Bool)=(xs.length==ys.length):=by
      rw [Bool.eq_iff_iff];simp
    rw [e2,Bool.and_assoc]
    rfl
section
variable {X:Cx} {pins:List (Addr×Obj)} {σ:L2.St} {H:Hp} {s:Shared} {φ:Nat→Addr} {N:Nat}
theorem qLo {xs:List Dt} {j:Nat} {d:Dt} (h:xs[j]? = some d):xs.getD j .non=d:=by simp [List.getD,h]
theorem qJO {f:Dt→Bool} (hf:∀ {d e:Dt} {v:V},f d=true→f e=true→D X.K φ N H d v→D X.K φ N H e v→d=e):∀ {a b:List Dt} {vs:List V},DL X.K φ N H a vs→DL X.K φ N H b vs→a.all f=true→b.all f=true→a=b
  | [],[],_,_,_,_,_=>rfl
  | [],y::b,vs,h1,h2,_,_=>by
    have:=h1.length;have:=h2.length;simp at *;lia
  | x::a,[],vs,h1,h2,_,_=>by
    have:=h1.length;have:=h2.length;simp at *;lia
  | x::a,y::b,vs,h1,h2,o1,o2=>by
    rw [List.all_cons,Bool.and_eq_true] at o1 o2
    simp only [DL] at h1 h2
    obtain⟨v,r,rfl,p1,p2⟩:=h1
    obtain⟨v',r',e,q1,q2⟩:=h2
    cases e
    rw [hf o1.1 o2.1 p1 q1,qJO hf p2 q2 o1.2 o2.2]
theorem qT8 (I:Inv X pins σ H s):∀ (n:Nat) {d e:Dt} {v:V},okD n d=true→okD n e=true→D X.K φ N H d v→D X.K φ N H e v→d=e:=by
  intro n
  induction n with
  | zero =>
    intro d e v o1 o2 h1 h2
    cases d<;>cases e<;>first
      | (exfalso;revert o1;simp [okD];done)
      | (exfalso;revert o2;simp [okD];done)
      | (simp only [D] at h1 h2;subst h1;first | (cases h2;rfl) | (cases h2))
  | succ n ih =>
    intro d e v o1 o2 h1 h2
    cases d<;>cases e<;>first
      | (exfalso;revert o1;simp [okD];done)
      | (exfalso;revert o2;simp [okD];done)
      | (simp only [D] at h1 h2;subst h1;first | (cases h2;rfl) | (cases h2;done) | (obtain⟨_,_,z,_⟩:=h2;cases z))
      | (simp only [D] at h1 h2;subst h2;obtain⟨_,_,z,_⟩:=h1;cases z)
      | (simp only [okD] at o1 o2
         obtain⟨p,vs,e1,hs,hd⟩:=h1.tup
         obtain⟨q,ws,e2,hs2,hd2⟩:=h2.tup
         rw [e1] at e2
         cases e2
         have:=I.qDz hs hs2
         subst this
         rw [qJO (f:=okD n) (fun a b c d=>ih a b c d) hd hd2 o1 o2])
theorem qSo (I:Inv X pins σ H s) {n:Nat} {a b:List Dt} {vs:List V} (h1:DL X.K φ N H a vs) (h2:DL X.K φ N H b vs) (o1:a.all (okD n)=true) (o2:b.all (okD n)=true):a=b :=
  qJO (fun a b c d=>qT8 I n a b c d) h1 h2 o1 o2
inductive Kd (s:Shared):Dt→Value→Prop
  | non:Kd s .non .none
  | bl (b:Bool):Kd s (.bl b) (.bool b)
  | int (i:Int) (t:Tok):Kd s (.int i) (.int i t)
  | str (x:Str) (t:Tok):Kd s (.str x) (.str x t)
  | tup (xs:List Dt) (p:Addr) (items:Array Value):IsTup s.heap p items→Kd s (.tup xs) (.ref p)
theorem qFj (I:Inv X pins σ H s) {n:Nat} {d:Dt} {v:V} {u:Value} (o:okD n d=true) (h:D X.K φ N H d v) (r:RelV v u):Kd s d u:=by
  cases d with
  | non=>cases h.non;cases r;exact .non
  | bl b=>cases h.bl;cases r;exact .bl b
  | int i=>cases h.int;obtain⟨t,rfl⟩:=r;exact .int i t
  | str x=>cases h.str;obtain⟨t,rfl⟩:=r;exact .str x t
  | tup xs=>obtain⟨p,vs,rfl,hs,_⟩:=h.tup;cases r;obtain⟨its,_,ht,_⟩:=I.tuple hs;exact .tup xs p _ ht
  | _=>cases n<;>simp [okD] at o
noncomputable def Kd2:Dt→Dt→Prop
  | .tup _,.tup _=>False
  | _,_=>True
theorem qRT {A:Around} {d e:Dt} {u1 u2:Value} (n:Nat) (hu:A.units<cLine) (k1:Kd s d u1) (k2:Kd s e u2) (h:Kd2 d e):SeqAt.EqAt A s u1 u2 (eqD n d e):=by
  cases k1 with
  | non=>cases k2 with
    | non=>cases n<;>exact .same _
    | bl b=>cases n<;>exact .none_bool b
    | int b u=>cases n<;>exact .none_int b u
    | str b u=>cases n<;>exact .none_str b u
    | tup ys q j k=>cases n<;>exact .none_tuple k hu
  | bl a=>cases k2 with
    | non=>cases n<;>exact .bool_none a
    | bl b=>cases n<;>exact .bool_bool a b
    | int b u=>cases n<;>exact .bool_int a b u
    | str b u=>cases n<;>exact .bool_str a b u
    | tup ys q j k=>cases n<;>exact .bool_tuple a k hu
  | int a t=>cases k2 with
    | non=>cases n<;>exact .int_none a t
    | bl b=>cases n<;>exact .int_bool a t b
    | int b u=>cases n<;>exact .int_int a t b u
    | str b u=>cases n<;>exact .int_str a t b u
    | tup ys q j k=>cases n<;>exact .int_tuple a t k hu
  | str a t=>cases k2 with
    | non=>cases n<;>exact .str_none a t
    | bl b=>cases n<;>exact .str_bool a t b
    | int b u=>cases n<;>exact .str_int a t b u
    | str b u=>cases n<;>exact .str_str a t b u
    | tup ys q j k=>cases n<;>exact .str_tuple a t k hu
  | tup xs p i k=>cases k2 with
    | non=>cases n<;>exact .tuple_none k hu
    | bl b=>cases n<;>exact .tuple_bool b k hu
    | int b u=>cases n<;>exact .tuple_int b u k hu
    | str b u=>cases n<;>exact .tuple_str b u k hu
    | tup=>exact h.elim
theorem toArr {α:Type} {l:List α} {j:Nat} {u:α} (h:j<l.toArray.size) (e:l[j]? = some u):l.toArray[j]=u:=by
  obtain⟨_,e⟩:=List.getElem?_eq_some_iff.mp e
  exact e
theorem qOm {n:Nat} {A:Around} {a b:List Dt} {vs ws:List V} {its its2:List Value} (hd:DL X.K φ N H a vs) (hd2:DL X.K φ N H b ws) (rv:Vals vs its) (rv2:Vals ws its2)
    (o1:a.all (okD n)=true) (o2:b.all (okD n)=true) (ih:∀ {d e:Dt} {v w:V} {u1 u2:Value},okD n d=true→okD n e=true→D X.K φ N H d v→D X.K φ N H e w→RelV v u1→RelV w u2→SeqAt.EqAt A s u1 u2 (eqD n d e)) {j:Nat} (h1:j<its.toArray.size) (h2:j<its2.toArray.size):SeqAt.EqAt A s its.toArray[j] its2.toArray[j] (eqD n (a.getD j .non) (b.getD j .non)):=by
  have hj1:j<a.length:=by rw [hd.length,rv.length];exact h1
  have hj2:j<b.length:=by rw [hd2.length,rv2.length];exact h2
  have ea:=List.getElem?_eq_getElem hj1
  have eb:=List.getElem?_eq_getElem hj2
  obtain⟨x,ex,dx⟩:=hd.get ea
  obtain⟨y,ey,dy⟩:=hd2.get eb
  obtain⟨ux,eux,rx⟩:=rv.get ex
  obtain⟨uy,euy,ry⟩:=rv2.get ey
  rw [toArr h1 eux,toArr h2 euy,qLo ea,qLo eb]
  exact ih (List.all_eq_true.mp o1 _ (List.getElem_mem hj1)) (List.all_eq_true.mp o2 _ (List.getElem_mem hj2)) dx dy rx ry
theorem qVD (I:Inv X pins σ H s) (n:Nat) {A:Around} {a b:List Dt} {v w:V} {u1 u2:Value} (hu:A.units+(n+1)<cLine) (o1:a.all (okD n)=true) (o2:b.all (okD n)=true) (h1:D X.K φ N H (.tup a) v) (h2:D X.K φ N H (.tup b) w) (r1:RelV v u1) (r2:RelV w u2)
    (ih:∀ {d e:Dt} {v w:V} {u1 u2:Value},okD n d=true→okD n e=true→D X.K φ N H d v→D X.K φ N H e w→RelV v u1→RelV w u2→SeqAt.EqAt A.in1 s u1 u2 (eqD n d e)):SeqAt.EqAt A s u1 u2 (eqL (eqD n) a b):=by
  obtain⟨p,vs,rfl,hs,hd⟩:=h1.tup
  obtain⟨q,ws,rfl,hs2,hd2⟩:=h2.tup
  cases r1;cases r2
  obtain⟨its,rv,ht,_⟩:=I.tuple hs
  obtain⟨its2,rv2,ht2,_⟩:=I.tuple hs2
  by_cases hpq:p=q
  · subst hpq
    have ev:vs=ws:=I.qDz hs hs2
    subst ev
    rw [qSo I hd hd2 o1 o2,qG9 fun x hx=>qEY (List.all_eq_true.mp o2 x hx)]
    exact .same _
  · refine .of_refs hpq ?_
    k_dat 0"r49"
    k_dat 0"r50"
    rw [qCV,← l1,← l2]
    exact SeqAt.RcAt.tuples ht ht2 (Nat.lt_of_le_of_lt (Nat.le_add_right _ _) hu) fun j h1 h2=>qOm hd hd2 rv rv2 o1 o2 ih h1 h2
theorem qS9 (I:Inv X pins σ H s):∀ (n:Nat) {A:Around} {d e:Dt} {v w:V} {u1 u2:Value},A.units+n<cLine→okD n d=true→okD n e=true→D X.K φ N H d v→D X.K φ N H e w→RelV v u1→RelV w u2→SeqAt.EqAt A s u1 u2 (eqD n d e):=by
  intro n
  induction n with
  | zero =>
    intro A d e v w u1 u2 hu o1 o2 h1 h2 r1 r2
    have k1:=qFj I o1 h1 r1
    refine qRT 0 hu k1 (qFj I o2 h2 r2) ?_
    cases k1 with
    | tup=>cases o1
    | _=>trivial
  | succ n ih =>
    intro A d e v w u1 u2 hu o1 o2 h1 h2 r1 r2
    have k1:=qFj I o1 h1 r1
    have k2:=qFj I o2 h2 r2
    have go:Kd2 d e→SeqAt.EqAt A s u1 u2 (eqD (n+1) d e):=qRT (n+1) (Nat.lt_of_le_of_lt (Nat.le_add_right _ _) hu) k1 k2
    cases k1 with
    | tup a=>cases k2 with
      | tup b=>exact qVD I n hu o1 o2 h1 h2 r1 r2 (ih (A:=A.in1) (by rw [show A.in1.units=A.units+1 from rfl,Nat.add_assoc,Nat.add_comm 1];exact hu))
      | _=>exact go trivial
    | _=>exact go trivial
end
end L3
namespace L3
open PySem PySem.Spec PyProof.Rows L2
noncomputable abbrev RD2:=Dt→Dt→Sto→VD→Prop
noncomputable abbrev RDL:=List Dt→Sto→VD→Prop
noncomputable def qNv (K:W.Frag) (r:RD2):R2:=fun v w H Q=>∃ φ st x y P,Rep K φ st H∧D K φ st.length H x v∧D K φ st.length H y w∧r x y st P ∧
  ∀ d st',P d st'→∀ φ' H' u,Bhd K φ st H φ' st' H'→D K φ' st'.length H' d u→Q u H'
noncomputable def qPU (K:W.Frag) (r:RDL):List V→Hp→VK→Prop:=fun vs H Q=>∃ φ st ds P,Rep K φ st H∧DL K φ st.length H ds vs∧r ds st P ∧
  ∀ d st',P d st'→∀ φ' H' u,Bhd K φ st H φ' st' H'→D K φ' st'.length H' d u→Q u H'
def OpD (X:Cx) (f:Value→Value→Sem Value) (r:RD2):Prop:=OpR X f (qNv X.K r)
def qDs (X:Cx) (f:Value) (r:RDL):Prop:=qEA X f (qPU X.K r)
def qB (i:Nat):TD:=fun ρ st P=>match ρ[i]? with
  | some (some d)=>P d st
  | _=>False
def qD (d:Dt):TD:=fun _ st P=>P d st
def qE (r:RD2) (ta tb:TD):TD:=fun ρ st P=>ta ρ st fun x st1=>tb ρ st1 fun y st2=>r x y st2 P
def qI (r:RDL) (t:TAD):TD:=fun ρ st P=>t ρ st fun ds st1=>r ds st1 P
section
variable {K:W.Frag} {r:RD2} {ta tb:TD} {σ:L2.St} {H:Hp} {Q:VK} {R:RDL} {t:TAD}
theorem qEo (h:qAz K (qE r ta tb) σ H Q):tOp (qNv K r) (qAz K ta) (qAz K tb) σ H Q:=by
  k_dat 0"r1"
  k_dat 0"r9"
  k_dat 0"r29"
  exact⟨φ2,st2,x,y,P,b2.1,dx.evo b2.2,dy,h2,fun d st' hp φ' H' u b3 du=>hq d st' hp φ' H' u (b1.trans (b2.trans b3)) du⟩
theorem qFY (h:qAz K (qI R t) σ H Q):tCB (qPU K R) (qJi K t) σ H Q:=by
  k_dat 0"r1"
  refine⟨φ,st,ρ,_,pre,ht,fun ds st1 h1 φ1 H1 vs b1 dx=>?_⟩
  exact⟨φ1,st1,ds,P,b1.1,dx,h1,fun d st' hp φ' H' u b3 du=>hq d st' hp φ' H' u (b1.trans b3) du⟩
end
section
variable {X:Cx} {a b c e:Expr} {es:List Expr} {ta tb tc t:TD} {tas:TAD} {pos:Pos}
theorem qRz (i:Nat) {x:Str} (hN:X.N[i]? = some x:=by rfl) (hv:Vis X.env.scope x:=by first | exact Or.inl rfl | exact Or.inr (Or.inl rfl) | exact Or.inr (Or.inr rfl)) (hd:(x==("__debug__" : Str))=false:=by decide)
    (hcd:(x==("__classdict__" : Str))=false:=by decide):DE X (.Name x pos) (qB i):=(qTv hN hv hd hcd).imp fun σ H Q h=>by
  k_dat 0"r1"
  unfold qB at ht
  split at ht
  · rename_i d e
    obtain⟨v,e1,e2⟩:=pre.2.2 i d e
    exact⟨v,e1,hq d st ht φ H v (.refl pre.1) e2⟩
  · exact ht.elim
theorem qC1 {d:Dt} {v:V} {K:W.Frag} (h:∀ φ N H,D K φ N H d v):∀ (σ:L2.St) H Q,qAz K (qD d) σ H Q→tC v σ H Q:=fun σ H Q h'=>by
  obtain⟨φ,st,ρ,P,pre,ht,hq⟩:=h'
  exact hq d st ht φ H v (.refl pre.1) (h _ _ _)
theorem qTW {i j pos}:DE X (.Constant (.int i) j pos) (qD (.int i)):=(qSw).imp (qC1 fun _ _ _=>D.mkInt)
theorem qUG {i j pos}:DE X (.Constant (.bool i) j pos) (qD (.bl i)):=(qUZ).imp (qC1 fun _ _ _=>D.qEO)
theorem qSe {j pos}:DE X (.Constant .none j pos) (qD .non):=(qSA).imp (qC1 fun _ _ _=>D.qH5)
theorem qTe {i j pos}:DE X (.Constant (.str i) j pos) (qD (.str i)):=(qO6).imp (qC1 fun _ _ _=>D.mkStr)
theorem qRV {x:Str} {T:String} (hm:X.mg x=none) (hv:bootBuiltins x=some (.type T)) (hg:Gl X x:=by rfl) (hn:x ≠ "__name__":=by decide) (hd:(x==("__debug__" : Str))=false:=by decide):DE X (.Name x pos) (qD (.ty T)) :=
  (qRG (v:=.ty T) hg hm hv rfl hn hd).imp (qC1 fun _ _ _=>D.qVV)
theorem qPs {x:Str} {d:Dt} {v:V} {u:Value} (hm:X.mg x=some u) (r:RelV v u) (hD:∀ φ N H,D X.K φ N H d v) (hg:Gl X x:=by rfl) (hd:(x==("__debug__" : Str))=false:=by decide):DE X (.Name x pos) (qD d) :=
  (qPk hg hm r hd).imp (qC1 hD)
theorem qIC {op:Operator} {r:RD2} (ho:OpD X (binaryOp op) r) (ha:DE X a ta) (hb:DE X b tb):DE X (.BinOp a op b pos) (qE r ta tb):=(qVA ho ha hb).imp fun _ _ _=>qEo
theorem qDh {op:CmpOp} {r:RD2} (ho:OpD X (compareOp op) r) (ha:DE X a ta) (hb:DE X b tb) (hm:behindInMarks op b=false:=by first | exact qK2 _ | with_unfolding_all rfl):DE X (.Compare a [op] [b] pos) (qE r ta tb):=(qQJ ho ha hb hm).imp fun _ _ _=>qEo
def qM (t:TD):TBD:=fun ρ st P=>t ρ st fun x st1=>match x with
  | .bl k=>P k st1
  | _=>False
theorem qD1 {K:W.Frag} {t:TD} {σ:L2.St} {H:Hp} {Q:Bool→Hp→Prop} (h:liftT K (qM t) σ H Q):qAz K t σ H fun x H'=>∃ k,x = .bl k∧Q k H':=by
  k_dat 0"r1"
  k_dat 0"r25"
  cases d with
  | bl k=>exact⟨k,dx.bl,hq k st1 h1 φ1 H1 b1⟩
  | _=>exact h1.elim
theorem qDp {op:CmpOp} {r:RD2} (ho:OpD X (compareOp op) r) (ha:DE X a ta) (hb:DE X b tb) (hm:behindInMarks op b=false:=by first | exact qK2 _ | with_unfolding_all rfl):DT X (.Compare a [op] [b] pos) (qM (qE r ta tb)) :=
  (qQB ho ha hb hm).imp fun σ H Q h=>qEo (qD1 h)
theorem qTP (h:DE X e t) (he:∀ whole,isTrue e X.env whole=(do let v ← whole;standAt e.pos;holding [v] (truthy v)):=by intro _;rfl):DT X e (qM t):=(qR4 h he).imp fun σ H Q h=>qD1 h
def qBG (t:TBD):TBD:=fun ρ st P=>t ρ st fun k st1=>P (!k) st1
theorem qR2 {t:TBD} (h:DT X a t):DT X (.UnaryOp .Not a pos) (qBG t):=(qTi h).imp fun σ H Q h=>by
  k_dat 0"r1"
  exact⟨φ,st,ρ,_,pre,ht,fun k st1 h1 φ1 H1 b1=>hq _ st1 h1 φ1 H1 b1⟩
def DW (X:Cx) (e:Expr) (t:TBD):Prop:=PW X e (liftT X.K t)
theorem PW.imp {X:Cx} {e:Expr} {t t':TT} (h:PW X e t) (i:∀ σ H Q,t' σ H Q→t σ H Q):PW X e t':=fun wh pins s σ H Q I q=>h wh pins s σ H Q I (i σ H Q q)
def qAp (t u:TBD):TBD:=fun ρ st P=>t ρ st fun k st1=>if k=true then u ρ st1 P else P false st1
def qBl (t u:TBD):TBD:=fun ρ st P=>t ρ st fun k st1=>if k=true then P true st1 else u ρ st1 P
variable {tA tB':TBD} {rest:List Expr}
theorem qPm (h:DT X a tA):DW X (.BoolOp .And [a] pos) tA:=qQa h
theorem qSU (h:DT X a tA):DW X (.BoolOp .Or [a] pos) tA:=qTx h
theorem qPY (ha:DT X a tA) (hb:DW X (.BoolOp .And (b::rest) pos) tB'):DW X (.BoolOp .And (a::b::rest) pos) (qAp tA tB'):=PW.imp (qSr ha hb) fun σ H Q h=>by
  k_dat 0"r1"
  k_dat 0"r33"
  cases k with
  | true =>
    rw [if_pos rfl] at h1 ⊢
    k_dat 0"r60"
  | false =>
    rw [if_neg Bool.false_ne_true] at h1 ⊢
    exact hq false st1 h1 φ1 H1 b1
theorem qRR (ha:DT X a tA) (hb:DW X (.BoolOp .Or (b::rest) pos) tB'):DW X (.BoolOp .Or (a::b::rest) pos) (qBl tA tB'):=PW.imp (qVL ha hb) fun σ H Q h=>by
  k_dat 0"r1"
  k_dat 0"r33"
  cases k with
  | false =>
    rw [if_neg Bool.false_ne_true] at h1 ⊢
    k_dat 0"r60"
  | true =>
    rw [if_pos rfl] at h1 ⊢
    exact hq true st1 h1 φ1 H1 b1
theorem qLg {tA:TBD} (h:DW X e tA):DT X e tA:=h _
def qBw (t u:TD):TD:=fun ρ st P=>t ρ st fun x st1=>match x with
  | .bl k=>if k=true then u ρ st1 P else P (.bl false) st1
  | _=>False
def qGx (t u:TD):TD:=fun ρ st P=>t ρ st fun x st1=>match x with
  | .bl k=>if k=true then P (.bl true) st1 else u ρ st1 P
  | _=>False
def qCA (t:TD):TD:=fun ρ st P=>t ρ st fun x st1=>match x with
  | .bl k=>P (.bl (!k)) st1
  | _=>False
theorem qTt {op} (h:DE X a t):DE X (.BoolOp op [a] pos) t:=qTq h
theorem qSa (ha:DE X a ta) (hb:DE X (.BoolOp .And (b::rest) pos) tb):DE X (.BoolOp .And (a::b::rest) pos) (qBw ta tb):=(qSs ha hb).imp fun σ H Q h=>by
  k_dat 0"r1"
  k_dat 0"r25"
  cases d with
  | bl k =>
    refine⟨k,dx.bl,?_⟩
    cases k with
    | true=>exact qCD ⟨φ1,st1,ρ,P,pre.on b1,h1,fun k st2 h2 φ2 H2 v2 b2=>hq k st2 h2 φ2 H2 v2 (b1.trans b2)⟩
    | false=>exact qBK (hq _ st1 h1 φ1 H1 _ b1 D.qEO)
  | _=>exact h1.elim
theorem qSc (ha:DE X a ta):DE X (.UnaryOp .Not a pos) (qCA ta):=(qS6 ha).imp fun σ H Q h=>by
  k_dat 0"r1"
  k_dat 0"r25"
  cases d with
  | bl k=>exact⟨k,dx.bl,hq _ st1 h1 φ1 H1 _ b1 D.qEO⟩
  | _=>exact h1.elim
def qCk (c:TBD) (t u:TD):TD:=fun ρ st P=>c ρ st fun k st1=>if k=true then t ρ st1 P else u ρ st1 P
theorem qU8 {tC:TBD} (hc:DT X c tC) (ha:DE X a ta) (hb:DE X b tb):DE X (.IfExp c a b pos) (qCk tC ta tb):=(qOk hc ha hb).imp fun σ H Q h=>by
  k_dat 0"r1"
  k_dat 0"r33"
  cases k with
  | true=>exact qCD ⟨φ1,st1,ρ,P,pre.on b1,(by rw [if_pos rfl] at h1;exact h1),fun k st2 h2 φ2 H2 v2 b2=>hq k st2 h2 φ2 H2 v2 (b1.trans b2)⟩
  | false=>exact qBK ⟨φ1,st1,ρ,P,pre.on b1,(by rw [if_neg Bool.false_ne_true] at h1;exact h1),fun k st2 h2 φ2 H2 v2 b2=>hq k st2 h2 φ2 H2 v2 (b1.trans b2)⟩
def qBD (p q:Int→Int→Bool) (ta tb tc:TD):TD:=fun ρ st P=>ta ρ st fun x st1=>tb ρ st1 fun y st2=>match x,y with
  | .int i,.int j=>if p i j=true then tc ρ st2 fun z st3=>(match z with
      | .int k=>P (.bl (q j k)) st3
      | _=>False) else P (.bl false) st2
  | _,_=>False
theorem qG8 {K:W.Frag} {p q:Int→Int→Bool} {σ:L2.St} {H:Hp} {Q:VK} (h:qAz K (qBD p q ta tb tc) σ H Q) :
    qLF (rI0 fun i j=>.bl (p i j)) (rI0 fun i j=>.bl (q i j)) (qAz K ta) (qAz K tb) (qAz K tc) σ H Q:=by
  k_dat 0"r1"
  k_dat 0"r9"
  k_dat 0"r29"
  cases x with
  | int i =>
    cases y with
    | int j =>
      refine⟨i,j,dx.int,dy.int,p i j,rfl,?_⟩
      have h2':if p i j=true then tc ρ st2 fun z st3=>(match z with
        | .int k=>P (.bl (q j k)) st3
        | _=>False) else P (.bl false) st2:=h2
      cases hp:p i j with
      | true =>
        rw [hp,if_pos rfl] at h2'
        refine qCD ⟨φ2,st2,ρ,_,(pre.on b1).on b2,h2',fun z st3 h3 φ3 H3 w3 b3 dz=>?_⟩
        cases z with
        | int k=>exact⟨j,k,dy.int,dz.int,hq _ st3 h3 φ3 H3 _ (b1.trans (b2.trans b3)) D.qEO⟩
        | _=>exact h3.elim
      | false =>
        rw [hp,if_neg Bool.false_ne_true] at h2'
        exact qBK (hq _ st2 h2' φ2 H2 _ (b1.trans b2) D.qEO)
    | _=>exact h2.elim
  | _=>cases y<;>exact h2.elim
theorem qNi {op op':CmpOp} {p q:Int→Int→Bool} (ho:OpR X (compareOp op) (rI0 fun i j=>.bl (p i j))) (ho':OpR X (compareOp op') (rI0 fun i j=>.bl (q i j))) (ha:DE X a ta) (hb:DE X b tb) (hc:DE X c tc)
    (hm:lastMarks [op,op'] [b,c]=false:=by with_unfolding_all rfl):DE X (.Compare a [op,op'] [b,c] pos) (qBD p q ta tb tc):=(qNu ho ho' ha hb hc hm).imp fun σ H Q h=>qG8 h
theorem qOG {op op':CmpOp} {p q:Int→Int→Bool} (ho:OpR X (compareOp op) (rI0 fun i j=>.bl (p i j))) (ho':OpR X (compareOp op') (rI0 fun i j=>.bl (q i j))) (ha:DE X a ta) (hb:DE X b tb) (hc:DE X c tc)
    (hm:lastMarks [op,op'] [b,c]=false:=by with_unfolding_all rfl):DT X (.Compare a [op,op'] [b,c] pos) (qM (qBD p q ta tb tc)):=(qOM ho ho' ha hb hc hm).imp fun σ H Q h=>qG8 (qD1 h)
noncomputable def qG:TAD:=fun _ st P=>P [] st
noncomputable def qA (t:TD) (u:TAD):TAD:=fun ρ st P=>t ρ st fun x st1=>u ρ st1 fun xs st2=>P (x::xs) st2
theorem qGw:DA X [] qG:=(qTl).imp fun σ H Q h=>by
  k_dat 0"r1"
  exact hq [] st ht φ H [] (.refl pre.1) .nil
theorem qEx (ha:DE X e t) (hr:DA X es tas) (hs:starEach (e::es) X.env=(false,eval e X.env)::starEach es X.env:=by rfl):DA X (e::es) (qA t tas):=(qQp ha hr hs).imp fun σ H Q h=>by
  k_dat 0"r1"
  k_dat 0"r9"
  refine⟨φ1,st1,ρ,_,pre.on b1,h1,fun xs st2 h2 φ2 H2 vs b2 dxs=>?_⟩
  exact hq _ st2 h2 φ2 H2 _ (b1.trans b2) (.cons (dx.evo b2.2) dxs)
def qAf (t:TAD):TD:=fun ρ st P=>t ρ st fun ds st1=>ds.length≤sizeLine∧P (.tup ds) st1
def qAc (t:TAD):TD:=fun ρ st P=>t ρ st fun ds st1=>ds.length≤sizeLine∧P (.lst st1.length) (st1++[.rw ds])
theorem qCL {K:W.Frag} {φ:Nat→Addr} {st:Sto} {H:Hp} {p:Addr} {o:HO} (R:Rep K φ st H) (hp:H p=none):Bhd K φ st H φ st (upd H p o):=⟨R.laid hp,qB4 hp⟩
theorem qCR {K:W.Frag} {φ:Nat→Addr} {st:Sto} {H:Hp} {p:Addr} {ds:List Dt} {vs:List V} (R:Rep K φ st H) (hp:H p=none) (hd:DL K φ st.length H ds vs) :
    Bhd K φ st H (qA9 φ st.length p) (st++[.rw ds]) (upd H p (.lst vs)):=⟨R.newL hp hd,qQk hp⟩
theorem qEZ {K:W.Frag} {φ:Nat→Addr} {st:Sto} {H:Hp} {p:Addr} {ds:List Dt} {vs:List V}:D K (qA9 φ st.length p) (st++[SO.rw ds]).length (upd H p (.lst vs)) (.lst st.length) (.ref p):=by
  have:=D.qRd (K:=K) (φ:=qA9 φ st.length p) (H:=upd H p (.lst vs)) (n:=st.length) (N:=(st++[SO.rw ds]).length) (by simp) (by rw [qCx];exact⟨vs,SqL.of qAH⟩)
  rw [qCx] at this
  exact this
theorem qSh {x1} (h:DA X es tas):DE X (.Tuple es x1 pos) (qAf tas):=(qRq h).imp fun σ H Q h=>by
  k_dat 0"r1"
  k_dat 0"r61"
  exact hq _ st1 h1.2 φ1 _ _ (b1.trans (qCL b1.1 hp)) (.qDK (SqT.of qAH) (dx.evo (qB4 hp)))
theorem qTo (h:DA X es tas):DE X (.List es pos) (qAc tas):=(qSW h).imp fun σ H Q h=>by
  k_dat 0"r1"
  k_dat 0"r61"
  exact hq _ _ h1.2 _ _ _ (b1.trans (qCR b1.1 hp dx)) qEZ
end
end L3
namespace L3
open PySem PySem.Spec PyProof.Rows L2
def qAT:RD2:=fun x y st P=>match x,y with
  | .int i,.int j=>P (.int (i+j)) st
  | .str i,.str j=>i.length+j.length≤sizeLine∧P (.str (i++j)) st
  | .tup i,.tup j=>i.length+j.length≤sizeLine∧P (.tup (i++j)) st
  | .lst n,.lst m=>match st[n]?,st[m]? with
    | some (.rw xs),some (.rw ys)=>xs.length+ys.length≤sizeLine∧P (.lst st.length) (st++[.rw (xs++ys)])
    | _,_=>False
  | _,_=>False
def qC2:RD2:=fun x y st P=>match x,y with
  | .int i,.int j=>P (.int (i - j)) st
  | _,_=>False
def qBu:RD2:=fun x y st P=>match x,y with
  | .int i,.int j=>qMS i j∧P (.int (i * j)) st
  | .tup xs,.int k=>xs≠[]∧2≤k∧k<2 ^ 20∧xs.length * k.toNat≤sizeLine∧P (.tup (List.replicate k.toNat xs).flatten) st
  | .lst n,.int k=>match st[n]? with
    | some (.rw xs)=>0≤k∧k<2 ^ 20∧xs.length * k.toNat≤sizeLine∧P (.lst st.length) (st++[.rw (List.replicate k.toNat xs).flatten])
    | _=>False
  | _,_=>False
def qAk:RD2:=fun x y st P=>match x,y with
  | .int i,.int j=>qQs i j∧P (.int (i / j)) st
  | _,_=>False
def qAB:RD2:=fun x y st P=>match x,y with
  | .int i,.int j=>0<j∧P (.int (i%j)) st
  | _,_=>False
def qCK:RD2:=fun x y st P=>match x,y with
  | .int i,.int j=>P (.int (Builtin.bitAnd i j)) st
  | _,_=>False
def qAO (p:Int→Int→Bool):RD2:=fun x y st P=>match x,y with
  | .int i,.int j=>P (.bl (p i j)) st
  | _,_=>False
def qZ (neg:Bool):RD2:=fun x y st P=>match x,y with
  | .lst n,.lst m=>match st[n]?,st[m]? with
    | some a,some b=>a.items.all (okD 8)=true∧b.items.all (okD 8)=true∧P (.bl (eqL (eqD 8) a.items b.items != neg)) st
    | _,_=>False
  | x,y=>okD 8 x=true∧okD 8 y=true∧P (.bl (eqD 8 x y != neg)) st
def qBV (neg:Bool):RD2:=fun x y st P=>match x,y with
  | .bl a,.bl b=>P (.bl ((a==b) != neg)) st
  | .non,.non=>P (.bl (true != neg)) st
  | .bl _,.non=>P (.bl (false != neg)) st
  | .int _,.non=>P (.bl (false != neg)) st
  | .str _,.non=>P (.bl (false != neg)) st
  | .tup _,.non=>P (.bl (false != neg)) st
  | .lst _,.non=>P (.bl (false != neg)) st
  | .exc _,.non=>P (.bl (false != neg)) st
  | _,_=>False
noncomputable def qd (st:Sto):Dt→Option (List Dt)
  | .tup xs=>some xs
  | .lst n=>(st[n]?).map SO.items
  | _=>none
def qCJ (neg:Bool):RD2:=fun x y st P=>match x,y with
  | .str i,.str j=>P (.bl ((!(Builtin.Str.occurrences j i 0 j.length 1).isEmpty) != neg)) st
  | x,y=>match qd st y with
    | some xs=>okD 0 x=true∧xs.all (okD 0)=true∧P (.bl (xs.any (fun z=>eqD 0 z x) != neg)) st
    | none=>False
section
variable {X:Cx} {K:W.Frag} {φ:Nat→Addr} {st:Sto} {H:Hp} {P:VD} {Q:VK} {d:Dt} {v:V}
abbrev Go (K:W.Frag) (φ:Nat→Addr) (st:Sto) (H:Hp) (P:VD) (Q:VK):Prop:=∀ d st',P d st'→∀ φ' H' u,Bhd K φ st H φ' st' H'→D K φ' st'.length H' d u→Q u H'
theorem Go.here (g:Go K φ st H P Q) (R:Rep K φ st H) (hp:P d st) (hd:D K φ st.length H d v):Q v H:=g d st hp φ H v (.refl R) hd
theorem iiI {F:Int→Int→Prop} {x y:Dt} (h:match x,y with
  | .int i,.int j=>F i j
  | _,_=>False):∃ i j,x = .int i∧y = .int j∧F i j:=by
  cases x with
  | int i=>cases y with
    | int j=>exact⟨i,j,rfl,rfl,h⟩
    | _=>exact h.elim
  | _=>exact h.elim
theorem qQw {x y:Dt} {st:Sto} {P:Dt→Sto→Prop} (h:qAT x y st P):(∃ i j,x = .int i∧y = .int j∧P (.int (i+j)) st)∨(∃ i j,x = .str i∧y = .str j∧i.length+j.length≤sizeLine∧P (.str (i++j)) st)∨(∃ i j,x = .tup i∧y = .tup j∧i.length+j.length≤sizeLine∧P (.tup (i++j)) st)∨∃ n m xs ys,x = .lst n∧y = .lst m∧st[n]? = some (.rw xs)∧st[m]? = some (.rw ys)∧xs.length+ys.length≤sizeLine∧P (.lst st.length) (st++[.rw (xs++ys)]):=by
  cases x with
  | int i=>cases y with
    | int j=>exact .inl ⟨i,j,rfl,rfl,h⟩
    | _=>exact h.elim
  | str i=>cases y with
    | str j=>exact .inr (.inl ⟨i,j,rfl,rfl,h⟩)
    | _=>exact h.elim
  | tup i=>cases y with
    | tup j=>exact .inr (.inr (.inl ⟨i,j,rfl,rfl,h⟩))
    | _=>exact h.elim
  | lst n=>cases y with
    | lst m =>
      have h:match st[n]?,st[m]? with
        | some (.rw xs),some (.rw ys)=>xs.length+ys.length≤sizeLine∧P (.lst st.length) (st++[.rw (xs++ys)])
        | _,_=>False:=h
      split at h
      · rename_i xs ys e1 e2
        exact .inr (.inr (.inr ⟨n,m,xs,ys,rfl,rfl,e1,e2,h⟩))
      · exact h.elim
    | _=>exact h.elim
  | _=>exact h.elim
theorem qPn {x y:Dt} {st:Sto} {P:Dt→Sto→Prop} (h:qBu x y st P):(∃ i j,x = .int i∧y = .int j∧qMS i j∧P (.int (i * j)) st)∨(∃ xs k,x = .tup xs∧y = .int k∧xs≠[]∧2≤k∧k<2 ^ 20∧xs.length * k.toNat≤sizeLine∧P (.tup (List.replicate k.toNat xs).flatten) st)∨∃ n k xs,x = .lst n∧y = .int k∧st[n]? = some (.rw xs)∧0≤k∧k<2 ^ 20∧xs.length * k.toNat≤sizeLine∧P (.lst st.length) (st++[.rw (List.replicate k.toNat xs).flatten]):=by
  cases x with
  | int i=>cases y with
    | int j=>exact .inl ⟨i,j,rfl,rfl,h⟩
    | _=>exact h.elim
  | tup i=>cases y with
    | int j=>exact .inr (.inl ⟨i,j,rfl,rfl,h⟩)
    | _=>exact h.elim
  | lst n=>cases y with
    | int k =>
      have h:match st[n]? with
        | some (.rw xs)=>0≤k∧k<2 ^ 20∧xs.length * k.toNat≤sizeLine∧P (.lst st.length) (st++[.rw (List.replicate k.toNat xs).flatten])
        | _=>False:=h
      split at h
      · rename_i xs e1
        exact .inr (.inr ⟨n,k,xs,rfl,rfl,e1,h⟩)
      · exact h.elim
    | _=>exact h.elim
  | _=>exact h.elim
theorem qKx {N:Nat} {xs:List Dt} {vs:List V} (d1:DL K φ N H xs vs):∀ m:Nat,DL K φ N H (List.replicate m xs).flatten (List.replicate m vs).flatten
  | 0=>.nil
  | m+1=>by rw [List.replicate_succ,List.replicate_succ,List.flatten_cons,List.flatten_cons];exact d1.append (qKx d1 m)
theorem qS5:OpD X (binaryOp .Add) qAT:=by
  k_dat 0"r13"
  k_dat 0"r10"
  rcases qQw hr with ⟨i,j,rfl,rfl,hh⟩ | ⟨i,j,rfl,rfl,hh⟩ | ⟨i,j,rfl,rfl,hh⟩ | ⟨n,m,xs,ys,rfl,rfl,e1,e2,hh⟩
  · exact qSx pins s σ H v w u1 u2 Q I r1 r2 ⟨i,j,dx.int,dy.int,Go.here hq R hh D.mkInt⟩
  · exact qKv pins s σ H v w u1 u2 Q I r1 r2 ⟨i,j,dx.str,dy.str,hh.1,Go.here hq R hh.2 D.mkStr⟩
  · obtain⟨a,vs,e1,s1,d1⟩:=dx.tup
    obtain⟨b,ws,e2,s2,d2⟩:=dy.tup
    refine qPu pins s σ H v w u1 u2 Q I r1 r2 ⟨a,b,vs,ws,e1,e2,s1,s2,(by rw [← d1.length,← d2.length];exact hh.1),fun z=>?_,fun z1 z2=>?_,fun z1 z2 p hp=>hq _ st hh.2 φ _ _ (qCL R hp) (.qDK (SqT.of qAH) ((d1.append d2).evo (qB4 hp)))⟩
    · cases List.length_eq_zero_iff.mp (d1.length.trans (congrArg List.length z))
      exact Go.here hq R hh.2 (.qDK s2 d2)
    · cases List.length_eq_zero_iff.mp (d2.length.trans (congrArg List.length z2))
      rw [List.append_nil] at hh
      exact Go.here hq R hh.2 (.qDK s1 d1)
  · obtain⟨vs,h1,d1⟩:=R.rw n xs e1
    obtain⟨ws,h2,d2⟩:=R.rw m ys e2
    exact qTp pins s σ H v w u1 u2 Q I r1 r2 ⟨φ n,φ m,vs,ws,dx.lst.2,dy.lst.2,h1,h2,(by rw [← d1.length,← d2.length];exact hh.1),fun p hp=>hq _ _ hh.2 _ _ _ (qCR R hp (d1.append d2)) qEZ⟩
theorem qSP:OpD X (binaryOp .Sub) qC2:=by
  k_dat 0"r13"
  k_dat 0"r10"
  obtain⟨i,j,rfl,rfl,hr⟩:=iiI (F:=fun i j=>P (.int (i - j)) st) hr
  exact qRo pins s σ H v w u1 u2 Q I r1 r2 ⟨i,j,dx.int,dy.int,Go.here hq R hr D.mkInt⟩
theorem qTw:OpD X (binaryOp .Mult) qBu:=by
  k_dat 0"r13"
  k_dat 0"r10"
  rcases qPn hr with ⟨i,j,rfl,rfl,hr⟩ | ⟨xs,k,rfl,rfl,h1,h2,h3,h4,h5⟩ | ⟨n,k,xs,rfl,rfl,e1,g1,g2,g3,g4⟩
  · exact qTO pins s σ H v w u1 u2 Q I r1 r2 ⟨i,j,dx.int,dy.int,hr.1,Go.here hq R hr.2 D.mkInt⟩
  · obtain⟨a,vs,e1,s1,d1⟩:=dx.tup
    exact qRC pins s σ H v w u1 u2 Q I r1 r2 ⟨a,k,vs,e1,dy.int,s1,(fun z=>h1 (List.length_eq_zero_iff.mp (d1.length.trans (congrArg List.length z)))),h2,h3,by rw [← d1.length];exact h4,fun p hp=>hq _ st h5 φ _ _ (qCL R hp) (.qDK (SqT.of qAH) ((qKx d1 _).evo (qB4 hp)))⟩
  · obtain⟨vs,h1,d1⟩:=R.rw n xs e1
    exact qSq pins s σ H v w u1 u2 Q I r1 r2 ⟨φ n,k,vs,dx.lst.2,dy.int,h1,by lia,by lia,by rw [← d1.length];exact g3,fun p hp=>hq _ _ g4 _ _ _ (qCR R hp (qKx d1 _)) qEZ⟩
theorem qSC:OpD X (binaryOp .FloorDiv) qAk:=by
  k_dat 0"r13"
  k_dat 0"r10"
  obtain⟨i,j,rfl,rfl,hr⟩:=iiI (F:=fun i j=>qQs i j∧P (.int (i / j)) st) hr
  exact qQ7 pins s σ H v w u1 u2 Q I r1 r2 ⟨i,j,dx.int,dy.int,hr.1,Go.here hq R hr.2 D.mkInt⟩
theorem qTM:OpD X (binaryOp .Mod) qAB:=by
  k_dat 0"r13"
  k_dat 0"r10"
  obtain⟨i,j,rfl,rfl,hr⟩:=iiI (F:=fun i j=>0<j∧P (.int (i%j)) st) hr
  exact qSF pins s σ H v w u1 u2 Q I r1 r2 ⟨i,j,dx.int,dy.int,hr.1,Go.here hq R hr.2 D.mkInt⟩
theorem qTN:OpD X (binaryOp .BitAnd) qCK:=by
  k_dat 0"r13"
  k_dat 0"r10"
  obtain⟨i,j,rfl,rfl,hr⟩:=iiI (F:=fun i j=>P (.int (Builtin.bitAnd i j)) st) hr
  exact qSj pins s σ H v w u1 u2 Q I r1 r2 ⟨i,j,dx.int,dy.int,Go.here hq R hr D.mkInt⟩
theorem qGB {op:CmpOp} {p:Int→Int→Bool} (ho:OpR X (compareOp op) (rI0 fun i j=>.bl (p i j))):OpD X (compareOp op) (qAO p):=by
  k_dat 0"r13"
  k_dat 0"r10"
  obtain⟨i,j,rfl,rfl,hr⟩:=iiI (F:=fun i j=>P (.bl (p i j)) st) hr
  exact ho pins s σ H v w u1 u2 Q I r1 r2 ⟨i,j,dx.int,dy.int,Go.here hq R hr D.qEO⟩
theorem qRW:OpD X (compareOp .Lt) (qAO fun i j=>decide (i<j)):=qGB qNf
theorem qRM:OpD X (compareOp .LtE) (qAO fun i j=>decide (i≤j)):=qGB qOO
theorem qVH:OpD X (compareOp .Gt) (qAO fun i j=>decide (j<i)):=qGB qUo
theorem qRU:OpD X (compareOp .GtE) (qAO fun i j=>decide (j≤i)):=qGB qUt
theorem qBA (k:Bool):(k != false)=k:=by cases k<;>rfl
theorem qDw (k:Bool):(k != true) = !k:=by cases k<;>rfl
theorem qBi {pins:List (Addr×Obj)} {σ:L2.St} {s:Shared} (I:Inv X pins σ H s) (g:Go X.K φ st H P Q) (R:Rep X.K φ st H) {k k':Bool} (hp:P (.bl k) st) (e:k=k'):EP X pins σ Q (.bool k') s:=by
  subst e
  exact⟨.bl k,H,I,rfl,Go.here g R hp D.qEO⟩
end
section
variable {X:Cx} {pins:List (Addr×Obj)} {σ:L2.St} {H:Hp} {s:Shared} {φ:Nat→Addr} {N:Nat}
theorem qJw (I:Inv X pins σ H s) {n:Nat} {A:Around} {a b:List Dt} {vs ws:List V} {its its2:List Value} (hu:A.units+n+1<cLine) (hd:DL X.K φ N H a vs) (hd2:DL X.K φ N H b ws) (rv:Vals vs its) (rv2:Vals ws its2)
    (o1:a.all (okD n)=true) (o2:b.all (okD n)=true) {j:Nat} (h1:j<its.toArray.size) (h2:j<its2.toArray.size):SeqAt.EqAt A.in1 s its.toArray[j] its2.toArray[j] (eqD n (a.getD j .non) (b.getD j .non)) :=
  qOm hd hd2 rv rv2 o1 o2 (qS9 I n (by rw [show A.in1.units=A.units+1 from rfl,Nat.add_assoc,Nat.add_comm 1];exact hu)) h1 h2
theorem qUa {A:Around} {d e:Dt} {u1 u2:Value} {n:Nat} (hu:A.units<cLine) (k1:Kd s d u1) (k2:Kd s e u2) (h:Kd2 d e):SeqAt.RcAt A s u1 u2 (eqD (n+1) d e):=by
  cases k1 with
  | non=>cases k2 with
    | non=>exact .none_none  
    | bl b=>exact .none_bool  b
    | int b u=>exact .none_int  b u
    | str b u=>exact .none_str  b u
    | tup ys q j k=>exact .none_tuple   k hu
  | bl a=>cases k2 with
    | non=>exact .bool_none a 
    | bl b=>exact .bool_bool a b
    | int b u=>exact .bool_int a b u
    | str b u=>exact .bool_str a b u
    | tup ys q j k=>exact .bool_tuple a  k hu
  | int a t=>cases k2 with
    | non=>exact .int_none a t 
    | bl b=>exact .int_bool a t b
    | int b u=>exact .int_int a t b u
    | str b u=>exact .int_str a t b u
    | tup ys q j k=>exact .int_tuple a t  k hu
  | str a t=>cases k2 with
    | non=>exact .str_none a t 
    | bl b=>exact .str_bool a t b
    | int b u=>exact .str_int a t b u
    | str b u=>exact .str_str a t b u
    | tup ys q j k=>exact .str_tuple a t  k hu
  | tup xs p i k=>cases k2 with
    | non=>exact .tuple_none   k hu
    | bl b=>exact .tuple_bool  b k hu
    | int b u=>exact .tuple_int  b u k hu
    | str b u=>exact .tuple_str  b u k hu
    | tup=>exact h.elim
theorem qSu (I:Inv X pins σ H s) (n:Nat) {A:Around} {d e:Dt} {v w:V} {u1 u2:Value} (hu:A.units+n+1<cLine) (o1:okD (n+1) d=true) (o2:okD (n+1) e=true) (h1:D X.K φ N H d v) (h2:D X.K φ N H e w) (r1:RelV v u1) (r2:RelV w u2):SeqAt.RcAt A s u1 u2 (eqD (n+1) d e):=by
  have k1:=qFj I o1 h1 r1
  have k2:=qFj I o2 h2 r2
  have go:Kd2 d e→SeqAt.RcAt A s u1 u2 (eqD (n+1) d e):=qUa (Nat.lt_of_le_of_lt (Nat.le_add_right _ (n+1)) hu) k1 k2
  cases k1 with
  | tup a=>cases k2 with
    | tup b =>
      obtain⟨_,vs,rfl,hs,hd⟩:=h1.tup
      obtain⟨_,ws,rfl,hs2,hd2⟩:=h2.tup
      cases r1;cases r2
      obtain⟨its,rv,ht,_⟩:=I.tuple hs
      obtain⟨its2,rv2,ht2,_⟩:=I.tuple hs2
      k_dat 0"r49"
      k_dat 0"r50"
      show SeqAt.RcAt A s _ _ (eqL (eqD n) a b)
      rw [qCV,← l1,← l2]
      exact SeqAt.RcAt.tuples ht ht2 (Nat.lt_of_le_of_lt (Nat.le_add_right _ (n+1)) hu) fun j h1 h2=>qJw I hu hd hd2 rv rv2 o1 o2 h1 h2
    | _=>exact go trivial
  | _=>exact go trivial
theorem qUU {A:Around} {d e:Dt} {u1 u2:Value} {n:Nat} (hu:A.units<cLine) (k1:Kd s d u1) (k2:Kd s e u2) (h:Kd2 d e):SeqAt.RcNeAt A s u1 u2 (!(eqD (n+1) d e)):=by
  cases k1 with
  | non=>cases k2 with
    | non=>exact .none_none  
    | bl b=>exact .none_bool  b
    | int b u=>exact .none_int  b u
    | str b u=>exact .none_str  b u
    | tup ys q j k=>exact .none_tuple   k hu
  | bl a=>cases k2 with
    | non=>exact .bool_none a 
    | bl b=>exact .bool_bool a b
    | int b u=>exact .bool_int a b u
    | str b u=>exact .bool_str a b u
    | tup ys q j k=>exact .bool_tuple a  k hu
  | int a t=>cases k2 with
    | non=>exact .int_none a t 
    | bl b=>exact .int_bool a t b
    | int b u=>exact .int_int a t b u
    | str b u=>exact .int_str a t b u
    | tup ys q j k=>exact .int_tuple a t  k hu
  | str a t=>cases k2 with
    | non=>exact .str_none a t 
    | bl b=>exact .str_bool a t b
    | int b u=>exact .str_int a t b u
    | str b u=>exact .str_str a t b u
    | tup ys q j k=>exact .str_tuple a t  k hu
  | tup xs p i k=>cases k2 with
    | non=>exact .tuple_none   k hu
    | bl b=>exact .tuple_bool  b k hu
    | int b u=>exact .tuple_int  b u k hu
    | str b u=>exact .tuple_str  b u k hu
    | tup=>exact h.elim
theorem qSZ (I:Inv X pins σ H s) (n:Nat) {A:Around} {d e:Dt} {v w:V} {u1 u2:Value} (hu:A.units+n+1<cLine) (o1:okD (n+1) d=true) (o2:okD (n+1) e=true) (h1:D X.K φ N H d v) (h2:D X.K φ N H e w) (r1:RelV v u1) (r2:RelV w u2):SeqAt.RcNeAt A s u1 u2 (!(eqD (n+1) d e)):=by
  have k1:=qFj I o1 h1 r1
  have k2:=qFj I o2 h2 r2
  have go:Kd2 d e→SeqAt.RcNeAt A s u1 u2 (!(eqD (n+1) d e)):=qUU (Nat.lt_of_le_of_lt (Nat.le_add_right _ (n+1)) hu) k1 k2
  cases k1 with
  | tup a=>cases k2 with
    | tup b =>
      obtain⟨_,vs,rfl,hs,hd⟩:=h1.tup
      obtain⟨_,ws,rfl,hs2,hd2⟩:=h2.tup
      cases r1;cases r2
      obtain⟨its,rv,ht,_⟩:=I.tuple hs
      obtain⟨its2,rv2,ht2,_⟩:=I.tuple hs2
      k_dat 0"r49"
      k_dat 0"r50"
      show SeqAt.RcNeAt A s _ _ (!(eqL (eqD n) a b))
      rw [qCV,← l1,← l2]
      exact SeqAt.RcNeAt.tuples ht ht2 (Nat.lt_of_le_of_lt (Nat.le_add_right _ (n+1)) hu) fun j h1 h2=>qJw I hu hd hd2 rv rv2 o1 o2 h1 h2
    | _=>exact go trivial
  | _=>exact go trivial
end
theorem qIW {neg:Bool} {x y:Dt} {st:Sto} {P:Dt→Sto→Prop} (h:qZ neg x y st P):(∃ n m a b,x = .lst n∧y = .lst m∧st[n]? = some a∧st[m]? = some b∧a.items.all (okD 8)=true∧b.items.all (okD 8)=true∧P (.bl (eqL (eqD 8) a.items b.items != neg)) st)∨okD 8 x=true∧okD 8 y=true∧P (.bl (eqD 8 x y != neg)) st:=by
  cases x with
  | lst n=>cases y with
    | lst m =>
      have h:match st[n]?,st[m]? with
        | some a,some b=>a.items.all (okD 8)=true∧b.items.all (okD 8)=true∧P (.bl (eqL (eqD 8) a.items b.items != neg)) st
        | _,_=>False:=h
      cases e1:st[n]? with
      | none=>rw [e1] at h;exact h.elim
      | some a=>cases e2:st[m]? with
        | none=>rw [e1,e2] at h;exact h.elim
        | some b=>rw [e1,e2] at h;exact .inl ⟨n,m,a,b,rfl,rfl,e1,e2,h⟩
    | _=>exact .inr h
  | _=>exact .inr h
theorem qNg {a b:List Dt} {m k:Nat} (l1:m=a.length) (l2:k=b.length) (hl:m=k):eqL (eqD 8) a b=(List.range m).all fun j=>eqD 8 (a.getD j .non) (b.getD j .non):=by
  rw [qCV,← l1,← l2,← hl,Nat.min_self,beq_self_eq_true,Bool.and_true]
theorem qMF {a b:List Dt} {m k:Nat} (l1:m=a.length) (l2:k=b.length) (hl:m≠k):eqL (eqD 8) a b=false:=by
  rw [qCV,← l1,← l2,beq_false_of_ne hl,Bool.and_false]
theorem qRP {X:Cx} (hu:X.A.units+16<cLine):OpD X (compareOp .Eq) (qZ false):=by
  k_dat 0"r13"
  k_dat 0"r10"
  have hu0:X.A.units<cLine:=Nat.lt_of_le_of_lt (Nat.le_add_right _ _) hu
  k_dat 0"r62"
  rcases qIW hr with ⟨n,m,a,b,rfl,rfl,e1,e2,o1,o2,hp⟩ | ⟨o1,o2,hp⟩
  · rw [qBA] at hp
    obtain⟨vs,s1,d1⟩:=R.seq e1 dx.isL
    obtain⟨ws,s2,d2⟩:=R.seq e2 dy.isL
    obtain⟨its,rv,pl,_⟩:=I.list s1
    k_dat 0"r34"
    cases dx.lst.2;cases dy.lst.2
    cases r1;cases r2
    have l1:its.toArray.size=a.items.length:=rv.length.symm.trans d1.length.symm
    have l2:its2.toArray.size=b.items.length:=rv2.length.symm.trans d2.length.symm
    by_cases hl:its.toArray.size=its2.toArray.size
    · rw [qNg l1 l2 hl] at hp
      exact SeqAt.RcAt.lists pl.isList pl2.isList hl hu0 (fun j h1 h2=>qJw I hu9 d1 d2 rv rv2 o1 o2 h1 h2) _ _ _ _ (qBi I hq R hp rfl)
    · rw [qMF l1 l2 hl] at hp
      exact SeqAt.RcAt.lists_lengths (A:=X.A) pl.isList pl2.isList (bne_iff_ne.mpr hl) hu0 _ _ _ _ (qBi I hq R hp rfl)
  · rw [qBA] at hp
    exact qSu I 7 (Nat.lt_of_succ_lt hu9) o1 o2 dx dy r1 r2 _ _ _ _ (qBi I hq R hp rfl)
theorem qRN {X:Cx} (hu:X.A.units+16<cLine):OpD X (compareOp .NotEq) (qZ true):=by
  k_dat 0"r13"
  k_dat 0"r10"
  have hu0:X.A.units<cLine:=Nat.lt_of_le_of_lt (Nat.le_add_right _ _) hu
  k_dat 0"r62"
  rcases qIW hr with ⟨n,m,a,b,rfl,rfl,e1,e2,o1,o2,hp⟩ | ⟨o1,o2,hp⟩
  · rw [qDw] at hp
    obtain⟨vs,s1,d1⟩:=R.seq e1 dx.isL
    obtain⟨ws,s2,d2⟩:=R.seq e2 dy.isL
    obtain⟨its,rv,pl,_⟩:=I.list s1
    k_dat 0"r34"
    cases dx.lst.2;cases dy.lst.2
    cases r1;cases r2
    have l1:its.toArray.size=a.items.length:=rv.length.symm.trans d1.length.symm
    have l2:its2.toArray.size=b.items.length:=rv2.length.symm.trans d2.length.symm
    by_cases hl:its.toArray.size=its2.toArray.size
    · rw [qNg l1 l2 hl] at hp
      exact SeqAt.RcNeAt.lists pl.isList pl2.isList hl hu0 (fun j h1 h2=>qJw I hu9 d1 d2 rv rv2 o1 o2 h1 h2) _ _ _ _ (qBi I hq R hp rfl)
    · rw [qMF l1 l2 hl] at hp
      exact SeqAt.RcNeAt.lists_lengths (A:=X.A) pl.isList pl2.isList (bne_iff_ne.mpr hl) hu0 _ _ _ _ (qBi I hq R hp rfl)
  · rw [qDw] at hp
    exact qSZ I 7 (Nat.lt_of_succ_lt hu9) o1 o2 dx dy r1 r2 _ _ _ _ (qBi I hq R hp rfl)
end L3
namespace L3
open PySem PySem.Spec PyProof.Rows L2
section
variable {X:Cx}
theorem qRY:OpD X (compareOp .Is) (qBV false):=by
  k_dat 0"r13"
  k_dat 0"r10"
  have nn:y = .non→v≠.non→P (.bl (false != false)) st→wpAny (model X.prog X.w) X.A (compareOp .Is u1 u2) (EP X pins σ Q) X.xe s:=fun e hv hp=>by
    subst e
    have:=dy.non
    exact qOZ pins s σ H v w u1 u2 Q I r1 r2 ⟨this,by rw [decide_eq_false hv];exact Go.here hq R hp D.qEO⟩
  cases x with
  | bl a =>
    cases y with
    | bl b =>
      cases dx.bl;cases dy.bl;cases r1;cases r2
      exact is_bool (qBi I hq R hr (by rw [qBA]))
    | non=>exact nn rfl (by rw [dx.bl];intro z;cases z) hr
    | _=>exact hr.elim
  | non =>
    cases y with
    | non=>exact qOZ pins s σ H v w u1 u2 Q I r1 r2 ⟨dy.non,by rw [decide_eq_true dx.non];exact Go.here hq R hr D.qEO⟩
    | _=>exact hr.elim
  | int a =>
    cases y with
    | non=>exact nn rfl (by rw [dx.int];intro z;cases z) hr
    | _=>exact hr.elim
  | str a =>
    cases y with
    | non=>exact nn rfl (by rw [dx.str];intro z;cases z) hr
    | _=>exact hr.elim
  | tup a =>
    cases y with
    | non=>exact nn rfl (by obtain⟨_,_,e,_⟩:=dx.tup;rw [e];intro z;cases z) hr
    | _=>exact hr.elim
  | lst a =>
    cases y with
    | non=>exact nn rfl (by rw [dx.lst.2];intro z;cases z) hr
    | _=>exact hr.elim
  | exc a =>
    cases y with
    | non=>exact nn rfl (by obtain⟨_,_,_,e,_⟩:=dx.exc;rw [e];intro z;cases z) hr
    | _=>exact hr.elim
  | _=>cases y<;>exact hr.elim
theorem qPP:OpD X (compareOp .IsNot) (qBV true):=by
  k_dat 0"r13"
  k_dat 0"r10"
  have nn:y = .non→v≠.non→P (.bl (false != true)) st→wpAny (model X.prog X.w) X.A (compareOp .IsNot u1 u2) (EP X pins σ Q) X.xe s:=fun e hv hp=>by
    subst e
    exact qL7 pins s σ H v w u1 u2 Q I r1 r2 ⟨dy.non,by rw [decide_eq_false hv];exact Go.here hq R hp D.qEO⟩
  cases x with
  | bl a =>
    cases y with
    | bl b =>
      cases dx.bl;cases dy.bl;cases r1;cases r2
      exact isnot_bool (qBi I hq R hr (by rw [qDw];rfl))
    | non=>exact nn rfl (by rw [dx.bl];intro z;cases z) hr
    | _=>exact hr.elim
  | non =>
    cases y with
    | non=>exact qL7 pins s σ H v w u1 u2 Q I r1 r2 ⟨dy.non,by rw [decide_eq_true dx.non];exact Go.here hq R hr D.qEO⟩
    | _=>exact hr.elim
  | int a =>
    cases y with
    | non=>exact nn rfl (by rw [dx.int];intro z;cases z) hr
    | _=>exact hr.elim
  | str a =>
    cases y with
    | non=>exact nn rfl (by rw [dx.str];intro z;cases z) hr
    | _=>exact hr.elim
  | tup a =>
    cases y with
    | non=>exact nn rfl (by obtain⟨_,_,e,_⟩:=dx.tup;rw [e];intro z;cases z) hr
    | _=>exact hr.elim
  | lst a =>
    cases y with
    | non=>exact nn rfl (by rw [dx.lst.2];intro z;cases z) hr
    | _=>exact hr.elim
  | exc a =>
    cases y with
    | non=>exact nn rfl (by obtain⟨_,_,_,e,_⟩:=dx.exc;rw [e];intro z;cases z) hr
    | _=>exact hr.elim
  | _=>cases y<;>exact hr.elim
end
end L3
namespace L3
open PySem PySem.Spec PyProof.Rows L2
section
variable {X:Cx}
theorem qMD {K:W.Frag} {φ:Nat→Addr} {N:Nat} {H:Hp} {d:Dt} {v:V} (h:D K φ N H d v) (o:okD 0 d=true):qD7 v=true:=by
  cases d with
  | non=>cases h.non;rfl
  | bl _=>cases h.bl;rfl
  | int _=>cases h.int;rfl
  | str _=>cases h.str;rfl
  | _=>exact absurd o (by simp [okD])
theorem qKO {K:W.Frag} {φ:Nat→Addr} {N:Nat} {H:Hp}:∀ {ds:List Dt} {vs:List V},DL K φ N H ds vs→ds.all (okD 0)=true→vs.all qD7=true
  | [],vs,h,_=>by simp only [DL] at h;rw [h];rfl
  | d::ds,vs,h,o=>by
    k_dat 0"r12"
    obtain⟨v,r,rfl,h2,h3⟩:=h
    rw [List.all_cons,Bool.and_eq_true] at o ⊢
    exact⟨qMD h2 o.1,qKO h3 o.2⟩
theorem qRp {K:W.Frag} {φ:Nat→Addr} {N:Nat} {H:Hp} {d e:Dt} {v w:V} (h:D K φ N H d v) (h':D K φ N H e w) (o:okD 0 d=true) (o':okD 0 e=true):eqV v w=eqD 0 d e:=by
  cases d<;>(try (exfalso;revert o;simp [okD];done))<;>cases e<;>(try (exfalso;revert o';simp [okD];done))<;>(simp only [D] at h h';subst h;subst h';rfl)
theorem qLw {K:W.Frag} {φ:Nat→Addr} {N:Nat} {H:Hp} {d:Dt} {v:V} (h':D K φ N H d v) (o':okD 0 d=true):∀ {ds:List Dt} {vs:List V},DL K φ N H ds vs→ds.all (okD 0)=true→inV v vs=ds.any (fun z=>eqD 0 z d)
  | [],vs,h,_=>by simp only [DL] at h;rw [h];rfl
  | e::ds,vs,h,o=>by
    k_dat 0"r12"
    obtain⟨w,r,rfl,h2,h3⟩:=h
    rw [List.all_cons,Bool.and_eq_true] at o
    have ih:=qLw h' o' h3 o.2
    unfold inV at ih ⊢
    rw [List.any_cons,List.any_cons,ih,qRp h2 h' o.1 o']
theorem qDU {K:W.Frag} {φ:Nat→Addr} {st:Sto} {H:Hp} {y:Dt} {w:V} {xs:List Dt} (R:Rep K φ st H) (dy:D K φ st.length H y w) (e:qd st y=some xs) :
    ∃ p vs,w = .ref p∧((SqL K H p vs∧∃ n,y = .lst n)∨(SqT K H p vs∧y = .tup xs))∧DL K φ st.length H xs vs:=by
  cases y with
  | tup zs =>
    have e':zs=xs:=Option.some.inj e
    subst e'
    obtain⟨a,vs,e1,s1,d1⟩:=dy.tup
    exact⟨a,vs,e1,.inr ⟨s1,rfl⟩,d1⟩
  | lst n =>
    have e':(st[n]?).map SO.items=some xs:=e
    cases q:st[n]? with
    | none=>rw [q] at e';cases e'
    | some o =>
      rw [q] at e'
      have e2:o.items=xs:=Option.some.inj e'
      obtain⟨vs,h1,h2⟩:=R.seq q dy.isL
      rw [e2] at h2
      exact⟨φ n,vs,dy.lst.2,.inl ⟨h1,n,rfl⟩,h2⟩
  | _=>cases e
theorem qVE:OpD X (compareOp .In) (qCJ false):=by
  k_dat 0"r13"
  k_dat 0"r10"
  have gen:(match qd st y with
    | some xs=>okD 0 x=true∧xs.all (okD 0)=true∧P (.bl (xs.any (fun z=>eqD 0 z x) != false)) st
    | none=>False)→wpAny (model X.prog X.w) X.A (compareOp .In u1 u2) (EP X pins σ Q) X.xe s:=fun hg=>by
    split at hg
    · rename_i xs e
      obtain⟨o1,o2,hp⟩:=hg
      obtain⟨p,vs,e1,hs,hd⟩:=qDU R dy e
      refine qMP pins s σ H v w u1 u2 Q I r1 r2 ⟨p,vs,e1,hs.elim (fun z=>.inl z.1) fun z=>.inr z.1,qMD dx o1,qKO hd o2,?_⟩
      rw [if_neg Bool.false_ne_true,qLw dx o1 hd o2]
      rw [qBA] at hp
      exact Go.here hq R hp D.qEO
    · exact hg.elim
  cases x with
  | str i =>
    cases y with
    | str j =>
      have hr':P (.bl ((!(Builtin.Str.occurrences j i 0 j.length 1).isEmpty) != false)) st:=hr
      rw [qBA] at hr'
      exact qMZ pins s σ H v w u1 u2 Q I r1 r2 ⟨i,j,dx.str,dy.str,Go.here hq R hr' D.qEO⟩
    | _=>exact gen hr
  | _=>exact gen hr
end
end L3
namespace L3
open PySem PySem.Spec PyProof.Rows L2
section
variable {X:Cx}
def qL:RD2:=fun x y st P=>match y with
  | .int i=>(match x with
    | .str z=>z.length≤sizeLine∧(match atI z.cps.toList i with
      | some c=>P (.str ⟨#[c]⟩) st
      | none=>False)
    | x => match qd st x with
      | some xs=>(match atI xs i with
        | some d=>P d st
        | none=>False)
      | none=>False)
  | _=>False
theorem DL.atI {K:W.Frag} {φ:Nat→Addr} {N:Nat} {H:Hp} {ds:List Dt} {vs:List V} {i:Int} {d:Dt} (h:DL K φ N H ds vs) (e:L2.atI ds i=some d):∃ v,L2.atI vs i=some v∧D K φ N H d v:=by
  unfold L2.atI at e ⊢
  rw [← h.length]
  cases q:ixN ds.length i with
  | none=>rw [q] at e;cases e
  | some j =>
    rw [q] at e
    exact h.get e
theorem qUk {a b:Expr} {ta tb:TD} {pos:Pos} (ha:DE X a ta) (hb:DE X b tb) (hs:qL6 b:=by exact fun _ _=>rfl):DE X (.Subscript a b pos) (qE qL ta tb):=by
  have key:IxR X (qNv X.K qL):=by
    intro value slice pins s σ H v w u1 u2 Q I r1 r2 h hsub
    k_dat 0"r10"
    cases y with
    | int i =>
      have gen:(match qd st x with
        | some xs=>(match atI xs i with
          | some d=>P d st
          | none=>False)
        | none=>False)→wpAny (model X.prog X.w) X.A (subscriptTail value slice u1 u2) (EP X pins σ Q) X.xe s:=fun hg=>by
        split at hg
        · rename_i xs e
          split at hg
          · rename_i d ed
            obtain⟨p,vs,e1,hs,hd⟩:=qDU R dx e
            obtain⟨z,ez,dz⟩:=hd.atI ed
            refine qNU value slice pins s σ H v w u1 u2 Q I r1 r2 ?_ hsub
            rcases hs with ⟨hs,_⟩ | ⟨hs,_⟩
            · exact .inl ⟨p,vs,i,z,e1,dy.int,hs,ez,Go.here hq R hg dz⟩
            · exact .inr (.inl ⟨p,vs,i,z,e1,dy.int,hs,ez,Go.here hq R hg dz⟩)
          · exact hg.elim
        · exact hg.elim
      cases x with
      | str z =>
        have hr':z.length≤sizeLine∧(match atI z.cps.toList i with
          | some c=>P (.str ⟨#[c]⟩) st
          | none=>False):=hr
        obtain⟨h1,h2⟩:=hr'
        split at h2
        · rename_i c ec
          exact qNU value slice pins s σ H v w u1 u2 Q I r1 r2 (.inr (.inr ⟨z,i,c,dx.str,dy.int,h1,ec,Go.here hq R h2 D.mkStr⟩)) hsub
        · exact h2.elim
      | _=>exact gen hr
    | _=>exact hr.elim
  exact (qVC key ha hb hs).imp fun _ _ _=>qEo
noncomputable abbrev TOD:=Rho→Sto→(Option Int→Sto→Prop)→Prop
noncomputable def qUN (K:W.Frag) (t:TOD):TO:=fun σ H Q=>∃ φ st ρ P,Pre K φ st H ρ σ∧t ρ st P∧∀ o st',P o st'→∀ φ' H',Bhd K φ st H φ' st' H'→Q o H'
def DO (X:Cx) (e:Option Expr) (t:TOD):Prop:=PO X e (qUN X.K t)
noncomputable def qBr:TOD:=fun _ st P=>P none st
noncomputable def qBF (t:TD):TOD:=fun ρ st P=>t ρ st fun x st1=>match x with
  | .int i=>P (some i) st1
  | _=>False
theorem qQM:DO X none qBr:=fun pins s σ H Q I h=>by
  k_dat 0"r1"
  exact qPh pins s σ H Q I (hq none st ht φ H (.refl pre.1))
theorem qP4 {e:Expr} {t:TD} (he:DE X e t):DO X (some e) (qBF t):=fun pins s σ H Q I h=>by
  refine qQS he pins s σ H Q I ?_
  k_dat 0"r1"
  k_dat 0"r25"
  cases d with
  | int i=>exact⟨i,dx.int,hq _ st1 h1 φ1 H1 b1⟩
  | _=>exact h1.elim
noncomputable def cutD (xs:List Dt) (lo hi:Option Int):List Dt:=(xs.drop (HT.sIx xs.length 0 lo)).take (HT.sIx xs.length xs.length hi - HT.sIx xs.length 0 lo)
def qBh (te:TD) (tl th:TOD):TD:=fun ρ st P=>te ρ st fun x st1=>tl ρ st1 fun lo st2=>th ρ st2 fun hi st3=>match x with
  | .tup xs=>¬ (HT.sIx xs.length 0 lo=0∧HT.sIx xs.length xs.length hi=xs.length)∧P (.tup (cutD xs lo hi)) st3
  | .lst n=>(match st3[n]? with
    | some o=>P (.lst st3.length) (st3++[.rw (cutD o.items lo hi)])
    | none=>False)
  | _=>False
theorem qNc {e:Expr} {lo hi:Option Expr} {te:TD} {tl th:TOD} {pos p2:Pos} (he:DE X e te) (hl:DO X lo tl) (hu:DO X hi th):DE X (.Subscript e (.Slice lo hi none p2) pos) (qBh te tl th):=by
  refine PE.imp (qKE (qOj.or qLd) he hl hu) fun σ H Q h=>?_
  k_dat 0"r1"
  k_dat 0"r9"
  refine⟨φ1,st1,ρ,_,pre.on b1,h1,fun l st2 h2 φ2 H2 b2=>?_⟩
  refine⟨φ2,st2,ρ,_,(pre.on b1).on b2,h2,fun u st3 h3 φ3 H3 b3=>?_⟩
  have b:=b1.trans (b2.trans b3)
  have dx3:=(dx.evo b2.2).evo b3.2
  cases x with
  | tup xs =>
    obtain⟨a,vs,e1,s1,d1⟩:=dx3.tup
    have h3':¬ (HT.sIx xs.length 0 l=0∧HT.sIx xs.length xs.length u=xs.length)∧P (.tup (cutD xs l u)) st3:=h3
    refine .inl ⟨a,vs,e1,s1,by rw [← d1.length];exact h3'.1,fun p hp=>hq _ st3 h3'.2 φ3 _ _ (b.trans (qCL b3.1 hp)) (.qDK (SqT.of qAH) ?_)⟩
    unfold cutD qF5
    rw [← d1.length]
    exact ((d1.drop _).take _).evo (qB4 hp)
  | lst n =>
    have h3':(match st3[n]? with
      | some o=>P (.lst st3.length) (st3++[.rw (cutD o.items l u)])
      | none=>False):=h3
    split at h3'
    · rename_i o eo
      obtain⟨vs,s1,d1⟩:=b3.1.seq eo dx3.isL
      refine .inr ⟨φ3 n,vs,dx3.lst.2,s1,fun p hp=>?_⟩
      have:DL X.K φ3 st3.length H3 (cutD o.items l u) (qF5 vs l u):=by
        unfold cutD qF5
        rw [← d1.length]
        exact (d1.drop _).take _
      exact hq _ _ h3' _ _ _ (b.trans (qCR b3.1 hp this)) qEZ
    · exact h3'.elim
  | _=>exact h3.elim
end
end L3
namespace L3
open PySem PySem.Spec PyProof.Rows L2
noncomputable def qS (K:W.Frag) (sp:RDL):Sp:=fun vs H Q _=>qPU K sp vs H Q
section
variable {X:Cx} {e:Expr} {es:List Expr} {t:TAD} {pos p:Pos} {x:Str}
theorem qRI {k:Nat} {f:Addr} {fd:FuncData} {ps:List Str} {sp:RDL} (F:qAJ X.prog X.w X.K X.mg X.base CX0 k f fd ps (qS X.K sp)) (hr:qAx k X.A) (hm:X.mg x=some (.ref f)) (hk:W.keepIn X.K (.ref f)=true)
    (hb:Binds X.K fd ps []) (ha:DA X (e::es) t) (hg:Gl X x:=by rfl) (hdb:(x==("__debug__" : Str))=false:=by decide) (he:starEach (e::es) X.env=(false,eval e X.env)::starEach es X.env:=by rfl)
    (hpl:(backTo pos (starEach es X.env)).any (·.1)=false:=by rfl):DE X (.Call (.Name x p) (e::es) [] pos) (qI sp t):=by
  refine PE.imp (qRJ F hr hg hm hk hb .nil qH7 ha hdb he hpl) fun σ H Q h=>?_
  have:=qFY h
  obtain⟨φ,st,ρ,P,pre,ht,hq⟩:=this
  refine⟨φ,st,ρ,P,pre,ht,fun ds st' hp φ' H' vs b d=>?_⟩
  show qS X.K sp (vs++[]) H' Q E0
  rw [List.append_nil]
  exact hq ds st' hp φ' H' vs b d
theorem qC3 {id:String} {r:RDL} (hc:qDs X (.builtin id) r) (hm:X.mg x=none) (hv:bootBuiltins x=some (.builtin id)) (ha:DA X (e::es) t) (hg:Gl X x:=by rfl) (hn:x ≠ "__name__":=by decide) (hdb:(x==("__debug__" : Str))=false:=by decide)
    (he:starEach (e::es) X.env=(false,eval e X.env)::starEach es X.env:=by rfl) (hpl:(backTo pos (starEach es X.env)).any (·.1)=false:=by rfl):DE X (.Call (.Name x p) (e::es) [] pos) (qI r t) :=
  PE.imp (qOr hc hg hm hv ha hn hdb he hpl) fun σ H Q h=>qFY h
theorem qFH {T:String} {r:RDL} (hc:qDs X (.type T) r) (hm:X.mg x=none) (hv:bootBuiltins x=some (.type T)) (ha:DA X (e::es) t) (hg:Gl X x:=by rfl) (hn:x ≠ "__name__":=by decide) (hdb:(x==("__debug__" : Str))=false:=by decide)
    (he:starEach (e::es) X.env=(false,eval e X.env)::starEach es X.env:=by rfl) (hpl:(backTo pos (starEach es X.env)).any (·.1)=false:=by rfl):DE X (.Call (.Name x p) (e::es) [] pos) (qI r t) :=
  PE.imp (qNL hc hg hm hv ha hn hdb he hpl) fun σ H Q h=>qFY h
def qBE:RDL:=fun ds st P=>match ds with
  | [.str z]=>z.length≤sizeLine∧P (.int z.length) st
  | [x]=>(match qd st x with
    | some xs=>P (.int xs.length) st
    | none=>False)
  | _=>False
theorem qTU:qDs X (.builtin "len") qBE:=by
  k_dat 0"r21"
  k_dat 0"r23"
  k_dat 0"r30"
  · exact hr.elim
  rotate_left
  · cases x<;>exact hr.elim
  · k_dat 0"r28"
    have gen:(match qd st x with
      | some xs=>P (.int xs.length) st
      | none=>False)→wpAny (model X.prog X.w) X.A (call (.builtin "len") us) (EP X pins σ Q) X.xe s:=fun hg=>by
      split at hg
      · rename_i xs e
        obtain⟨p,ws,e1,hs,hd⟩:=qDU R dx e
        refine qJa pins s σ H [v] us Q I rv ⟨p,ws,by rw [e1],hs.elim (fun z=>.inl z.1) fun z=>.inr z.1,?_⟩
        rw [← hd.length]
        exact Go.here hq R hg D.mkInt
      · exact hg.elim
    cases x with
    | str z=>exact qIg pins s σ H [v] us Q I rv ⟨z,by rw [dx.str],hr.1,Go.here hq R hr.2 D.mkInt⟩
    | _=>exact gen hr
def qAa:RDL:=fun ds st P=>match ds with
  | [x]=>(match qd st x with
    | some xs=>P (.tup xs) st
    | none=>False)
  | _=>False
theorem qNn:qDs X (.type "tuple") qAa:=by
  k_dat 0"r21"
  k_dat 0"r23"
  k_dat 0"r30"
  · exact hr.elim
  rotate_left
  · cases x<;>exact hr.elim
  · k_dat 0"r28"
    have hr':(match qd st x with
      | some xs=>P (.tup xs) st
      | none=>False):=hr
    split at hr'
    · rename_i xs e
      obtain⟨p,ws,e1,hs,hd⟩:=qDU R dx e
      refine qHu pins s σ H [v] us Q I rv ⟨p,ws,by rw [e1],?_⟩
      rcases hs with ⟨hs,_⟩ | ⟨hs,ex⟩
      · exact .inl ⟨hs,fun l hl=>hq _ st hr' φ _ _ (qCL R hl) (.qDK (SqT.of qAH) (hd.evo (qB4 hl)))⟩
      · exact .inr ⟨hs,Go.here hq R hr' (.qDK hs hd)⟩
    · exact hr'.elim
def qEy:RDL:=fun ds st P=>match ds with
  | [x]=>(match qd st x with
    | some xs=>P (.lst st.length) (st++[.rw xs])
    | none=>False)
  | _=>False
theorem qPv:qDs X (.type "list") qEy:=by
  k_dat 0"r21"
  k_dat 0"r23"
  k_dat 0"r30"
  · exact hr.elim
  rotate_left
  · cases x<;>exact hr.elim
  · k_dat 0"r28"
    have hr':(match qd st x with
      | some xs=>P (.lst st.length) (st++[.rw xs])
      | none=>False):=hr
    split at hr'
    · rename_i xs e
      obtain⟨p,ws,e1,hs,hd⟩:=qDU R dx e
      exact qIl pins s σ H [v] us Q I rv ⟨p,ws,by rw [e1],hs.elim (fun z=>.inl z.1) fun z=>.inr z.1,fun l hl=>hq _ _ hr' _ _ _ (qCR R hl hd) qEZ⟩
    · exact hr'.elim
end
end L3
namespace L3
open PySem PySem.Spec PyProof.Rows L2
section
variable {X:Cx}
noncomputable def tyN:Dt→Option String
  | .non=>some "NoneType"
  | .bl _=>some "bool"
  | .int _=>some "int"
  | .str _=>some "str"
  | .tup _=>some "tuple"
  | .lst _=>some "list"
  | .ty _=>none
  | .dic _=>none
  | .ins _=>none
  | .exc _=>none
noncomputable def isT (t c:String):Bool:=t==c || (t == "bool" && c == "int")
theorem qFO (K:W.Frag) {t c:String} (ht:t = "NoneType" ∨ t = "bool" ∨ t = "int" ∨ t = "str" ∨ t = "tuple" ∨ t = "list") (hc:c = "bool" ∨ c = "int" ∨ c = "str" ∨ c = "tuple" ∨ c = "list"):W.kitOne K (.type t) (.type c)=some (isT t c):=by
  rcases ht with rfl | rfl | rfl | rfl | rfl | rfl<;>rcases hc with rfl | rfl | rfl | rfl | rfl<;>kernel_rfl
def qAs:RDL:=fun ds st P=>match ds with
  | [x,.ty c]=>(c = "bool" ∨ c = "int" ∨ c = "str" ∨ c = "tuple" ∨ c = "list")∧(match tyN x with
    | some t=>P (.bl (isT t c)) st
    | none=>False)
  | _=>False
theorem qMm:qDs X (.builtin "isinstance") qAs:=by
  k_dat 0"r21"
  k_dat 0"r23"
  rcases ds with _ | ⟨x,_ | ⟨y,_ | ⟨z,r⟩⟩⟩
  · exact hr.elim
  · exact hr.elim
  rotate_left
  · cases y<;>exact hr.elim
  · cases y<;>first
      | exact hr.elim
      | skip
    rename_i c
    obtain⟨v,w,rfl,dx,dy⟩:=dl.two
    obtain⟨u,u',rfl,ru,ru'⟩:=vals2 rv
    have:=dy.ty
    subst this
    have:=(show u'=Value.type c from ru')
    subst this
    obtain⟨hc,hr⟩:=hr
    have fin:∀ {t:String},P (.bl (isT t c)) st→∀ tk,EP X pins σ Q (.bool (isT t c)) { s with toks:=tk }:=fun {t} hp tk=>⟨.bl _,H,I.tok tk,rfl,Go.here hq R hp D.qEO⟩
    cases x with
    | non=>cases dx.non;cases ru;exact W.kia_one W.kitx_none I.kIn True.intro (qFO _ (.inl rfl) hc) (fun z=>nomatch z) (fin hr)
    | bl k=>cases dx.bl;cases ru;exact W.kia_one W.kitx_bool I.kIn True.intro (qFO _ (.inr (.inl rfl)) hc) (fun z=>nomatch z) (fin hr)
    | int k=>cases dx.int;obtain⟨t,rfl⟩:=ru;exact W.kia_one W.kitx_int I.kIn True.intro (qFO _ (.inr (.inr (.inl rfl))) hc) (fun z=>nomatch z) (fin hr)
    | str k=>cases dx.str;obtain⟨t,rfl⟩:=ru;exact W.kia_one W.kitx_str I.kIn True.intro (qFO _ (.inr (.inr (.inr (.inl rfl)))) hc) (fun z=>nomatch z) (fin hr)
    | tup xs =>
      obtain⟨a,ws,e1,s1,d1⟩:=dx.tup
      subst e1
      cases ru
      obtain⟨its,_,⟨o,h1,h2,_⟩,_⟩:=I.tuple s1
      exact W.kia_one W.kitx_tuple I.kIn ⟨o,h1,h2⟩ (qFO _ (.inr (.inr (.inr (.inr (.inl rfl))))) hc) (fun z=>nomatch z) (fin hr)
    | lst n =>
      obtain⟨ws,s1⟩:=dx.isL
      obtain⟨hn,e1⟩:=dx.lst
      subst e1
      cases ru
      obtain⟨its,_,pl,_⟩:=I.list s1
      obtain⟨ob,h1,h2,_⟩:=pl.isList
      exact W.kia_one W.kitx_list I.kIn ⟨ob,h1,h2⟩ (qFO _ (.inr (.inr (.inr (.inr (.inr rfl))))) hc) (fun z=>nomatch z) (fin hr)
    | ty _=>exact hr.elim
    | dic _=>exact hr.elim
    | ins _=>exact hr.elim
    | exc _=>exact hr.elim
end
end L3
namespace L3
open PySem PySem.Spec PyProof.Rows L2
section
variable {X:Cx} {s:Stmt} {rest:List Stmt} {t u:TSD} {e:Expr} {te:TD} {pos:Pos}
def qJ:TSD:=fun E ρ st=>E.nx ρ st
def tseq (t u:TSD):TSD:=fun E ρ st=>t { E with nx:=u E } ρ st
theorem qP2:DSs X [] qJ:=(qQt).imp fun E σ H h=>by
  k_dat 0"r14"
  exact n ρ st ht φ H σ (.refl pre.1) pre.2
theorem qHT (h1:DS X s t) (h2:DSs X rest u):DSs X (s::rest) (tseq t u):=(qOU h1 h2).imp fun E σ H h=>by
  k_dat 0"r14"
  refine⟨φ,st,ρ,{ P with nx:=u P },pre,ht,fun ρ' st' hu φ' H' σ' bh dr=>?_,b,c,r⟩
  exact⟨φ',st',ρ',P,⟨bh.1,dr⟩,hu,fun ρ2 st2 h2 φ2 H2 σ2 b2 d2=>n ρ2 st2 h2 φ2 H2 σ2 (bh.trans b2) d2,fun ρ2 st2 h2 φ2 H2 σ2 b2 d2=>b ρ2 st2 h2 φ2 H2 σ2 (bh.trans b2) d2,
    fun ρ2 st2 h2 φ2 H2 σ2 b2 d2=>c ρ2 st2 h2 φ2 H2 σ2 (bh.trans b2) d2,fun d st2 h2 φ2 H2 v b2 d2=>r d st2 h2 φ2 H2 v (bh.trans b2) d2⟩
def qAo (te:TD):TSD:=fun E ρ st=>te ρ st fun _ st1=>E.nx ρ st1
theorem qQA (he:DE X e te) (hs:swapsWith e none pos.line X.env=pure false:=by rfl):DS X (.Expr e pos) (qAo te):=(qQ0 he hs).imp fun E σ H h=>by
  k_dat 0"r14"
  exact⟨φ,st,ρ,_,pre,ht,fun d st1 h1 φ1 H1 v b1 dx=>n ρ st1 h1 φ1 H1 σ b1 (pre.on b1).2⟩
def qX (te:TD):TSD:=fun E ρ st=>te ρ st E.rt
theorem qS2 (he:DE X e te):DS X (.Return (some e) pos) (qX te):=(qR6 he).imp fun E σ H h=>by
  k_dat 0"r14"
  exact⟨φ,st,ρ,P.rt,pre,ht,r⟩
def qNT:TSD:=fun E _ st=>E.rt .non st
theorem qQG:DS X (.Return none pos) qNT:=(qPf).imp fun E σ H h=>by
  k_dat 0"r14"
  exact r .non st ht φ H _ (.refl pre.1) D.qH5
def qo (c:TBD) (t u:TSD):TSD:=fun E ρ st=>c ρ st fun k st1=>if k=true then t E ρ st1 else u E ρ st1
theorem qUE {c:Expr} {a b:List Stmt} {tc:TBD} (hc:DT X c tc) (ha:DSs X a t) (hb:DSs X b u):DS X (.If c a b pos) (qo tc t u):=(qUz hc ha hb).imp fun E σ H h=>by
  k_dat 0"r14"
  k_dat 0"r33"
  have on:∀ {v:TSD},v P ρ st1→qKD X.K v E σ H1:=fun {v} hv=>⟨φ1,st1,ρ,P,pre.on b1,hv,fun ρ2 st2 h2 φ2 H2 σ2 b2 d2=>n ρ2 st2 h2 φ2 H2 σ2 (b1.trans b2) d2,fun ρ2 st2 h2 φ2 H2 σ2 b2 d2=>b ρ2 st2 h2 φ2 H2 σ2 (b1.trans b2) d2,
    fun ρ2 st2 h2 φ2 H2 σ2 b2 d2=>c ρ2 st2 h2 φ2 H2 σ2 (b1.trans b2) d2,fun d st2 h2 φ2 H2 v b2 d2=>r d st2 h2 φ2 H2 v (b1.trans b2) d2⟩
  cases k with
  | true=>exact qCD (on (by rw [if_pos rfl] at h1;exact h1))
  | false=>exact qBK (on (by rw [if_neg Bool.false_ne_true] at h1;exact h1))
noncomputable abbrev TGD:=Dt→Rho→Sto→(Rho→Sto→Prop)→Prop
noncomputable abbrev qIi:=List Dt→Rho→Sto→(Rho→Sto→Prop)→Prop
noncomputable def qIO (K:W.Frag) (g:TGD):TG:=fun v σ H Q=>∃ φ st ρ d P,Pre K φ st H ρ σ∧D K φ st.length H d v∧g d ρ st P∧∀ ρ' st',P ρ' st'→∀ φ' H' σ',Bhd K φ st H φ' st' H'→DR K φ' st'.length H' ρ' σ'→Q σ' H'
noncomputable def qSl (K:W.Frag) (g:qIi):TGs:=fun vs σ H Q=>∃ φ st ρ ds P,Pre K φ st H ρ σ∧DL K φ st.length H ds vs∧g ds ρ st P∧∀ ρ' st',P ρ' st'→∀ φ' H' σ',Bhd K φ st H φ' st' H'→DR K φ' st'.length H' ρ' σ'→Q σ' H'
def DG (X:Cx) (tg:Expr) (g:TGD):Prop:=PG X tg (qIO X.K g)
def DGs (X:Cx) (tg:List Expr) (g:qIi):Prop:=PGs X tg (qSl X.K g)
theorem _root_.L2.PG.imp {X:Cx} {e:Expr} {t t':TG} (h:PG X e t) (i:∀ v σ H Q,t' v σ H Q→t v σ H Q):PG X e t':=fun pins s σ H v u Q I r q=>h pins s σ H v u Q I r (i v σ H Q q)
theorem _root_.L2.PGs.imp {X:Cx} {e:List Expr} {t t':TGs} (h:PGs X e t) (i:∀ v σ H Q,t' v σ H Q→t v σ H Q):PGs X e t':=fun pins s σ H v u Q I r q=>h pins s σ H v u Q I r (i v σ H Q q)
noncomputable def qP (i:Nat):TGD:=fun d ρ st P=>P (ρ.set i (some d)) st
theorem qJB (i:Nat) {x:Str} (hN:X.N.Nodup) (hi:X.N[i]? = some x:=by rfl) (hx:Loc X.env.scope x:=by first | exact Or.inl rfl | exact Or.inr rfl) (hf:X.fn x=true∨X.env.scope.names.lookup x=some .local:=by first | exact .inl rfl | exact .inr rfl | assumption):DG X (.Name x pos) (qP i) :=
  (qJF hN hi hx hf).imp fun v σ H Q h=>by
    obtain⟨φ,st,ρ,d,P,pre,hd,hg,hq⟩:=h
    exact hq _ st hg φ H _ (.refl pre.1) (pre.2.set hd i)
noncomputable def qB6:qIi:=fun ds ρ st P=>match ds with
  | []=>P ρ st
  | _=>False
noncomputable def qAq (g:TGD) (gs:qIi):qIi:=fun ds ρ st P=>match ds with
  | d::r=>g d ρ st fun ρ1 st1=>gs r ρ1 st1 P
  | _=>False
theorem qMG:DGs X [] qB6:=(qQj).imp fun v σ H Q h=>by
  obtain⟨φ,st,ρ,ds,P,pre,hd,hg,hq⟩:=h
  cases ds with
  | nil =>
    have:v=[]:=by simpa [DL] using hd
    exact⟨this,hq _ st hg φ H _ (.refl pre.1) pre.2⟩
  | cons _ _=>exact hg.elim
theorem qGq {es:List Expr} {g:TGD} {gs:qIi} (h1:DG X e g) (h2:DGs X es gs) (hs:(assignEach (e::es) X.env).map (·.2)=assign e X.env::(assignEach es X.env).map (·.2):=by rfl):DGs X (e::es) (qAq g gs):=(qNh h1 h2 hs).imp fun v σ H Q h=>by
  obtain⟨φ,st,ρ,ds,P,pre,hd,hg,hq⟩:=h
  cases ds with
  | nil=>exact hg.elim
  | cons d r =>
    simp only [DL] at hd
    obtain⟨w,ws,rfl,dw,dws⟩:=hd
    refine⟨w,ws,rfl,φ,st,ρ,d,_,pre,dw,hg,fun ρ1 st1 h1 φ1 H1 σ1 b1 dr1=>?_⟩
    exact⟨φ1,st1,ρ1,r,P,⟨b1.1,dr1⟩,dws.evo b1.2,h1,fun ρ2 st2 h2 φ2 H2 σ2 b2 d2=>hq ρ2 st2 h2 φ2 H2 σ2 (b1.trans b2) d2⟩
noncomputable def qAj (n:Nat) (gs:qIi):TGD:=fun d ρ st P=>match qd st d with
  | some xs=>xs.length=n∧gs xs ρ st P
  | none=>False
theorem qIU {prog:Program} {w:World} {A:Around} {E:Value→Shared→Prop} {it l:Addr} {items:Array Value} (hne:l≠it):∀ (n i:Nat) (s:Shared) (Q:List Value→Shared→Prop),s.heap.IsListIter it l i→s.heap.IsList l items→i+n≤items.size →
    (∀ h',h'.IsListIter it l (i+n)→Heap.SameBut it s.heap h'→Q ((items.toList.drop i).take n) { s with heap:=h' })→wpAny (model prog w) A (draw (.ref it) n) Q E s
  | 0,i,s,Q,hit,hl,hn,h=>by
    unfold draw
    have:=h s.heap (by simpa using hit) (.refl ..)
    simpa using wpAny_pure this
  | n + 1,i,s,Q,hit,hl,hn,h=>by
    unfold draw
    have hi:i<items.size:=by lia
    refine wpAny_bind (wpAny_pyNext_list_item hit hl (x:=items[i]) (by simp [hi]) fun h1 hit1 sb1=>?_)
    dsimp only
    refine wpAny_bind (wpAny_holding ?_)
    refine qIU hne n (i+1) { s with heap:=h1 } _ hit1 (hl.extBut sb1.extBut hne) (by lia) fun h2 hit2 sb2=>?_
    k_dat 0"r17"
    have e:(items.toList.drop i).take (n+1)=items[i]::(items.toList.drop (i+1)).take n:=by
      rw [List.drop_eq_getElem_cons (by simpa using hi),List.take_succ_cons]
      simp
    have:=h h2 (by rw [show i+(n+1)=i+1+n by lia];exact hit2) (sb1.trans sb2)
    rw [e] at this
    exact this
end
end L3
namespace L3
open PySem PySem.Spec PyProof.Rows L2
section
variable {prog:Program} {w:World} {A:Around} {E:Value→Shared→Prop} {s:Shared}
theorem qFG {l:Addr} {items:Array Value} {Q:List Value→Shared→Prop} (hh:A.handled=none) (hl:s.heap.IsList l items)
    (hQ:∀ h',Heap.ExtBut s.heap.objs.size s.heap h'→Q items.toList { s with heap:=h' }):wpAny (model prog w) A (unpackItems (.ref l) items.size none) Q E s:=by
  have hlt:l≠s.heap.objs.size:=by obtain⟨o,ho,_⟩:=hl;exact Nat.ne_of_lt (Heap.lt_size ho)
  unfold unpackItems
  k_dat 0"r11"
  unfold notIterableAtAll
  refine wpAny_bind (wpAny_specialOf hl.typeIs slot_list_iter.lookup ?_)
  k_dat 0"r17"
  simp only [Bool.false_eq_true,if_false]
  refine wpAny_bind (wpAny_holding (wpAny_pyIter_list hl ?_))
  refine wpAny_bind (wpAny_holding (qIU hlt items.size 0 _ _ ⟨_,Heap.get?_push_size _ rfl,rfl,rfl⟩ (hl.push _) (by lia) fun h₁ hit₁ hs₁=>?_))
  have hall:List.take items.size (List.drop 0 items.toList)=items.toList:=by
    rw [List.drop_zero];exact List.take_of_length_le (by simp)
  rw [hall]
  rw [if_neg (by simp)]
  have hl₁:h₁.IsList l items:=(hl.push _).extBut hs₁.extBut hlt
  refine wpAny_bind (wpAny_holding (wpAny_pyNext_list_end hh hit₁ hl₁ (by simp) fun h₂ he₂=>?_))
  simp only [Option.isSome_none,Bool.false_eq_true,if_false]
  exact wpAny_pure (hQ h₂ fun b o hb e=>he₂ b o hb (hs₁.extBut b o hb (Heap.get?_push_of_some _ e)))
theorem qEl {env:Env} {elts:List Expr} {x1} {pos:Pos} {t:Addr} {items:Array Value} {Q:Unit→Shared→Prop} (hh:A.handled=none) (ht:s.heap.IsList t items)
    (hn:(assignEach elts env).length=items.size) (hstar:(assignEach elts env).findIdx? (·.1)=none)
    (h:∀ h',Heap.ExtBut s.heap.objs.size s.heap h'→wpAny (model prog w) A (assignInOrder ((assignEach elts env).map (·.2)) items.toList) Q E { s with heap:=h' }) :
    wpAny (model prog w) A (assign (.Tuple elts x1 pos) env (.ref t)) Q E s:=by
  rw [assign_Tuple]
  refine wpAny_bind (wpAny_standAt ?_)
  unfold unpack
  rw [hn,hstar]
  exact wpAny_bind (wpAny_holding (qFG hh ht h))
end
section
variable {X:Cx} {pos:Pos} {e:Expr} {te:TD}
theorem qIF {es:List Expr} {k:Nat} {gs:qIi} (n:Nat) (hc:X.calm=true) (h:DGs X es gs) (hn:(assignEach es X.env).length=n:=by rfl) (hst:(assignEach es X.env).findIdx? (·.1)=none:=by rfl):DG X (.Tuple es k pos) (qAj n gs):=by
  intro pins s σ H v u Q I r hw
  obtain⟨φ,st,ρ,d,P,pre,hd,hg,hq⟩:=hw
  unfold qAj at hg
  split at hg
  · rename_i xs ex
    obtain⟨hl,hg⟩:=hg
    obtain⟨p,vs,e1,hs,dl⟩:=qDU pre.1 hd ex
    subst e1
    cases r
    have hlen:=dl.length
    rcases hs with ⟨hs,_⟩ | ⟨hs,_⟩
    · obtain⟨its,rv,pl,_⟩:=I.list hs
      have:=rv.length
      refine qEl (I.ok.hd hc) pl.isList (by rw [hn,List.size_toArray];lia) hst fun h' hx=>?_
      k_dat 0"r63"
      exact h pins _ σ H vs _ Q I1 (by simpa using rv) ⟨φ,st,ρ,xs,P,pre,dl,hg,hq⟩
    · obtain⟨its,rv,ht,_⟩:=I.tuple hs
      have:=rv.length
      refine assign_Tuple_tuple (I.ok.hd hc) ht (by rw [hn,List.size_toArray];lia) hst fun h' hx=>?_
      k_dat 0"r63"
      exact h pins _ σ H vs _ Q I1 (by simpa using rv) ⟨φ,st,ρ,xs,P,pre,dl,hg,hq⟩
  · exact hg.elim
def qR (te:TD) (g:TGD):TSD:=fun E ρ st=>te ρ st fun d st1=>g d ρ st1 E.nx
theorem qPE {K:W.Frag} {te:TD} {g:TGD} {E:Ends} {σ:L2.St} {H:Hp} (h:qKD K (qR te g) E σ H):qQY (qAz K te) (qIO K g) E σ H:=by
  k_dat 0"r14"
  k_dat 0"r25"
  exact⟨φ1,st1,ρ,d,P.nx,pre.on b1,dx,h1,fun ρ2 st2 h2 φ2 H2 σ2 b2 d2=>n ρ2 st2 h2 φ2 H2 σ2 (b1.trans b2) d2⟩
theorem qSS {tg:Expr} {g:TGD} (he:DE X e te) (hg:DG X tg g) (hs:swapsWithSole [tg] e pos.line X.env=pure false:=by rfl) (hw:swappedStores [tg] e X.env=pure none:=by rfl)
    (h1:(assignEach [tg] X.env).map (·.2)=[assign tg X.env]:=by rfl):DS X (.Assign [tg] e pos) (qR te g):=(qTL he hg hs hw h1).imp fun _ _ _=>qPE
theorem qTS (i:Nat) {x:Str} {pos':Pos} (hN:X.N.Nodup) (he:DE X e te) (hi:X.N[i]? = some x:=by rfl) (hx:Loc X.env.scope x:=by first | exact Or.inl rfl | exact Or.inr rfl) (hs:swapsWith e (some (.Name x pos')) pos.line X.env=pure false:=by rfl)
    (hf:X.fn x=true∨X.env.scope.names.lookup x=some .local:=by first | exact .inl rfl | exact .inr rfl | assumption):DS X (.Assign [.Name x pos'] e pos) (qR te (qP i)):=(qTB hN hi hx he hs hf).imp fun E σ H h=>by
  k_dat 0"r14"
  exact⟨φ,st,ρ,_,pre,ht,fun d st1 h1 φ1 H1 v b1 dx=>n _ st1 h1 φ1 H1 _ b1 ((pre.on b1).2.set dx i)⟩
noncomputable def qCX (to ti:TD):TGD:=fun d ρ st P=>to ρ st fun o st1=>ti ρ st1 fun i st2=>match o,i with
  | .lst n,.int k=>(match st2[n]? with
    | some (.rw xs)=>(match ixN xs.length k with
      | some j=>P ρ (st2.set n (.rw (xs.set j d)))
      | none=>False)
    | _=>False)
  | _,_=>False
theorem qSf {o i:Expr} {to ti:TD} (ho:DE X o to) (hi:DE X i ti)
    (ha:∀ v,assign (.Subscript o i pos) X.env v=(do
      let ov ← holding [v] (eval o X.env)
      let iv ← holding [v,ov] (eval i X.env)
      standAt pos
      holding [v,ov,iv] (setItem ov iv v)
      release [v,ov,iv] []):=by intro _;rfl):DG X (.Subscript o i pos) (qCX to ti):=(qS0 ho hi set_list ha).imp fun v σ H Q h=>by
  obtain⟨φ,st,ρ,d,P,pre,hd,hg,hq⟩:=h
  refine⟨φ,st,ρ,_,pre,hg,fun x st1 h1 φ1 H1 w b1 dx=>?_⟩
  refine⟨φ1,st1,ρ,_,pre.on b1,h1,fun y st2 h2 φ2 H2 z b2 dy=>?_⟩
  cases x with
  | lst n =>
    cases y with
    | int k =>
      have h2':(match st2[n]? with
        | some (.rw xs)=>(match ixN xs.length k with
          | some j=>P ρ (st2.set n (.rw (xs.set j d)))
          | none=>False)
        | _=>False):=h2
      split at h2'
      · rename_i xs ex
        split at h2'
        · rename_i j ej
          obtain⟨vs,hv,dl⟩:=b2.1.rw n xs ex
          have dx2:=dx.evo b2.2
          have hd2:=(hd.evo b1.2).evo b2.2
          refine⟨φ2 n,vs,k,j,dx2.lst.2,dy.int,hv,by rw [← dl.length];exact ej,?_⟩
          have bb:Bhd X.K φ2 st2 H2 φ2 (st2.set n (.rw (xs.set j d))) (upd H2 (φ2 n) (.lst (vs.set j v))):=⟨b2.1.qTA ex (dl.set hd2 j),qGJ hv⟩
          exact hq _ _ h2' φ2 _ σ (b1.trans (b2.trans bb)) (((pre.on b1).on b2).on bb).2
        · exact h2'.elim
      · exact h2'.elim
    | _=>exact h2.elim
  | _=>cases y<;>exact h2.elim
def qAU (to te:TD):TD:=fun ρ st P=>to ρ st fun o st1=>match o with
  | .lst n=>te ρ st1 fun d st2=>(match st2[n]? with
    | some (.rw xs)=>xs.length<sizeLine∧P .non (st2.set n (.rw (xs++[d])))
    | _=>False)
  | _=>False
theorem qMd {o:Expr} {to:TD} {apos cpos:Pos} (ho:DE X o to) (he:DE X e te)
    (hbase:attributeBase o "append" X.env (eval o X.env)=eval o X.env:=by rfl)
    (hfew:((backTo cpos (starEach [e] X.env)).all (fun x=>!x.1)&&(backToKw cpos (keywordEach [] X.env)).all (fun x=>x.1.isSome)
      && decide (([e]:List Expr).length+([]:List Keyword).length+(if ([]:List Keyword).isEmpty then 0 else 1)<30))=true:=by rfl)
    (hline:(apos.endLine==cpos.line)=true:=by rfl) (hs:starEach [e] X.env=(false,eval e X.env)::starEach [] X.env:=by rfl) (hplain:(backTo cpos (starEach ([]:List Expr) X.env)).any (·.1)=false:=by rfl) :
    DE X (.Call (.Attribute o "append" apos) [e] [] cpos) (qAU to te):=by
  refine PE.imp (qRl PySem.F.plainAttrs_list PySem.F.slot_list_append PySem.F.type_list_append qMs ho (qEx he qGw hs) hbase hfew hline hs hplain) fun σ H Q h=>?_
  k_dat 0"r1"
  k_dat 0"r9"
  cases x with
  | lst n =>
    have hn:=dx.lst.1
    obtain⟨so,eo⟩:∃ so,st1[n]? = some so:=⟨st1[n],by simp [hn]⟩
    obtain⟨ws,hws,_⟩:=b1.1.seq eo dx.isL
    refine⟨?_,?_⟩
    · rw [dx.lst.2]
      exact .inl ⟨rfl,ws,hws⟩
    refine⟨φ1,st1,ρ,(fun ds st2=>match ds with
      | [d]=>(match st2[n]? with
        | some (.rw xs)=>xs.length<sizeLine∧P .non (st2.set n (.rw (xs++[d])))
        | _=>False)
      | _=>False),pre.on b1,h1,fun ds st2 h2 φ2 H2 zs b2 dz=>?_⟩
    k_dat 0"r35"
    · exact h2.elim
    rotate_left
    · exact h2.elim
    · have h2:(match st2[n]? with
        | some (.rw xs)=>xs.length<sizeLine∧P .non (st2.set n (.rw (xs++[d])))
        | _=>False):=h2
      split at h2
      · rename_i xs ex
        obtain⟨y,rfl,dy⟩:=dz.one
        obtain⟨vs,hv,dl⟩:=b2.1.rw n xs ex
        have dx2:=dx.evo b2.2
        have bb:Bhd X.K φ2 st2 H2 φ2 (st2.set n (.rw (xs++[d]))) (upd H2 (φ2 n) (.lst (vs++[y]))):=⟨b2.1.qTA ex (dl.append (.cons dy .nil)),qGJ hv⟩
        exact⟨φ2 n,vs,y,dx2.lst.2,rfl,hv,by rw [← dl.length];exact h2.1,hq _ _ h2.2 φ2 _ _ (b1.trans (b2.trans bb)) D.qH5⟩
      · exact h2.elim
  | _=>exact h1.elim
end
end L3
namespace L3
open PySem PySem.Spec PyProof.Rows L2
def qMI (items:List Dt) (ok:Sto→Prop) (g:TGD) (tb:TSD):TSD:=fun E ρ st=>∃ Inv:Nat→Rho→Sto→Prop,Inv 0 ρ st∧(∀ i ρ' st',i≤items.length→Inv i ρ' st'→ok st') ∧
  (∀ (i:Nat) d ρ' st',items[i]? = some d→Inv i ρ' st'→g d ρ' st' fun ρ2 st2=>tb { E with nx:=Inv (i+1),ct:=Inv (i+1),bk:=E.nx } ρ2 st2)∧∀ ρ' st',Inv items.length ρ' st'→E.nx ρ' st'
def qGu (K:W.Frag) (φ1:Nat→Addr) (st1:Sto) (H1:Hp) (J:It) (items:List Dt) (ok:Sto→Prop):Prop :=
  ∀ (i:Nat) φ' st' H',Bhd K φ1 st1 H1 φ' st' H'→ok st'→i≤items.length→(i=items.length→J.stop i H') ∧
    (∀ d,items[i]? = some d→J.go i H'∧∀ y H2,J.yld i H' y H2→Bhd K φ' st' H' φ' st' H2∧D K φ' st'.length H2 d y)
section
variable {K:W.Frag} {φ1:Nat→Addr} {st1:Sto} {H1:Hp} {ρ1:Rho} {σ1:L2.St} {J:It} {items:List Dt} {ok:Sto→Prop} {g:TGD} {tb:TSD}
theorem qQb {E:qA0} {E':Ends} (pre:Pre K φ1 st1 H1 ρ1 σ1) (hJ:qGu K φ1 st1 H1 J items ok) (hf:qMI items ok g tb E ρ1 st1)
    (n:∀ ρ' st',E.nx ρ' st'→∀ φ' H' σ',Bhd K φ1 st1 H1 φ' st' H'→DR K φ' st'.length H' ρ' σ'→E'.nx σ' H')
    (r:∀ d st',E.rt d st'→∀ φ' H' v,Bhd K φ1 st1 H1 φ' st' H'→D K φ' st'.length H' d v→E'.rt v H') :
    ∃ W:Nat→Nat→L2.St→Hp→Prop,(∃ m,W 0 m σ1 H1)∧∀ i m σ H,W i m σ H →
      (J.stop i H∧E'.nx σ H)∨(J.go i H∧∃ N:L2.St→Hp→Prop,(∀ σ' H',N σ' H'→∃ m',m'<m∧W (i+1) m' σ' H')∧∀ x H',J.yld i H x H'→qIO K g x σ H' fun σ2 H2=>qKD K tb { E' with nx:=N,ct:=N,bk:=E'.nx } σ2 H2):=by
  obtain⟨Inv,h0,hok,step,fin⟩:=hf
  refine⟨fun i m σ H=>m=items.length - i∧i≤items.length∧∃ φ' st' ρ',Pre K φ' st' H ρ' σ∧Bhd K φ1 st1 H1 φ' st' H∧Inv i ρ' st',⟨items.length,by simp,Nat.zero_le _,φ1,st1,ρ1,pre,.refl pre.1,h0⟩,?_⟩
  rintro i m σ H ⟨rfl,hi,φ',st',ρ',pre',bh,hI⟩
  obtain⟨js,jg⟩:=hJ i φ' st' H bh (hok i ρ' st' hi hI) hi
  by_cases hlt:i<items.length
  · have ed:items[i]? = some items[i]:=by simp [hlt]
    obtain⟨go,yl⟩:=jg _ ed
    refine .inr ⟨go,fun σ3 H3=>∃ φ3 st3 ρ3,Pre K φ3 st3 H3 ρ3 σ3∧Bhd K φ1 st1 H1 φ3 st3 H3∧Inv (i+1) ρ3 st3,fun σ3 H3 h3=>⟨items.length - (i+1),by lia,rfl,hlt,h3⟩,fun y H2 hy=>?_⟩
    obtain⟨b2,dy⟩:=yl y H2 hy
    refine⟨φ',st',ρ',items[i],_,pre'.on b2,dy,step i _ ρ' st' ed hI,fun ρ3 st3 h3 φ3 H3 σ3 b3 d3=>?_⟩
    have b13:=bh.trans (b2.trans b3)
    refine⟨φ3,st3,ρ3,_,⟨b3.1,d3⟩,h3,fun ρ4 st4 h4 φ4 H4 σ4 b4 d4=>⟨φ4,st4,ρ4,⟨b4.1,d4⟩,b13.trans b4,h4⟩,fun ρ4 st4 h4 φ4 H4 σ4 b4 d4=>n ρ4 st4 h4 φ4 H4 σ4 (b13.trans b4) d4,
      fun ρ4 st4 h4 φ4 H4 σ4 b4 d4=>⟨φ4,st4,ρ4,⟨b4.1,d4⟩,b13.trans b4,h4⟩,fun d st4 h4 φ4 H4 v b4 d4=>r d st4 h4 φ4 H4 v (b13.trans b4) d4⟩
  · have e:i=items.length:=by lia
    subst e
    exact .inl ⟨js rfl,n ρ' st' (fin ρ' st' hI) φ' H σ bh pre'.2⟩
end
noncomputable abbrev TID:=Rho→Sto→(List Dt→(Sto→Prop)→Sto→Prop)→Prop
noncomputable def qOv (K:W.Frag) (t:TID):TI:=fun σ H R=>∃ φ st ρ P,Pre K φ st H ρ σ∧t ρ st P∧∀ items ok st',P items ok st'→∀ φ' H' J,Bhd K φ st H φ' st' H'→qGu K φ' st' H' J items ok→R J H'
def DI (X:Cx) (tg it:Expr) (t:TID):Prop:=PI X tg it (qOv X.K t)
def qD2 (ti:TID) (g:TGD) (tb:TSD):TSD:=fun E ρ st=>ti ρ st fun items ok st1=>qMI items ok g tb E ρ st1
section
variable {X:Cx} {tg iter:Expr} {body:List Stmt} {pos:Pos} {ti:TID} {g:TGD} {tb:TSD}
theorem qSX (hp:PassesOwn (model X.prog X.w) X.A X.env X.xe) (hc:X.calm=true) (hi:DI X tg iter ti) (hg:DG X tg g) (hb:DSs X body tb) (hs:∀ x,foldedSetIterable iter X.env x=pure x:=by intro _;rfl):DS X (.For tg iter body [] pos) (qD2 ti g tb) :=
  (qTR hp hc hi hg hb hs).imp fun E σ H h=>by
    k_dat 0"r14"
    k_dat 0"r51"
    exact qQb (pre.on b1) hJ h1 (fun ρ2 st2 h2 φ2 H2 σ2 b2 d2=>n ρ2 st2 h2 φ2 H2 σ2 (b1.trans b2) d2) fun d st2 h2 φ2 H2 v b2 d2=>r d st2 h2 φ2 H2 v (b1.trans b2) d2
def qCN (te:TD):TID:=fun ρ st P=>te ρ st fun x st1=>match qd st1 x with
  | some xs=>P xs (fun st'=>qd st' x=some xs) st1
  | none=>False
theorem qSg {te:TD} (he:DE X iter te):DI X tg iter (qCN te):=by
  intro pins s σ H R I h
  k_dat 0"r1"
  refine thn (he pins s σ H _ I ⟨φ,st,ρ,_,pre,ht,fun x st1 h1 φ1 H1 v b1 dx=>(show ∃ φ1 st1 x,Bhd X.K φ st H φ1 st1 H1∧D X.K φ1 st1.length H1 x v∧(match qd st1 x with
    | some xs=>P xs (fun st'=>qd st' x=some xs) st1
    | none=>False) from⟨φ1,st1,x,b1,dx,h1⟩)⟩) fun u s1 ⟨v,H1,I1,ru,φ1,st1,x,b1,dx,h1⟩=>?_
  split at h1
  · rename_i xs ex
    obtain⟨a,vs,e1,hs,dl⟩:=qDU b1.1 dx ex
    subst e1
    cases ru
    rcases hs with ⟨hs,n,exn⟩ | ⟨hs,_⟩
    · obtain⟨its,rv,pl,hz⟩:=I1.list hs
      refine wpAny_pyIter_list pl.isList ?_
      refine⟨s1.heap.objs.size,[s1.heap.objs.size],_,_,H1,rfl,I1.kept (t':=s1.toks) fun b o e=>Heap.get?_push_of_some _ e,qMU a _,⟨_,Heap.get?_push_size _ rfl,rfl,rfl⟩,fun b hb=>?_,hq xs _ st1 h1 φ1 H1 _ b1 ?_⟩
      · have e:b=s1.heap.objs.size:=by simpa using hb
        subst e
        k_dat 0"r43"
      · intro i φ' st' H' bh hok hi
        obtain⟨a',ws,e2,hs',dl'⟩:=qDU bh.1 (dx.evo bh.2) hok
        cases e2
        have hsl:SqL X.K H' a ws:=by
          rcases hs' with z | ⟨_,z⟩
          · exact z.1
          · rw [exn] at z;cases z
        have hlen:=dl'.length
        refine⟨fun e=>⟨ws,hsl,by lia⟩,fun d ed=>?_⟩
        obtain⟨y,ey,dy⟩:=dl'.get ed
        refine⟨⟨ws,y,hsl,ey⟩,fun y' H2 hy=>?_⟩
        obtain⟨rfl,hy⟩:=hy
        have:=hy ws hsl
        rw [ey] at this
        cases this
        exact⟨.refl bh.1,dy⟩
    · obtain⟨its,rv,pl,hz⟩:=I1.tuple hs
      refine wpAny_pyIter_tuple (show s1.heap.IsTuple a its.toArray from pl) ?_
      refine⟨s1.heap.objs.size,[s1.heap.objs.size],_,_,H1,rfl,I1.kept (t':=s1.toks) fun b o e=>Heap.get?_push_of_some _ e,qKr a _,⟨_,Heap.get?_push_size _ rfl,rfl,rfl⟩,fun b hb=>?_,hq xs _ st1 h1 φ1 H1 _ b1 ?_⟩
      · have e:b=s1.heap.objs.size:=by simpa using hb
        subst e
        k_dat 0"r43"
      · intro i φ' st' H' bh hok hi
        have hsl:SqT X.K H' a vs:=bh.2.tup a vs hs
        have dl':=dl.evo bh.2
        have hlen:=dl'.length
        refine⟨fun e=>⟨vs,hsl,by lia⟩,fun d ed=>?_⟩
        obtain⟨y,ey,dy⟩:=dl'.get ed
        refine⟨⟨vs,y,hsl,ey⟩,fun y' H2 hy=>?_⟩
        obtain⟨rfl,hy⟩:=hy
        have:=hy vs hsl
        rw [ey] at this
        cases this
        exact⟨.refl bh.1,dy⟩
  · exact h1.elim
noncomputable def qCr (lo:Int) (n:Nat):List Dt:=(List.range n).map fun k=>.int (lo+(k:Nat))
theorem qBS {lo:Int} {n i:Nat} {d:Dt} (h:(qCr lo n)[i]? = some d):i<n∧d = .int (lo+(i:Nat)):=by
  unfold qCr at h
  rw [List.getElem?_map] at h
  cases q:(List.range n)[i]? with
  | none=>rw [q] at h;cases h
  | some k =>
    rw [q] at h
    have:=List.getElem?_eq_some_iff.mp q
    obtain⟨h1,h2⟩:=this
    rw [List.getElem_range] at h2
    subst h2
    rw [List.length_range] at h1
    exact⟨h1,(Option.some.inj h).symm⟩
theorem qBT {lo:Int} {n:Nat}:(qCr lo n).length=n:=by unfold qCr;simp
theorem qIk {K:W.Frag} {φ:Nat→Addr} {st:Sto} {H:Hp} {lo:Int} {n:Nat}:qGu K φ st H (Itr lo n) (qCr lo n) (fun _=>True):=fun i φ' st' H' bh _ hi=>by
  rw [qBT] at hi
  refine⟨fun e=>by rw [qBT] at e;exact Nat.le_of_eq e.symm,fun d ed=>?_⟩
  obtain⟨h1,rfl⟩:=qBS ed
  refine⟨h1,fun y H2 hy=>?_⟩
  obtain⟨rfl,rfl⟩:=hy
  exact⟨.refl bh.1,D.mkInt⟩
def qBN (ta:TD):TID:=fun ρ st P=>ta ρ st fun x st1=>match x with
  | .int j=>-(2 ^ 62)≤j∧j<2 ^ 62∧P (qCr 0 j.toNat) (fun _=>True) st1
  | _=>False
theorem qMp {a:Expr} {ta:TD} {p:Pos} (hm:X.mg "range" = none) (ha:DE X a ta) (hg:Gl X "range":=by rfl) (hs:starEach [a] X.env=[(false,eval a X.env)]:=by rfl):DI X tg (.Call (.Name "range" p) [a] [] pos) (qBN ta):=by
  intro pins s σ H R I h
  refine qMo hg hm (qEx ha qGw hs) hs pins s σ H R I ?_
  k_dat 0"r1"
  refine⟨φ,st,ρ,(fun ds st1=>match ds with
    | [x]=>(match x with
      | .int j=>-(2 ^ 62)≤j∧j<2 ^ 62∧P (qCr 0 j.toNat) (fun _=>True) st1
      | _=>False)
    | _=>False),pre,?_,fun ds st1 h1 φ1 H1 vs b1 dl=>?_⟩
  · exact ht
  · k_dat 0"r35"
    · exact h1.elim
    rotate_left
    · exact h1.elim
    · cases d<;>first
        | exact h1.elim
        | skip
      rename_i j
      obtain⟨v,rfl,dv⟩:=dl.one
      obtain⟨h2,h3,h4⟩:=h1
      exact⟨j,by rw [dv.int],h2,h3,hq _ _ st1 h4 φ1 H1 _ b1 qIk⟩
def qFi (items:List Dt) (ok:Sto→Prop) (tc:TBD) (te:TD) (cρ:Rho) (st:Sto) (Fin:List Dt→Sto→Prop):Prop:=∃ Inv:Nat→List Dt→Sto→Prop,Inv 0 [] st∧(∀ i ys st',i≤items.length→Inv i ys st'→ok st') ∧
  (∀ (i:Nat) d ys st',items[i]? = some d→Inv i ys st'→ys.length<sizeLine∧tc (some d::cρ) st' fun k st1=>if k=true then te (some d::cρ) st1 fun y st2=>Inv (i+1) (ys++[y]) st2 else Inv (i+1) ys st1) ∧
  ∀ ys st',Inv items.length ys st'→Fin ys st'
noncomputable def qJT (caps:List (Nat×Str)) (ρ:Rho):Rho:=caps.map fun p=>(ρ[p.1]?).join
theorem qOY {K:W.Frag} {φ:Nat→Addr} {N:Nat} {H:Hp} {ρ:Rho} {σ:L2.St} (h:DR K φ N H ρ σ) (caps:List (Nat×Str)):DR K φ N H (qJT caps ρ) (qIn caps σ):=by
  refine⟨by unfold qJT qIn;simp,fun i d e=>?_⟩
  unfold qJT at e
  rw [List.getElem?_map] at e
  unfold qIn
  rw [List.getElem?_map]
  cases q:caps[i]? with
  | none=>rw [q] at e;cases e
  | some p =>
    rw [q] at e
    have e':(ρ[p.1]?).join=some d:=Option.some.inj e
    have e2:ρ[p.1]? = some (some d):=by
      cases q:ρ[p.1]? with
      | none=>rw [q] at e';cases e'
      | some o=>rw [q] at e';exact congrArg some e'
    obtain⟨v,ev,dv⟩:=h.2 p.1 d e2
    exact⟨v,by show some ((σ[p.1]?).join)=_;rw [ev];rfl,dv⟩
theorem qQT {K:W.Frag} {φ:Nat→Addr} {N:Nat} {H:Hp} {ρ:Rho} {σ:L2.St} {o:Option V} {d:Dt} {v:V} (h:DR K φ N H ρ σ) (hd:D K φ N H d v):DR K φ N H (some d::ρ) (some v::σ):=by
  refine⟨by rw [List.length_cons,List.length_cons,h.1],fun i e q=>?_⟩
  cases i with
  | zero=>simp at q;subst q;exact⟨v,rfl,hd⟩
  | succ i=>exact h.2 i e (by simpa using q)
def DIf (X:Cx) (ifs:List Expr) (t:TBD):Prop:=PIf X ifs (liftT X.K t)
theorem qQX:DIf X [] (fun _ st P=>P true st):=fun pins s σ H Q I h=>by
  k_dat 0"r1"
  exact qQ3 pins s σ H Q I (hq true st ht φ H (.refl pre.1))
theorem qQg {c:Expr} {t:TBD} (h:DT X c t):DIf X [c] t:=qQP h
theorem qOX {K:W.Frag} {φ1:Nat→Addr} {st1:Sto} {H1:Hp} {cρ:Rho} {cσ:L2.St} {J:It} {items:List Dt} {ok:Sto→Prop} {tc:TBD} {te:TD} {Fin:List Dt→Sto→Prop} {Fin':List V→Hp→Prop}
    (R:Rep K φ1 st1 H1) (dr:DR K φ1 st1.length H1 cρ cσ) (hJ:qGu K φ1 st1 H1 J items ok) (hc:qFi items ok tc te cρ st1 Fin)
    (hF:∀ ys st' φ' H' vs,Fin ys st'→Bhd K φ1 st1 H1 φ' st' H'→DL K φ' st'.length H' ys vs→Fin' vs H') :
    qME J (qG6 0) (liftT K tc) (qAz K te) (List.replicate 1 none++cσ) H1 Fin':=by
  obtain⟨Inv,h0,hok,step,fin⟩:=hc
  refine⟨fun i m σ vs H=>m=items.length - i∧i≤items.length∧∃ φ' st' ys o,σ=o::cσ∧Bhd K φ1 st1 H1 φ' st' H∧DL K φ' st'.length H ys vs∧Inv i ys st',
    ⟨items.length,by simp,Nat.zero_le _,φ1,st1,[],none,rfl,.refl R,.nil,h0⟩,?_⟩
  rintro i m σ vs H ⟨rfl,hi,φ',st',ys,o,rfl,bh,dl,hI⟩
  obtain⟨js,jg⟩:=hJ i φ' st' H bh (hok i ys st' hi hI) hi
  by_cases hlt:i<items.length
  · have ed:items[i]? = some items[i]:=by simp [hlt]
    obtain⟨go,yl⟩:=jg _ ed
    obtain⟨hz,hstep⟩:=step i _ ys st' ed hI
    refine .inr ⟨go,by rw [← dl.length];exact hz,fun y H2 hy=>?_⟩
    obtain⟨b2,dy⟩:=yl y H2 hy
    have b12:=bh.trans b2
    have pre2:Pre K φ' st' H2 (some items[i]::cρ) (some y::cσ):=⟨b2.1,qQT (o:=none) (dr.evo b12.2) dy⟩
    show liftT K tc (some y::cσ) H2 _
    refine⟨φ',st',_,_,pre2,hstep,fun k st3 h3 φ3 H3 b3=>?_⟩
    cases k with
    | false =>
      rw [if_neg Bool.false_ne_true] at h3 ⊢
      exact⟨items.length - (i+1),by lia,rfl,hlt,φ3,st3,ys,some y,rfl,b12.trans b3,dl.evo (b2.2.trans b3.2),h3⟩
    | true =>
      rw [if_pos rfl] at h3 ⊢
      refine⟨φ3,st3,_,_,pre2.on b3,h3,fun z st4 h4 φ4 H4 w b4 dz=>?_⟩
      exact⟨items.length - (i+1),by lia,rfl,hlt,φ4,st4,ys++[z],some y,rfl,b12.trans (b3.trans b4),(dl.evo (b2.2.trans (b3.2.trans b4.2))).append (.cons dz .nil),h4⟩
  · have e:i=items.length:=by lia
    subst e
    exact .inl ⟨js rfl,hF ys st' φ' H vs (fin ys st' hI) bh dl⟩
def qBx (ti:TID) (tc:TBD) (te:TD) (caps:List (Nat×Str)):TD:=fun ρ st P=>ti ρ st fun items ok st1=>qFi items ok tc te (qJT caps ρ) st1 fun ys st2=>P (.lst st2.length) (st2++[.rw ys])
theorem qH2 {K:W.Frag} {tc:TBD} {te:TD} {caps:List (Nat×Str)} {σ:L2.St} {H:Hp} {Q:VK} (h:qAz K (qBx ti tc te caps) σ H Q):qL1 (qOv K ti) (qG6 0) (liftT K tc) (qAz K te) 1 caps σ H Q:=by
  k_dat 0"r1"
  k_dat 0"r51"
  refine qOX b1.1 (qOY (pre.on b1).2 caps) hJ h1 fun ys st2 φ2 H2 vs hF b2 dl p hp=>?_
  exact hq _ _ hF _ _ _ (b1.trans (b2.trans (qCR b2.1 hp dl))) qEZ
variable {elt:Expr} {ifs:List Expr} {sc:Scope} {x:Str} {px:Pos} {tc:TBD} {te:TD}
theorem qJS (caps:List (Nat×Str)) (hc:X.calm=true) (S:qAr X.env.scope X.N caps sc) (hx:sc.names.lookup x=some .local) (hnd:([x]++caps.map (·.2)).Nodup) (hi:DI X (.Name x px) iter ti)
    (hif:∀ C s H fp,DIf (qAi X [x] caps sc C s H fp) ifs tc) (he:∀ C s H fp,DE (qAi X [x] caps sc C s H fp) elt te)
    (hs:∀ x,foldedSetIterable iter X.env x=pure x:=by intro _;rfl):DE X (.ListComp elt [⟨.Name x px,iter,ifs,0⟩] sc pos) (qBx ti tc te caps) :=
  PE.imp (qLn (g:=qG6 0) (tc:=liftT X.K tc) (te:=qAz X.K te) [x] caps hc S hi (fun C s H fp=>qJF hnd rfl (.inl (lookup_relabel_local hx)) (.inr (lookup_relabel_local hx))) hif he hs) fun σ H Q h=>qH2 h
theorem qId (i:Nat) {y:Str} {py spos:Pos} (caps:List (Nat×Str)) (hc:X.calm=true) (hN:X.N.Nodup) (S:qAr X.env.scope X.N caps sc) (hx:sc.names.lookup x=some .local) (hnd:([x]++caps.map (·.2)).Nodup) (hi:DI X (.Name x px) iter ti)
    (hif:∀ C s H fp,DIf (qAi X [x] caps sc C s H fp) ifs tc) (he:∀ C s H fp,DE (qAi X [x] caps sc C s H fp) elt te)
    (hy:X.N[i]? = some y:=by rfl) (hyl:X.env.scope.names.lookup y=some .local:=by rfl)
    (hsw:swapsWith (.ListComp elt [⟨.Name x px,iter,ifs,0⟩] sc pos) (some (.Name y py)) spos.line X.env=pure true:=by rfl)
    (hs:∀ x,foldedSetIterable iter X.env x=pure x:=by intro _;rfl):DS X (.Assign [.Name y py] (.ListComp elt [⟨.Name x px,iter,ifs,0⟩] sc pos) spos) (qR (qBx ti tc te caps) (qP i)) :=
  PS.imp (qRA (g:=qG6 0) (tc:=liftT X.K tc) (te:=qAz X.K te) [x] caps hc hN hy hyl S hi (fun C s H fp=>qJF hnd rfl (.inl (lookup_relabel_local hx)) (.inr (lookup_relabel_local hx))) hif he hsw hs) fun E σ H h=>by
    k_dat 0"r14"
    refine qH2 (ti:=ti) (tc:=tc) (te:=te) (caps:=caps) ⟨φ,st,ρ,_,pre,ht,fun d st1 h1 φ1 H1 v b1 dx=>?_⟩
    exact n _ st1 h1 φ1 H1 _ b1 ((pre.on b1).2.set dx i)
noncomputable def qU (N:List Str) (ds:List Dt):Rho:=ds.map some++List.replicate (N.length - ds.length) none
theorem qKB {K:W.Frag} {φ:Nat→Addr} {n:Nat} {H:Hp} {ds:List Dt} {vs:List V} (h:DL K φ n H ds vs) (N:List Str):DR K φ n H (qU N ds) (L2.start N vs):=by
  refine⟨by unfold qU L2.start;simp [h.length],fun i d e=>?_⟩
  unfold qU at e
  unfold L2.start
  by_cases hi:i<ds.length
  · rw [List.getElem?_append_left (by simpa using hi),List.getElem?_map] at e
    cases q:ds[i]? with
    | none=>rw [q] at e;cases e
    | some d' =>
      rw [q] at e
      have:d'=d:=by
        have e':some (some d')=some (some d):=e
        injection e' with e1;injection e1
      subst this
      obtain⟨v,ev,dv⟩:=h.get q
      refine⟨v,?_,dv⟩
      rw [List.getElem?_append_left (by simp;rw [← h.length];exact hi),List.getElem?_map,ev]
      rfl
  · rw [List.getElem?_append_right (by simpa using Nat.not_lt.mp hi),List.getElem?_replicate] at e
    split at e<;>cases e
theorem qSm {P:Program} {w:World} {K:W.Frag} {mg:Str→Option Value} {base:Heap} {x qual:Str} {stt:Stmt} {f:Addr} {fd:FuncData} {N ps:List Str} {k:Nat} {sp:RDL} (F:Fun K x qual stt f fd) (S:qQ N ps (qK stt))
    (len:∀ ds st Pd,sp ds st Pd→ds.length=ps.length)
    (hbody:∀ (cdv:Value) (A:Around) (outer:List Env) (s:Shared) (H:Hp) (E:XK),qAx k (A.deeper (envOfC qual (qK stt) s.heap.objs.size f cdv)) →
      ∃ t,DSs (qIx CX0 P w K mg base N qual (qK stt) f cdv A outer s H E).nox (qAZ stt) t∧∀ ds st Pd,sp ds st Pd→t { nx:=fun _ st'=>Pd .non st',rt:=Pd } (qU N ds) st):qAJ P w K mg base CX0 (k+1) f fd ps (qS K sp):=by
  refine F.ok S (fun vs H Q E h=>?_) fun cdv A outer s H vs Q E hr h=>?_
  · k_dat 0"r36"
    rw [← dl.length]
    exact len ds st Pd hs
  · obtain⟨t,ht,hb⟩:=hbody cdv A outer s H E hr
    k_dat 0"r36"
    k_dat 0"r64"
end
end L3
namespace L3
open PySem PySem.Spec PyProof.Rows L2
structure qc (P:Program) (w:World) (K:W.Frag) (mg:Str→Option Value) (base:Heap) (x:Str) (k:Nat) (sp:RDL):Prop where
  ex:∃ f fd ps,qAJ P w K mg base CX0 k f fd ps (qS K sp)∧mg x=some (.ref f)∧W.keepIn K (.ref f)=true∧Binds K fd ps []
section
variable {X:Cx} {e:Expr} {es:List Expr} {t:TAD} {pos p:Pos} {x:Str}
theorem qO7 {k:Nat} {sp:RDL} (F:qc X.prog X.w X.K X.mg X.base x k sp) (hr:qAx k X.A) (ha:DA X (e::es) t) (hg:Gl X x) (hdb:(x==("__debug__" : Str))=false) (he:starEach (e::es) X.env=(false,eval e X.env)::starEach es X.env)
    (hpl:(backTo pos (starEach es X.env)).any (·.1)=false):DE X (.Call (.Name x p) (e::es) [] pos) (qI sp t):=by
  obtain⟨f,fd,ps,h1,h2,h3,h4⟩:=F.ex
  exact qRI h1 hr h2 h3 h4 ha hg hdb he hpl
theorem qVc {A:Around} {k:Nat} (hr:qAx k A):A.units+16<cLine:=Nat.lt_of_le_of_lt (Nat.add_le_add_left (by decide:16≤64) _) hr.units
structure qAb (K:W.Frag) (mg:Str→Option Value) (x:Str) (d:Dt):Prop where
  ex:∃ v u,mg x=some u∧RelV v u∧∀ φ N H,D K φ N H d v
theorem qS7 {d:Dt} (h:qAb X.K X.mg x d) (hg:Gl X x) (hd:(x==("__debug__" : Str))=false):DE X (.Name x pos) (qD d):=by
  obtain⟨v,u,h1,h2,h3⟩:=h.ex
  exact qPs h1 h2 h3 hg hd
structure Hint (caps:List (Nat×Str)):Prop where
  ok:True
end
section
variable {X:Cx} {a b c:Expr} {ta tb tc:TD} {pos:Pos}
theorem qRr (ha:DE X a ta) (hb:DE X b tb):DE X (.BinOp a .Add b pos) (qE L3.qAT ta tb):=qIC qS5 ha hb
theorem qR9 (ha:DE X a ta) (hb:DE X b tb):DE X (.BinOp a .Sub b pos) (qE qC2 ta tb):=qIC qSP ha hb
theorem qSL (ha:DE X a ta) (hb:DE X b tb):DE X (.BinOp a .Mult b pos) (qE qBu ta tb):=qIC qTw ha hb
theorem qRw (ha:DE X a ta) (hb:DE X b tb):DE X (.BinOp a .FloorDiv b pos) (qE qAk ta tb):=qIC qSC ha hb
theorem qR3 (ha:DE X a ta) (hb:DE X b tb):DE X (.BinOp a .Mod b pos) (qE qAB ta tb):=qIC qTM ha hb
theorem qTQ (ha:DE X a ta) (hb:DE X b tb):DE X (.BinOp a .BitAnd b pos) (qE qCK ta tb):=qIC qTN ha hb
theorem qU0 (hu:X.A.units+16<cLine) (ha:DE X a ta) (hb:DE X b tb) (hm:behindInMarks .Eq b=false):DE X (.Compare a [.Eq] [b] pos) (qE (qZ false) ta tb):=qDh (qRP hu) ha hb hm
theorem qT1 (hu:X.A.units+16<cLine) (ha:DE X a ta) (hb:DE X b tb) (hm:behindInMarks .Eq b=false):DT X (.Compare a [.Eq] [b] pos) (qM (qE (qZ false) ta tb)):=qDp (qRP hu) ha hb hm
theorem qUY (hu:X.A.units+16<cLine) (ha:DE X a ta) (hb:DE X b tb) (hm:behindInMarks .NotEq b=false):DE X (.Compare a [.NotEq] [b] pos) (qE (qZ true) ta tb):=qDh (qRN hu) ha hb hm
theorem qTT (hu:X.A.units+16<cLine) (ha:DE X a ta) (hb:DE X b tb) (hm:behindInMarks .NotEq b=false):DT X (.Compare a [.NotEq] [b] pos) (qM (qE (qZ true) ta tb)):=qDp (qRN hu) ha hb hm
theorem qU9 (ha:DE X a ta) (hb:DE X b tb) (hm:behindInMarks .Lt b=false):DE X (.Compare a [.Lt] [b] pos) (qE (qAO fun i j=>decide (i<j)) ta tb):=qDh qRW ha hb hm
theorem qSM (ha:DE X a ta) (hb:DE X b tb) (hm:behindInMarks .Lt b=false):DT X (.Compare a [.Lt] [b] pos) (qM (qE (qAO fun i j=>decide (i<j)) ta tb)):=qDp qRW ha hb hm
theorem qU1 (ha:DE X a ta) (hb:DE X b tb) (hm:behindInMarks .LtE b=false):DE X (.Compare a [.LtE] [b] pos) (qE (qAO fun i j=>decide (i≤j)) ta tb):=qDh qRM ha hb hm
theorem qRy (ha:DE X a ta) (hb:DE X b tb) (hm:behindInMarks .LtE b=false):DT X (.Compare a [.LtE] [b] pos) (qM (qE (qAO fun i j=>decide (i≤j)) ta tb)):=qDp qRM ha hb hm
theorem qUP (ha:DE X a ta) (hb:DE X b tb) (hm:behindInMarks .Gt b=false):DE X (.Compare a [.Gt] [b] pos) (qE (qAO fun i j=>decide (j<i)) ta tb):=qDh qVH ha hb hm
theorem qUI (ha:DE X a ta) (hb:DE X b tb) (hm:behindInMarks .GtE b=false):DE X (.Compare a [.GtE] [b] pos) (qE (qAO fun i j=>decide (j≤i)) ta tb):=qDh qRU ha hb hm
theorem qSv (ha:DE X a ta) (hb:DE X b tb) (hm:behindInMarks .GtE b=false):DT X (.Compare a [.GtE] [b] pos) (qM (qE (qAO fun i j=>decide (j≤i)) ta tb)):=qDp qRU ha hb hm
theorem qST (ha:DE X a ta) (hb:DE X b tb) (hm:behindInMarks .In b=false):DT X (.Compare a [.In] [b] pos) (qM (qE (qCJ false) ta tb)):=qDp qVE ha hb hm
theorem qVB (ha:DE X a ta) (hb:DE X b tb) (hm:behindInMarks .Is b=false):DE X (.Compare a [.Is] [b] pos) (qE (qBV false) ta tb):=qDh qRY ha hb hm
theorem qTu (ha:DE X a ta) (hb:DE X b tb) (hm:behindInMarks .Is b=false):DT X (.Compare a [.Is] [b] pos) (qM (qE (qBV false) ta tb)):=qDp qRY ha hb hm
theorem qMr (ha:DE X a ta) (hb:DE X b tb) (hm:behindInMarks .IsNot b=false):DT X (.Compare a [.IsNot] [b] pos) (qM (qE (qBV true) ta tb)):=qDp qPP ha hb hm
theorem qPM (ha:DE X a ta) (hb:DE X b tb) (hc:DE X c tc) (hm:lastMarks [.LtE,.Lt] [b,c]=false):DE X (.Compare a [.LtE,.Lt] [b,c] pos) (qBD (fun i j=>decide (i≤j)) (fun i j=>decide (i<j)) ta tb tc):=qNi qOO qNf ha hb hc hm
theorem qM6 (ha:DE X a ta) (hb:DE X b tb) (hc:DE X c tc) (hm:lastMarks [.LtE,.Lt] [b,c]=false):DT X (.Compare a [.LtE,.Lt] [b,c] pos) (qM (qBD (fun i j=>decide (i≤j)) (fun i j=>decide (i<j)) ta tb tc)):=qOG qOO qNf ha hb hc hm
theorem qSd {e:Expr} {es:List Expr} {t:TAD} {p:Pos} (hm:X.mg "len" = none) (ha:DA X (e::es) t) (hg:Gl X "len") (he:starEach (e::es) X.env=(false,eval e X.env)::starEach es X.env) (hpl:(backTo pos (starEach es X.env)).any (·.1)=false):DE X (.Call (.Name "len" p) (e::es) [] pos) (qI qBE t):=qC3 qTU hm PySem.boot_len ha hg (by decide) (by decide) he hpl
theorem qM8 {e:Expr} {es:List Expr} {t:TAD} {p:Pos} (hm:X.mg "isinstance" = none) (ha:DA X (e::es) t) (hg:Gl X "isinstance") (he:starEach (e::es) X.env=(false,eval e X.env)::starEach es X.env) (hpl:(backTo pos (starEach es X.env)).any (·.1)=false):DE X (.Call (.Name "isinstance" p) (e::es) [] pos) (qI qAs t):=qC3 qMm hm boot_isinstance ha hg (by decide) (by decide) he hpl
theorem qPA {e:Expr} {es:List Expr} {t:TAD} {p:Pos} (hm:X.mg "tuple" = none) (ha:DA X (e::es) t) (hg:Gl X "tuple") (he:starEach (e::es) X.env=(false,eval e X.env)::starEach es X.env) (hpl:(backTo pos (starEach es X.env)).any (·.1)=false):DE X (.Call (.Name "tuple" p) (e::es) [] pos) (qI qAa t):=qFH qNn hm PyProof.Rows.boot_tuple ha hg (by decide) (by decide) he hpl
theorem qP5 {e:Expr} {es:List Expr} {t:TAD} {p:Pos} (hm:X.mg "list" = none) (ha:DA X (e::es) t) (hg:Gl X "list") (he:starEach (e::es) X.env=(false,eval e X.env)::starEach es X.env) (hpl:(backTo pos (starEach es X.env)).any (·.1)=false):DE X (.Call (.Name "list" p) (e::es) [] pos) (qI qEy t):=qFH qPv hm PyProof.Rows.boot_list ha hg (by decide) (by decide) he hpl
theorem qMv (hm:X.mg "bool" = none) (hg:Gl X "bool"):DE X (.Name "bool" pos) (qD (.ty "bool")):=qRV hm PyProof.Rows.boot_bool hg
theorem qLc (hm:X.mg "tuple" = none) (hg:Gl X "tuple"):DE X (.Name "tuple" pos) (qD (.ty "tuple")):=qRV hm PyProof.Rows.boot_tuple hg
end
noncomputable def qGN (so:Scope) (N:List Str) (caps:List (Nat×Str)) (sc:Scope):Bool :=
  decide (sc.kind = .function)&&(sc.names.all fun y=>decide (y.2≠.cell))&&(sc.names.all fun y=>decide (y.2 = .local→sc.names.lookup y.1=some .local))&&(sc.names.all fun y=>decide (y.2 = .free→so.names.lookup y.1=some .cell)) &&
    (caps.all fun p=>decide (N[p.1]? = some p.2∧so.names.lookup p.2=some .cell∧sc.names.lookup p.2=some .free))
theorem qKd {so:Scope} {N:List Str} {caps:List (Nat×Str)} {sc:Scope} (h:qGN so N caps sc=true):qAr so N caps sc:=by
  unfold qGN at h
  simp only [Bool.and_eq_true] at h
  obtain⟨⟨⟨⟨h1,h2⟩,h3⟩,h4⟩,h5⟩:=h
  exact⟨of_decide_eq_true h1,fun y hy=>of_decide_eq_true (List.all_eq_true.mp h2 y hy),fun y hy=>of_decide_eq_true (List.all_eq_true.mp h3 y hy),fun y hy=>of_decide_eq_true (List.all_eq_true.mp h4 y hy),fun y hy=>of_decide_eq_true (List.all_eq_true.mp h5 y hy)⟩
theorem qIh {so:Scope} {N:List Str} {caps:List (Nat×Str)} {sc:Scope} (_:Hint caps) (h:qGN so N caps sc=true):qAr so N caps sc:=qKd h
def qJh:RDL:=fun ds st P=>∃ ns:List Int,ds=[.lst 0]∧st=[.ro (ns.map .int)]∧ns.length≤63∧∀ st',P (.bl true) st'
theorem DL.ints {K:W.Frag} {φ:Nat→Addr} {N:Nat} {H:Hp}:∀ ns:List Int,DL K φ N H (ns.map .int) (ns.map V.int)
  | []=>.nil
  | n::ns=>.cons D.mkInt (DL.ints ns)
theorem qPI {l:W.OpenLaw} {q:Program} {loose:List Str} {XP:(Str→Option Value)→Heap→Prop} {YP:World→Heap→Prop} {d:DefRec} {K:Params→W.Frag} (k:Nat) (hn:l.most=some 63) (hdf:d.params.defaults=[]) (hr:qAx k callerA)
    (hY:∀ (w:World) (h:Heap),YP w h→(K w.params).In h)
    (F:∀ (w:World) (mg:Str→Option Value) (fa:Addr) (h:Heap),(K w.params).In h→h.Ns mainGlobals mg→mg d.name=some (.ref fa) →
      ∃ fd:FuncData,(∀ (s:Shared) (u:Value),BindsTo s fd ⟨[u],[]⟩ [("script",u)])∧∀ base:Heap,(K w.params).In base→base.Ns mainGlobals mg→qAJ l.prog w (K w.params) mg base CX0 k fa fd ["script"] (qS (K w.params) qJh)) :
    W.WalkO q loose XP YP l.row.toRowW d [] (fun f vs=>PySem.call f vs):=by
  refine L2.qRD (n:=63) (k:=k) (x:= "script") (CX:=fun _=>CX0) (sp:=fun w=>qS (K w.params) qJh) hn (by decide) hdf hr hY F (fun w H a ns hl hO hS=>?_) fun _ _ _ _ _ z=>z
  have hR:SqR (K w.params) H a (ns.map V.int):=by
    rcases hS with (h | h) | h
    · rcases hO a with z | ⟨o,xs,z⟩
      · rw [h] at z;cases z
      · rw [h] at z;cases z
    · exact .inl h
    · exact .inr h
  refine⟨fun _=>a,[.ro (ns.map .int)],[.lst 0],fun d st'=>d = .bl true,⟨fun i j x y e _ hw=>?_,fun i x e=>?_⟩,.cons (D.qRd (by show 0<1;decide) ⟨_,hR.sq⟩) .nil,⟨ns,rfl,rfl,hl,fun _=>rfl⟩,fun d st' hd φ' H' u b du=>by rw [hd] at du;exact du.bl⟩
  · cases i with
    | zero=>simp at e;subst e;cases hw
    | succ i=>simp at e
  · cases i with
    | zero =>
      simp at e
      subst e
      exact⟨ns.map V.int,hR,DL.ints ns⟩
    | succ i=>simp at e
end L3
namespace L3
open PySem PySem.Spec PyProof.Rows L2
noncomputable def qDI:Nat→List Dt→List Dt
  | _,[]=>[]
  | n,d::ds=>.tup [.int (n:Nat),d]::qDI (n+1) ds
theorem qHZ:∀ {ds:List Dt} {n i:Nat} {x:Dt},(qDI n ds)[i]? = some x→∃ d,ds[i]? = some d∧x = .tup [.int ((n+i:Nat)),d]
  | [],_,_,_,h=>by simp [qDI] at h
  | d::ds,n,0,x,h=>by
    simp [qDI] at h
    exact⟨d,rfl,by rw [← h];rfl⟩
  | d::ds,n,i+1,x,h=>by
    obtain⟨e,h1,h2⟩:=qHZ (ds:=ds) (n:=n+1) (i:=i) (x:=x) (by simpa [qDI] using h)
    exact⟨e,by simpa using h1,by rw [h2,show n+1+i=n+(i+1) by omega]⟩
theorem qDo:∀ {ds:List Dt} {n:Nat},(qDI n ds).length=ds.length
  | [],_=>rfl
  | d::ds,n=>by simp [qDI,qDo]
def qUh (te:TD):TID:=fun ρ st P=>te ρ st fun x st1=>match x with
  | .lst n=>(match st1[n]? with
    | some o=>P (qDI 0 o.items) (fun st'=>(st'[n]?).map SO.items=some o.items) st1
    | none=>False)
  | _=>False
section
variable {X:Cx} {a:Expr} {elts:List Expr} {x1:Nat} {tpos pos p:Pos} {te:TD}
structure qN5 (K:W.Frag) (mg:Str→Option Value) (x:Str) (ds:List Dt):Prop where
  ex:∃ a o vs its n,mg x=some (.ref a)∧K.lookup a=some o∧o.cls = .type "tuple" ∧ o.dict=none∧o.data = .seq its n∧its.size≤sizeLine∧Vals vs its.toList∧∀ φ N H,DL K φ N H ds vs
theorem qN5.con {K:W.Frag} {mg:Str→Option Value} {x:Str} {ds:List Dt} (h:qN5 K mg x ds):qAb K mg x (.tup ds):=by
  obtain⟨a,o,vs,its,n,h1,h2,h3,h4,h5,h6,h7,h8⟩:=h.ex
  exact⟨.ref a,_,h1,rfl,fun φ N H=>.qDK (.inr ⟨o,its,n,h2,⟨h3,h4⟩,h5,h6,h7⟩) (h8 φ N H)⟩
def qCZ (ds:List Dt) (te:TD):TD:=fun ρ st P=>te ρ st fun y st1=>okD 0 y=true∧ds.all (okD 0)=true∧(match ds.findIdx? (fun z=>eqD 0 z y) with
  | some j=>P (.int (j:Nat)) st1
  | none=>False)
end
noncomputable def qCm:List Value→List Str→Bool
  | [],[]=>true
  | .str x _::us,s::ss=>x==s&&qCm us ss
  | _,_=>false
theorem qIM:∀ {us:List Value} {ss:List Str},qCm us ss=true→Vals (ss.map V.str) us
  | [],[],_=>.nil
  | [],_::_,h=>by simp [qCm] at h
  | u::us,[],h=>by cases u<;>simp [qCm] at h
  | u :: us,s::ss,h=>by
    cases u with
    | str x t =>
      rw [qCm,Bool.and_eq_true] at h
      have e:x=s:=eq_of_beq h.1
      subst e
      exact .cons ⟨t,rfl⟩ (qIM h.2)
    | _=>simp [qCm] at h
theorem DL.strs {K:W.Frag} {φ:Nat→Addr} {N:Nat} {H:Hp}:∀ ss:List Str,DL K φ N H (ss.map .str) (ss.map V.str)
  | []=>.nil
  | n::ns=>.cons D.mkStr (DL.strs ns)
theorem qMu {K:W.Frag} {mg:Str→Option Value} {x:Str} {a:Addr} {its:Array Value} {n:Nat} {sl:Array (Option Value)} {ss:List Str} (hm:mg x=some (.ref a)) (l:K.lookup a=some ⟨.type "tuple",none,.seq its n,sl⟩) (v:qCm its.toList ss=true) (sz:its.size≤sizeLine) :
    qN5 K mg x (ss.map .str):=⟨a,_,ss.map V.str,its,n,hm,l,rfl,rfl,rfl,sz,qIM v,fun _ _ _=>DL.strs ss⟩
theorem qCT {K:W.Frag} {mg:Str→Option Value} {x:Str} {i:Int} {t:Tok} (hm:mg x=some (.int i t)):qAb K mg x (.int i):=⟨.int i,_,hm,⟨t,rfl⟩,fun _ _ _=>D.mkInt⟩
def qLe:RDL:=fun ds st P=>match ds with
  | [x]=>(match x with
    | .bl k=>P (.int (if k then 1 else 0)) st
    | .int i=>P (.int i) st
    | _=>False)
  | _=>False
theorem qTg {X:Cx}:qDs X (.type "int") qLe:=by
  k_dat 0"r21"
  k_dat 0"r23"
  k_dat 0"r30"
  · exact hr.elim
  rotate_left
  · exact hr.elim
  · k_dat 0"r28"
    cases x with
    | bl k=>exact qIS pins s σ H [v] us Q I rv (.inr ⟨k,by rw [dx.bl],Go.here hq R hr D.mkInt⟩)
    | int k=>exact qIS pins s σ H [v] us Q I rv (.inl ⟨k,by rw [dx.int],Go.here hq R hr D.mkInt⟩)
    | _=>exact hr.elim
theorem qT0 {X:Cx} {pos:Pos} {e:Expr} {es:List Expr} {t:TAD} {p:Pos} (hm:X.mg "int" = none) (ha:DA X (e::es) t) (hg:Gl X "int") (he:starEach (e::es) X.env=(false,eval e X.env)::starEach es X.env) (hpl:(backTo pos (starEach es X.env)).any (·.1)=false):DE X (.Call (.Name "int" p) (e::es) [] pos) (qI qLe t):=qFH qTg hm PyProof.Rows.boot_int ha hg (by decide) (by decide) he hpl
structure qVI (caps:List (Nat×Str)):Prop where
  ok:True
theorem qGg {so:Scope} {N:List Str} {caps:List (Nat×Str)} {sc:Scope} (_:qVI caps) (h:qGN so N caps sc=true):qAr so N caps sc:=qKd h
theorem qQe {st:Sto} {i:Nat} {o x:SO} (h:st[i]? = some o):(st++[x])[i]? = some o:=by
  rw [List.getElem?_append_left (qq h)];exact h
theorem qN {st:Sto} {i j:Nat} {o x:SO} (h:st[i]? = some o) (hne:j≠i):(st.set j x)[i]? = some o:=by
  rw [List.getElem?_set_ne hne];exact h
theorem qAV {st:Sto} {i:Nat} {o x:SO} (h:st[i]? = some o):(st.set i x)[i]? = some x:=by
  rw [List.getElem?_set_self (qq h)]
theorem qj {st:Sto} {x:SO}:(st++[x])[st.length]? = some x:=by simp
def qx (st st':Sto):Prop:=∀ (i:Nat) o,st[i]? = some o→st'[i]? = some o
theorem qx.refl (st:Sto):qx st st:=fun _ _ h=>h
theorem qx.trans {a b c:Sto} (h:qx a b) (h':qx b c):qx a c:=fun i o q=>h' i o (h i o q)
theorem qx.app (st:Sto) (x:SO):qx st (st++[x]):=fun _ _ h=>qQe h
noncomputable abbrev Ed (Pd:VD):qA0:={ nx:=fun _ st'=>Pd .non st',rt:=Pd }
theorem small {n:Nat} (h:n<1000):n<sizeLine:=Nat.lt_trans h (by decide)
theorem cdiv {i j:Int} (h1:0<j) (h2:j<1073741824):qQs i j:=⟨h1,h2⟩
end L3
namespace L3
open PySem PySem.Spec PyProof.Rows L2
theorem hu1 {k:Nat} {A:Around} (r:qAx k A):A.units+1<cLine:=by have:=r.units;lia
def qG2:RDL:=fun ds st P=>match ds with
  | [.int i,.int j]=>P (.int (if j > i then j else i)) st
  | _=>False
def qGh:RDL:=fun ds st P=>match ds with
  | [.int i,.int j]=>P (.int (if j<i then j else i)) st
  | _=>False
theorem qPa {X:Cx} {φ:Nat→Addr} {N:Nat} {H:Hp} {i j:Int} {vs:List V} (dl:DL X.K φ N H [.int i,.int j] vs):vs=[.int i,.int j]:=by
  obtain⟨v,ws,rfl,d1,d2⟩:=dl
  obtain⟨w,us,rfl,e1,e2⟩:=d2
  rw [d1.int,e1.int,show us=[] from e2]
section
variable {X:Cx}
theorem qSz (hc:X.calm=true):qDs X (.builtin "max") qG2:=by
  k_dat 0"r21"
  k_dat 0"r23"
  unfold qG2 at hr
  split at hr
  · rename_i i j
    exact qNJ hc pins s σ H vs us Q I rv ⟨i,j,qPa (X:=X) dl,Go.here hq R hr D.mkInt⟩
  · exact hr.elim
theorem qRv (hc:X.calm=true):qDs X (.builtin "min") qGh:=by
  k_dat 0"r21"
  k_dat 0"r23"
  unfold qGh at hr
  split at hr
  · rename_i i j
    exact qMz hc pins s σ H vs us Q I rv ⟨i,j,qPa (X:=X) dl,Go.here hq R hr D.mkInt⟩
  · exact hr.elim
variable {pos:Pos}
theorem qT5 {e:Expr} {es:List Expr} {t:TAD} {p:Pos} (hc:X.calm=true) (hm:X.mg "max" = none) (ha:DA X (e::es) t) (hg:Gl X "max") (he:starEach (e::es) X.env=(false,eval e X.env)::starEach es X.env) (hpl:(backTo pos (starEach es X.env)).any (·.1)=false):DE X (.Call (.Name "max" p) (e::es) [] pos) (qI qG2 t):=qC3 (qSz hc) hm PyProof.Rows.boot_max ha hg (by decide) (by decide) he hpl
theorem qR7 {e:Expr} {es:List Expr} {t:TAD} {p:Pos} (hc:X.calm=true) (hm:X.mg "min" = none) (ha:DA X (e::es) t) (hg:Gl X "min") (he:starEach (e::es) X.env=(false,eval e X.env)::starEach es X.env) (hpl:(backTo pos (starEach es X.env)).any (·.1)=false):DE X (.Call (.Name "min" p) (e::es) [] pos) (qI qGh t):=qC3 (qRv hc) hm PyProof.Rows.boot_min ha hg (by decide) (by decide) he hpl
end
end L3
namespace L3
open PySem PySem.Spec PyProof.Rows L2
end L3
namespace L3
open PySem PySem.Spec PyProof.Rows L2
section
variable {X:Cx} {a b c:Expr} {ta tb tc:TD} {pos:Pos}
def qQ2 (ta:TD):TD:=fun ρ st P=>ta ρ st fun d st1=>match d with
  | .int i=>P (.int (-i)) st1
  | _=>False
theorem qT3 (ha:DE X a ta):DE X (.UnaryOp .USub a pos) (qQ2 ta):=(qUb qTI ha).imp fun σ H Q h=>by
  k_dat 0"r1"
  k_dat 0"r25"
  cases d with
  | int i=>exact⟨i,dx.int,hq _ st1 h1 φ1 H1 _ b1 D.mkInt⟩
  | _=>exact h1.elim
def qIf (tc:TBD) (tb:TSD):TSD:=fun E ρ st=>∃ W:Nat→Rho→Sto→Prop,(∃ m,W m ρ st)∧∀ m ρ st,W m ρ st →
  tc ρ st fun k st1=>if k=true then tb { E with nx:=fun ρ' st'=>∃ m',m'<m∧W m' ρ' st',ct:=fun ρ' st'=>∃ m',m'<m∧W m' ρ' st',bk:=E.nx } ρ st1 else E.nx ρ st1
theorem qPc {c:Expr} {body:List Stmt} {tc:TBD} {tb:TSD} (hp:PassesOwn (model X.prog X.w) X.A X.env X.xe) (hc:DT X c tc) (hb:DSs X body tb):DS X (.While c body [] pos) (qIf tc tb) :=
  (qNX hp hc hb).imp fun E σ H h=>by
    obtain⟨φ,st,ρ,P,pre,⟨W,⟨m0,w0⟩,turn⟩,n,b,c,r⟩:=h
    refine⟨fun m σ1 H1=>∃ φ1 st1 ρ1,Pre X.K φ1 st1 H1 ρ1 σ1∧Bhd X.K φ st H φ1 st1 H1∧W m ρ1 st1,⟨m0,φ,st,ρ,pre,.refl pre.1,w0⟩,?_⟩
    rintro m σ1 H1 ⟨φ1,st1,ρ1,pre1,b1,w1⟩
    refine⟨φ1,st1,ρ1,_,pre1,turn m ρ1 st1 w1,fun k st2 h2 φ2 H2 b2=>?_⟩
    cases k with
    | true =>
      rw [if_pos rfl] at h2
      rw [if_pos rfl]
      have b12:=b1.trans b2
      refine⟨fun σ3 H3=>∃ m',m'<m∧∃ φ3 st3 ρ3,Pre X.K φ3 st3 H3 ρ3 σ3∧Bhd X.K φ st H φ3 st3 H3∧W m' ρ3 st3,fun σ3 H3 h3=>h3,?_⟩
      refine⟨φ2,st2,ρ1,_,pre1.on b2,h2,fun ρ4 st4 ⟨m',hm,h4⟩ φ4 H4 σ4 b4 d4=>⟨m',hm,φ4,st4,ρ4,⟨b4.1,d4⟩,b12.trans b4,h4⟩,fun ρ4 st4 h4 φ4 H4 σ4 b4 d4=>n ρ4 st4 h4 φ4 H4 σ4 (b12.trans b4) d4,
        fun ρ4 st4 ⟨m',hm,h4⟩ φ4 H4 σ4 b4 d4=>⟨m',hm,φ4,st4,ρ4,⟨b4.1,d4⟩,b12.trans b4,h4⟩,fun d st4 h4 φ4 H4 v b4 d4=>r d st4 h4 φ4 H4 v (b12.trans b4) d4⟩
    | false =>
      rw [if_neg Bool.false_ne_true] at h2
      rw [if_neg Bool.false_ne_true]
      exact n ρ1 st2 h2 φ2 H2 σ1 (b1.trans b2) (pre1.on b2).2
end
end L3
namespace L3
open PySem PySem.Spec PyProof.Rows L2
open AutoSeq1 (wpAny_loadPart')
def qLv:RDL:=fun ds st P=>match ds with
  | [.lst n]=>(match st[n]? with
    | some o=>∃ ns:List Int,o.items=ns.map .int∧P (.int ns.sum) st
    | none=>False)
  | _=>False
theorem qJr {K:W.Frag} {φ:Nat→Addr} {N:Nat} {H:Hp}:∀ {ns:List Int} {ws:List V} {us:List Value},DL K φ N H (ns.map .int) ws→Vals ws us→IntsAre us ns
  | [],ws,us,dl,rv=>by
    have e:ws=[]:=by simpa [DL] using dl
    subst e
    cases rv
    exact .nil
  | n :: ns,ws,us,dl,rv=>by
    obtain⟨v,r,rfl,h1,h2⟩:=dl
    cases rv with
    | @cons a u as us' h t =>
      have e:v = .int n:=h1.int
      subst e
      obtain⟨tk,rfl⟩:=h
      exact .cons n tk (qJr h2 t)
section
variable {X:Cx}
theorem qSD (hc:X.calm=true):qDs X (.builtin "sum") qLv:=by
  k_dat 0"r21"
  k_dat 0"r23"
  k_dat 0"r30"
  · exact hr.elim
  rotate_left
  · cases x<;>exact hr.elim
  · k_dat 0"r28"
    obtain⟨u,rfl,ru⟩:=vals1 rv
    cases x with
    | lst n =>
      have hr:(match st[n]? with
        | some o=>∃ ns:List Int,o.items=ns.map .int∧P (.int ns.sum) st
        | none=>False):=hr
      split at hr
      · rename_i o eo
        obtain⟨ns,eb,hp⟩:=hr
        obtain⟨ws,hs1,dws⟩:=R.seq eo dx.isL
        rw [eb] at dws
        have ev:=dx.lst.2
        subst ev
        cases ru
        obtain⟨its,rvs,pl,hz⟩:=I.list hs1
        have hi:IntsAre its ns:=qJr dws rvs
        have hl:s.heap.IsList (φ n) its.toArray:=pl.isList
        obtain⟨xs,hx⟩:=hi.allInts.items
        have hl':s.heap.IsList (φ n) (intItems xs):=hx ▸ hl
        refine sum_intListG (I.ok.hd hc) hl' fun h' tk t' hk=>?_
        have e1:ns=xs.toList.map (·.1):=by
          rw [← nums_intItems,← hx]
          exact (show numsOf its.toArray.toList=ns from hi.numsOf).symm
        have e2:preSum (numAt xs) xs.size=ns.sum:=by
          rw [preSum_eq,List.take_of_length_le (by simp),e1]
        rw [e2]
        exact⟨.int ns.sum,H,I.kept (t':=tk) hk,⟨_,rfl⟩,Go.here hq R hp D.mkInt⟩
      · exact hr.elim
    | _=>exact hr.elim
theorem qTK {pos:Pos} {e:Expr} {es:List Expr} {t:TAD} {p:Pos} (hc:X.calm=true) (hm:X.mg "sum" = none) (ha:DA X (e::es) t) (hg:Gl X "sum") (he:starEach (e::es) X.env=(false,eval e X.env)::starEach es X.env) (hpl:(backTo pos (starEach es X.env)).any (·.1)=false):DE X (.Call (.Name "sum" p) (e::es) [] pos) (qI qLv t):=qC3 (qSD hc) hm PyProof.Rows.boot_sum ha hg (by decide) (by decide) he hpl
end
end L3
namespace HT
open PySem PySem.Spec PyProof.Rows
section
variable {prog:Program} {w:World} {A:Around} {E:Value→Shared→Prop} {s:Shared}
theorem qD3 {t sl:Addr} {items:Array Value} {vl vu:Value} {lo hi:Option Int} {Q:Value→Shared→Prop} (ht:IsTup s.heap t items) (hs:s.heap.IsSliceOf sl vl vu .none) (pl:IsPart vl lo) (pu:IsPart vu hi)
    (hw:sIx items.size 0 lo=0∧sIx items.size items.size hi=items.size) (h:Q (.ref t) s):wpAny (model prog w) A (getItem (.ref t) (.ref sl)) Q E s:=by
  obtain⟨os,hos,hcs,hds⟩:=id hs
  have hTs:s.TypeIs (.ref sl) "slice":=⟨os,hos,hcs⟩
  unfold getItem
  try with_reducible refine wpAny_holding ?_
  first | refine wpAny_bind (wpAny_pure ?_) | skip
  refine wpAny_bind (wpAny_sequenceKey ht.typeIs (by decide) ?_)
  refine wpAny_bind (wpAny_callSpecial?_slot (name:=Str.ofString "__getitem__") ht.typeIs PyProof.Rows.slot_tuple_getitem
    (wpAny_call_entry PyProof.Rows.slot_tuple_getitem ht.typeIs entry_tuple_getitem ?_ (args_tuple_getitem _ _)))
  show wpAny _ _ (Builtin.Tuple.tupleItemsOf (.ref t) >>= _) _ _ s
  refine wpAny_bind (tupleItemsOf_ ht ?_)
  refine wpAny_bind (wpAny_typeOf hTs ?_)
  rw [if_pos (by decide)]
  refine wpAny_bind (qC5 hs pl pu ?_)
  have hyes:(((sIx items.size 0 lo:Nat):Int)==0&&(1:Int)==1&&(sIx items.size items.size hi - sIx items.size 0 lo)==items.size)=true:=by
    rw [hw.1,hw.2];simp
  k_dat 0"r59"
  rw [if_pos hyes]
  unfold Builtin.Tuple.tupleIsExact
  refine wpAny_bind (wpAny_bind (wpAny_typeOf ht.typeIs (wpAny_pure ?_)))
  rw [if_pos (by decide)]
  first
    | exact wpAny_bind (wpAny_pure (wpAny_pure ⟨_,rfl,wpAny_pure h⟩))
    | exact wpAny_bind (wpAny_rule (wpAny_bind (wpAny_pure (wpAny_pure ⟨_,rfl,wpAny_pure h⟩))))
    | exact wpAny_bind (wpAny_rule (wpAny_bind (wpAny_pure ⟨_,rfl,wpAny_pure h⟩)))
    | exact wpAny_pure ⟨_,rfl,wpAny_pure h⟩
    | exact wpAny_bind (wpAny_pure ⟨_,rfl,wpAny_pure h⟩)
end
end HT
namespace L3
open PySem PySem.Spec PyProof.Rows L2
noncomputable def qVq (K:W.Frag):V→Option Int→Option Int→Hp→VK→Prop:=fun x lo hi H Q=>∃ a xs,x = .ref a∧SqT K H a xs∧(HT.sIx xs.length 0 lo=0∧HT.sIx xs.length xs.length hi=xs.length)∧Q (.ref a) H
section
variable {X:Cx}
theorem qNW:SlR X (qVq X.K):=by
  k_dat 0"r45"
  obtain⟨a,xs,rfl,hx,hw,q⟩:=h
  cases rx
  obtain⟨its,r,ht,hz⟩:=I.tuple hx
  have hlen:its.toArray.size=xs.length:=by rw [List.size_toArray];exact r.length.symm
  refine⟨"tuple",_,PyProof.Rows.slot_tuple_getitem.lookup,ht.typeIs,?_⟩
  exact HT.qD3 ht hs pl pu (by rw [hlen];exact hw) ⟨.ref a,H,I,rfl,q⟩
def qIo (te:TD) (tl th:TOD):TD:=fun ρ st P=>te ρ st fun x st1=>tl ρ st1 fun lo st2=>th ρ st2 fun hi st3=>match x with
  | .tup xs=>P (.tup (cutD xs lo hi)) st3
  | .lst n=>(match st3[n]? with
    | some o=>P (.lst st3.length) (st3++[.rw (cutD o.items lo hi)])
    | none=>False)
  | _=>False
theorem qMg {xs:List Dt} {lo hi:Option Int} (h:HT.sIx xs.length 0 lo=0∧HT.sIx xs.length xs.length hi=xs.length):cutD xs lo hi=xs:=by
  unfold cutD
  rw [h.1,h.2]
  simp
theorem qMi {e:Expr} {lo hi:Option Expr} {te:TD} {tl th:TOD} {pos p2:Pos} (he:DE X e te) (hl:DO X lo tl) (hu:DO X hi th):DE X (.Subscript e (.Slice lo hi none p2) pos) (qIo te tl th):=by
  refine PE.imp (qKE ((qOj.or qLd).or qNW) he hl hu) fun σ H Q h=>?_
  k_dat 0"r1"
  k_dat 0"r9"
  refine⟨φ1,st1,ρ,_,pre.on b1,h1,fun l st2 h2 φ2 H2 b2=>?_⟩
  refine⟨φ2,st2,ρ,_,(pre.on b1).on b2,h2,fun u st3 h3 φ3 H3 b3=>?_⟩
  have b:=b1.trans (b2.trans b3)
  have dx3:=(dx.evo b2.2).evo b3.2
  cases x with
  | tup xs =>
    obtain⟨a,vs,e1,s1,d1⟩:=dx3.tup
    have h3':P (.tup (cutD xs l u)) st3:=h3
    by_cases hw:HT.sIx xs.length 0 l=0∧HT.sIx xs.length xs.length u=xs.length
    · rw [qMg hw] at h3'
      exact .inr ⟨a,vs,e1,s1,by rw [← d1.length];exact hw,hq _ st3 h3' φ3 _ _ b (by rw [← e1];exact dx3)⟩
    refine .inl (.inl ⟨a,vs,e1,s1,by rw [← d1.length];exact hw,fun p hp=>hq _ st3 h3' φ3 _ _ (b.trans (qCL b3.1 hp)) (.qDK (SqT.of qAH) ?_)⟩)
    unfold cutD qF5
    rw [← d1.length]
    exact ((d1.drop _).take _).evo (qB4 hp)
  | lst n =>
    have h3':(match st3[n]? with
      | some o=>P (.lst st3.length) (st3++[.rw (cutD o.items l u)])
      | none=>False):=h3
    split at h3'
    · rename_i o eo
      obtain⟨vs,s1,d1⟩:=b3.1.seq eo dx3.isL
      refine .inl (.inr ⟨φ3 n,vs,dx3.lst.2,s1,fun p hp=>?_⟩)
      have:DL X.K φ3 st3.length H3 (cutD o.items l u) (qF5 vs l u):=by
        unfold cutD qF5
        rw [← d1.length]
        exact (d1.drop _).take _
      exact hq _ _ h3' _ _ _ (b.trans (qCR b3.1 hp this)) qEZ
    · exact h3'.elim
  | _=>exact h3.elim
end
structure qPK (K:W.Frag) (x qual:Str) (st:Stmt) (f:Addr) (fd:FuncData) (T:Addr):Prop where
  ex:∃ (oc:Value) (od:Option Addr) (kV doc pm:Value) (an:Option Addr) (cdv ct:Value) (osl:Array (Option Value)),
    fd=W.fnOf x qual (qAh st) (qAZ st) (qK st) (.ref T) kV doc pm an cdv ct∧K.lookup f=some ⟨oc,od,.func fd,osl⟩∧W.codeIn K cdv qual=true
  kp:W.keepIn K (.ref f)=true
theorem qQq {K:W.Frag} {x qual:Str} {st:Stmt} {f T:Addr} {oc:Value} {od an:Option Addr} {osl:Array (Option Value)} {kV doc pm cdv ct:Value} (l:K.lookup f=some ⟨oc,od,.func (W.fnOf x qual (qAh st) (qAZ st) (qK st) (.ref T) kV doc pm an cdv ct),osl⟩)
    (c:W.codeIn K cdv qual=true) (k:W.keepIn K (.ref f)=true):qPK K x qual st f (W.fnOf x qual (qAh st) (qAZ st) (qK st) (.ref T) kV doc pm an cdv ct) T:=⟨⟨oc,od,kV,doc,pm,an,cdv,ct,osl,rfl,l,c⟩,k⟩
theorem qPK.ok {P:Program} {w:World} {K:W.Frag} {mg:Str→Option Value} {base:Heap} {x qual:Str} {st:Stmt} {f T:Addr} {fd:FuncData} {N ps:List Str} {k:Nat} {sp:Sp} (F:qPK K x qual st f fd T) (S:qQ N ps (qK st)) (len:∀ vs H Q E,sp vs H Q E→vs.length=ps.length)
    (hbody:∀ (cdv:Value) (A:Around) (outer:List Env) (s:Shared) (H:Hp) (vs:List V) (Q:VK) (E:XK),qAx k (A.deeper (envOfC qual (qK st) s.heap.objs.size f cdv))→sp vs H Q E →
      ∃ t,PSs (qIx CX0 P w K mg base N qual (qK st) f cdv A outer s H E).nox (qAZ st) t∧t { nx:=fun _ H'=>Q .non H',rt:=Q } (start N vs) H):qAJ P w K mg base CX0 (k+1) f fd ps sp:=by
  k_dat 0"r47"
  refine qRZ lk hcd S len fun A outer s H vs Q E hr hsp=>?_
  obtain⟨t,h,q⟩:=hbody cdv A outer s H vs Q E hr hsp
  exact⟨t,h.nox,q⟩
theorem qPw {P:Program} {w:World} {K:W.Frag} {mg:Str→Option Value} {base:Heap} {x qual:Str} {stt:Stmt} {f T:Addr} {fd:FuncData} {N ps:List Str} {k:Nat} {sp:RDL} (F:qPK K x qual stt f fd T) (S:qQ N ps (qK stt))
    (len:∀ ds st Pd,sp ds st Pd→ds.length=ps.length)
    (hbody:∀ (cdv:Value) (A:Around) (outer:List Env) (s:Shared) (H:Hp) (E:XK),qAx k (A.deeper (envOfC qual (qK stt) s.heap.objs.size f cdv)) →
      ∃ t,DSs (qIx CX0 P w K mg base N qual (qK stt) f cdv A outer s H E).nox (qAZ stt) t∧∀ ds st Pd,sp ds st Pd→t { nx:=fun _ st'=>Pd .non st',rt:=Pd } (qU N ds) st):qAJ P w K mg base CX0 (k+1) f fd ps (qS K sp):=by
  refine F.ok S (fun vs H Q E h=>?_) fun cdv A outer s H vs Q E hr h=>?_
  · k_dat 0"r36"
    rw [← dl.length]
    exact len ds st Pd hs
  · obtain⟨t,ht,hb⟩:=hbody cdv A outer s H E hr
    k_dat 0"r36"
    k_dat 0"r64"
end L3
namespace L3
open PySem PySem.Spec PyProof.Rows L2
end L3
namespace L3
open PySem PySem.Spec PyProof.Rows L2
noncomputable def qNz:List Value→Int→Bool
  | [.int i _],n=>i==n
  | _,_=>false
theorem qQc:∀ {l:List Value} {n:Int},qNz l n=true→∃ t,l=[.int n t]
  | [.int i t],n,h=>by
    have e2:i=n:=eq_of_beq h
    subst e2
    exact⟨t,rfl⟩
theorem qO9 {a:Array Value} {n:Int} (h:qNz a.toList n=true):∃ t,a=#[.int n t]:=by
  obtain⟨t,e⟩:=qQc h
  exact⟨t,by rw [← Array.toArray_toList (xs:=a),e]⟩
end L3
namespace L3
open PySem PySem.Spec PyProof.Rows L2
end L3
namespace HT
open PySem PySem.Spec PyProof.Rows
end HT
namespace L3
open PySem PySem.Spec PyProof.Rows L2
end L3
namespace L3
open PySem PySem.Spec PyProof.Rows L2
theorem qQQ (l:Addr) (xs:Array Value) (n:Nat) (b:Addr) (ys:Array Value) (m:Nat) (dd:Option Addr) (sl:Array (Option Value)) (h0:¬(!xs.isEmpty&&Builtin.List.listTooLong (xs.size+ys.size))=true) (h1:xs.size≤sizeLine) (h2:xs.size+ys.size≤sizeLine+1) :
    Meets (Builtin.«list.extend» ⟨[.ref l,.ref b],[]⟩) (fun _ R s=>s.heap.get? l=some { cls:=.type "list",dict:=none,data:=.seq xs n,slots:=#[] } ∧
      s.heap.get? b=some { cls:=.type "tuple",dict:=dd,data:=.seq ys m,slots:=sl } ∧
      R (.ok (.ret Value.none)) { s with heap:=s.heap.update l (Obj.mapSeq fun x=>x++ys),toks:=s.toks }) :=
  .of_wp fun prog w A R s h=>by
    obtain⟨hp,g,d,tk,os⟩:=s
    obtain⟨hl,hb,h⟩:=h
    have f1:=AutoSeq1.idx_int
    have f2:=AutoSeq1.sub_tuple_tuple
    have f3:=AutoSeq1.sub_list_list
    have f4:=AutoSeq1.sub_tuple_list
    have f5:=AutoSeq1.sub_list_tuple
    have hz:(xs++ys).size≤sizeLine+1:=by rw [Array.size_append];exact h2
    wp_walk using (wpAny_updateSeq hl rfl (hz:=h1) (_hz':=hz)),AutoSeq1.wpAny_loadPart' hl,AutoSeq1.wpAny_loadPart' hb
    exact⟨_,rfl,h⟩
section
variable {X:Cx} {e:Expr} {te:TD} {pos:Pos}
noncomputable def qNy (K:W.Frag):V→List V→Hp→VK→Prop:=fun x vs H Q=>∃ l b xs zs,x = .ref l∧vs=[.ref b]∧H l=some (.lst xs)∧SqT K H b zs∧xs.length+zs.length≤sizeLine∧Q .non (upd H l (.lst (xs++zs)))
theorem qKw:MtM X "list.extend" (qNy X.K):=by
  intro pins s σ H x vs v us Q I rx rv h
  obtain⟨l,b,xs,zs,rfl,rfl,hH,hB,hz,q⟩:=h
  cases rx
  obtain⟨u,rfl,ru⟩:=rv.one
  cases ru
  obtain⟨z,its,n,r,hl,e⟩:=I.qNr hH
  obtain⟨its2,r2,ht,hz2⟩:=I.tuple hB
  have hl2:its2.length=zs.length:=r2.length.symm
  obtain⟨⟨cls,dd,data,sl⟩,ho,hc,n2,hd⟩:=ht
  simp only at hc hd
  subst hc hd
  have hsz:its.toArray.size+its2.toArray.size≤sizeLine:=by rw [List.size_toArray,List.size_toArray];lia
  have hlong:¬ (!its.toArray.isEmpty&&Builtin.List.listTooLong (its.toArray.size+its2.toArray.size))=true:=by
    rw [qKT hsz,Bool.and_false]
    exact Bool.false_ne_true
  refine call_meets F.slot_list_extend ⟨_,e,rfl⟩ F.entry_list_extend (F.args_list_extend_2 _ _)
    (qQQ l its.toArray n b its2.toArray n2 dd sl hlong (by rw [List.size_toArray];lia) (by lia)) ⟨e,ho,?_⟩
  refine⟨.non,_,I.qUq (its':=its++its2) hH e (by simp) (r.append r2) ?_,rfl,q⟩
  rw [List.length_append]
  lia
def qIX (to te:TD):TD:=fun ρ st P=>to ρ st fun o st1=>match o with
  | .lst n=>te ρ st1 fun d st2=>(match d with
    | .tup ds=>(match st2[n]? with
      | some (.rw xs)=>xs.length+ds.length≤sizeLine∧P .non (st2.set n (.rw (xs++ds)))
      | _=>False)
    | _=>False)
  | _=>False
theorem qNO {o:Expr} {to:TD} {apos cpos:Pos} (ho:DE X o to) (he:DE X e te)
    (hbase:attributeBase o "extend" X.env (eval o X.env)=eval o X.env)
    (hfew:((backTo cpos (starEach [e] X.env)).all (fun x=>!x.1)&&(backToKw cpos (keywordEach [] X.env)).all (fun x=>x.1.isSome)
      && decide (([e]:List Expr).length+([]:List Keyword).length+(if ([]:List Keyword).isEmpty then 0 else 1)<30))=true)
    (hline:(apos.endLine==cpos.line)=true) (hs:starEach [e] X.env=(false,eval e X.env)::starEach [] X.env) (hplain:(backTo cpos (starEach ([]:List Expr) X.env)).any (·.1)=false) :
    DE X (.Call (.Attribute o "extend" apos) [e] [] cpos) (qIX to te):=by
  refine PE.imp (qRl PySem.F.plainAttrs_list PySem.F.slot_list_extend PySem.F.type_list_extend qKw ho (qEx he qGw hs) hbase hfew hline hs hplain) fun σ H Q h=>?_
  k_dat 0"r1"
  k_dat 0"r9"
  cases x with
  | lst n =>
    have hn:=dx.lst.1
    obtain⟨so,eo⟩:∃ so,st1[n]? = some so:=⟨st1[n],by simp [hn]⟩
    obtain⟨ws,hws,_⟩:=b1.1.seq eo dx.isL
    refine⟨?_,?_⟩
    · rw [dx.lst.2]
      exact .inl ⟨rfl,ws,hws⟩
    refine⟨φ1,st1,ρ,(fun ds st2=>match ds with
      | [.tup zs]=>(match st2[n]? with
        | some (.rw xs)=>xs.length+zs.length≤sizeLine∧P .non (st2.set n (.rw (xs++zs)))
        | _=>False)
      | _=>False),pre.on b1,?_,fun ds st2 h2 φ2 H2 zs b2 dz=>?_⟩
    · show te ρ st1 fun d st2=>_
      have h1:te ρ st1 fun d st2=>(match d with
        | .tup ds=>(match st2[n]? with
          | some (.rw xs)=>xs.length+ds.length≤sizeLine∧P .non (st2.set n (.rw (xs++ds)))
          | _=>False)
        | _=>False):=h1
      have e:(fun (d:Dt) (st2:Sto)=>(match d with
        | .tup ds=>(match st2[n]? with
          | some (.rw xs)=>xs.length+ds.length≤sizeLine∧P .non (st2.set n (.rw (xs++ds)))
          | _=>False)
        | _ => False))=(fun x st1=>qG ρ st1 fun xs st2=>(match x::xs with
          | [.tup zs]=>(match st2[n]? with
            | some (.rw xs)=>xs.length+zs.length≤sizeLine∧P .non (st2.set n (.rw (xs++zs)))
            | _=>False)
          | _=>False)):=by
        funext d st2
        cases d<;>rfl
      rw [e] at h1
      exact h1
    k_dat 0"r35"
    · exact h2.elim
    rotate_left
    · cases d<;>exact h2.elim
    · cases d with
      | tup ts =>
        have h2:(match st2[n]? with
          | some (.rw xs)=>xs.length+ts.length≤sizeLine∧P .non (st2.set n (.rw (xs++ts)))
          | _=>False):=h2
        split at h2
        · rename_i xs ex
          obtain⟨y,rfl,dy⟩:=dz.one
          obtain⟨a,us,e1,s1,d1⟩:=dy.tup
          subst e1
          obtain⟨vs,hv,dl⟩:=b2.1.rw n xs ex
          have dx2:=dx.evo b2.2
          have bb:Bhd X.K φ2 st2 H2 φ2 (st2.set n (.rw (xs++ts))) (upd H2 (φ2 n) (.lst (vs++us))):=⟨b2.1.qTA ex (dl.append d1),qGJ hv⟩
          exact⟨φ2 n,a,vs,us,dx2.lst.2,rfl,hv,s1,by rw [← dl.length,← d1.length];exact h2.1,hq _ _ h2.2 φ2 _ _ (b1.trans (b2.trans bb)) D.qH5⟩
        · exact h2.elim
      | _=>exact h2.elim
  | _=>exact h1.elim
end
end L3
namespace L3
open PySem PySem.Spec PyProof.Rows L2
end L3
namespace L3
open PySem PySem.Spec PyProof.Rows L2
def qK4 (st:Sto) (a b:List Dt):Prop:=∃ is js:List Nat,a=is.map .lst∧b=js.map .lst∧is.length=js.length∧∀ (k i j:Nat),is[k]? = some i→js[k]? = some j→∃ xs:List Dt,st[i]? = some (SO.rw xs)∧st[j]? = some (SO.rw xs)∧xs.all (okD 8)=true
def qJZ (neg:Bool):RD2:=fun x y st P=>match x,y with
  | .lst n,.lst m=>(match st[n]?,st[m]? with
    | some a,some b=>qK4 st a.items b.items∧P (.bl (!neg)) st
    | _,_=>False)
  | _,_=>False
section
variable {X:Cx} {pins:List (Addr×Obj)} {σ:L2.St} {H:Hp} {s:Shared} {φ:Nat→Addr} {st:Sto}
theorem qVR (I:Inv X pins σ H s) (R:Rep X.K φ st H) {A:Around} {i j:Nat} {xs:List Dt} (hu:A.units+10<cLine) (e1:st[i]? = some (.rw xs)) (e2:st[j]? = some (.rw xs)) (o:xs.all (okD 8)=true):SeqAt.EqAt A s (.ref (φ i)) (.ref (φ j)) true:=by
  by_cases hne:φ i=φ j
  · rw [hne];exact SeqAt.EqAt.same _
  refine SeqAt.EqAt.of_refs hne ?_
  obtain⟨vs,s1,d1⟩:=R.seq e1 (let ⟨vs,h,_⟩:=R.rw _ _ e1;⟨vs,SqL.of h⟩)
  obtain⟨ws,s2,d2⟩:=R.seq e2 (let ⟨vs,h,_⟩:=R.rw _ _ e2;⟨vs,SqL.of h⟩)
  obtain⟨its,rv,pl,_⟩:=I.list s1
  k_dat 0"r34"
  have d1:DL X.K φ st.length H xs vs:=d1
  have d2:DL X.K φ st.length H xs ws:=d2
  have l1:its.toArray.size=xs.length:=by rw [List.size_toArray,← rv.length,d1.length]
  have l2:its2.toArray.size=xs.length:=by rw [List.size_toArray,← rv2.length,d2.length]
  have:=SeqAt.RcAt.lists (A:=A) (s:=s) (e:=fun j=>eqD 8 (xs.getD j .non) (xs.getD j .non)) pl.isList pl2.isList (by lia) (by lia) (fun j h1 h2=>qJw I (by lia) d1 d2 rv rv2 o o h1 h2)
  have e:(List.range its.toArray.size).all (fun j=>eqD 8 (xs.getD j .non) (xs.getD j .non))=true:=by
    refine List.all_eq_true.mpr fun j hj=>qEY ?_
    have hj:=List.mem_range.mp hj
    have hj2:j<xs.length:=by lia
    rw [List.getD_eq_getElem?_getD,List.getElem?_eq_getElem hj2]
    exact List.all_eq_true.mp o _ (List.getElem_mem hj2)
  rw [e] at this
  exact this
theorem qUy (I:Inv X pins σ H s) (R:Rep X.K φ st H) {A:Around} {a b:List Dt} {vs ws:List V} {its its2:List Value} (hu:A.units+12<cLine) (hd:DL X.K φ st.length H a vs) (hd2:DL X.K φ st.length H b ws) (rv:Vals vs its) (rv2:Vals ws its2) (h:qK4 st a b)
    {j:Nat} (h1:j<its.toArray.size) (h2:j<its2.toArray.size):SeqAt.EqAt A.in1 s its.toArray[j] its2.toArray[j] true:=by
  obtain⟨is,js,rfl,rfl,hl,hk⟩:=h
  have l1:its.toArray.size=(is.map Dt.lst).length:=by rw [List.size_toArray,← rv.length,hd.length]
  have l2:its2.toArray.size=(js.map Dt.lst).length:=by rw [List.size_toArray,← rv2.length,hd2.length]
  rw [List.length_map] at l1 l2
  have hj1:j<is.length:=by lia
  have hj2:j<js.length:=by lia
  have ea:(is.map Dt.lst)[j]? = some (.lst is[j]):=by rw [List.getElem?_map,List.getElem?_eq_getElem hj1];rfl
  have eb:(js.map Dt.lst)[j]? = some (.lst js[j]):=by rw [List.getElem?_map,List.getElem?_eq_getElem hj2];rfl
  obtain⟨x,ex,dx⟩:=hd.get ea
  obtain⟨y,ey,dy⟩:=hd2.get eb
  obtain⟨ux,eux,rx⟩:=rv.get ex
  obtain⟨uy,euy,ry⟩:=rv2.get ey
  have gx:its.toArray[j]=ux:=by
    have:its[j]? = some its[j]:=by simp at h1;simp [h1]
    rw [eux] at this
    simpa using (Option.some.inj this).symm
  have gy:its2.toArray[j]=uy:=by
    have:its2[j]? = some its2[j]:=by simp at h2;simp [h2]
    rw [euy] at this
    simpa using (Option.some.inj this).symm
  rw [gx,gy]
  have e1':=dx.lst.2
  have e2':=dy.lst.2
  subst e1';subst e2'
  cases rx;cases ry
  obtain⟨xs,q1,q2,o⟩:=hk j _ _ (List.getElem?_eq_getElem hj1) (List.getElem?_eq_getElem hj2)
  exact qVR I R (by show A.units+1+10<cLine;lia) q1 q2 o
end
theorem qPr {X:Cx} (hu:X.A.units+16<cLine):OpD X (compareOp .Eq) (qJZ false):=by
  k_dat 0"r13"
  k_dat 0"r10"
  cases x with
  | lst n =>
    cases y with
    | lst m =>
      have hr':match st[n]?,st[m]? with
        | some a,some b=>qK4 st a.items b.items∧P (.bl (!false)) st
        | _,_=>False:=hr
      split at hr'
      · rename_i a b e1 e2
        obtain⟨same,hp⟩:=hr'
        obtain⟨vs,s1,d1⟩:=R.seq e1 dx.isL
        obtain⟨ws,s2,d2⟩:=R.seq e2 dy.isL
        obtain⟨its,rv,pl,_⟩:=I.list s1
        k_dat 0"r34"
        have e1':=dx.lst.2
        have e2':=dy.lst.2
        subst e1';subst e2'
        cases r1;cases r2
        have hl:its.toArray.size=its2.toArray.size:=by
          obtain⟨is,js,ha,hb,hl,_⟩:=same
          rw [List.size_toArray,List.size_toArray,← rv.length,← rv2.length,← d1.length,← d2.length,ha,hb,List.length_map,List.length_map,hl]
        have:=SeqAt.RcAt.lists (A:=X.A) (s:=s) (e:=fun _=>true) pl.isList pl2.isList hl (by lia) (fun j h1 h2=>qUy I R (by lia) d1 d2 rv rv2 same h1 h2)
        refine this _ _ _ _ (qBi I hq R hp ?_)
        symm
        exact List.all_eq_true.mpr fun _ _=>rfl
      · exact hr'.elim
    | _=>exact hr.elim
  | _=>cases y<;>exact hr.elim
section
variable {X:Cx} {a b:Expr} {ta tb:TD} {pos:Pos}
theorem qPj (hu:X.A.units+16<cLine) (ha:DE X a ta) (hb:DE X b tb) (hm:behindInMarks .Eq b=false):DE X (.Compare a [.Eq] [b] pos) (qE (qJZ false) ta tb):=qDh (qPr hu) ha hb hm
end
end L3
namespace L3
open PySem PySem.Spec PyProof.Rows L2
end L3
namespace L3
open PySem PySem.Spec PyProof.Rows L2
end L3
namespace L3
open PySem PySem.Spec PyProof.Rows L2
noncomputable def qI2:Dt→Option Key
  | .int i=>some (.inl i)
  | .str x=>some (.inr x)
  | _=>none
noncomputable def qFA (kvs:List (Key×Dt)) (k:Key):Option Dt:=(kvs.find? fun kv=>decide (kv.1=k)).map (·.2)
noncomputable def putD (kvs:List (Key×Dt)) (k:Key) (d:Dt):List (Key×Dt) :=
  if (kvs.any fun kv=>decide (kv.1=k))=true then kvs.map (fun kv=>if kv.1=k then (kv.1,d) else kv) else kvs++[(k,d)]
def KD (K:W.Frag) (φ:Nat→Addr) (N:Nat) (H:Hp) (kvs:List (Key×Dt)) (vs:List (Key×V)):Prop:=kvs.map (·.1)=vs.map (·.1)∧DL K φ N H (kvs.map (·.2)) (vs.map (·.2))
section
variable {K:W.Frag} {φ:Nat→Addr} {N:Nat} {H:Hp}
theorem qFV {y:Dt} {k:Key} {v:V} (e:qI2 y=some k) (d:D K φ N H y v):v=kV k:=by
  cases y with
  | int i=>cases e;exact d.int
  | str x=>cases e;exact d.str
  | _=>cases e
theorem KD.qCq {k:Key} {d:Dt} {r:List (Key×Dt)} {vs:List (Key×V)} (h:KD K φ N H ((k,d)::r) vs):∃ v r',vs=(k,v)::r'∧D K φ N H d v∧KD K φ N H r r':=by
  obtain⟨h1,h2⟩:=h
  cases vs with
  | nil=>cases h1
  | cons p r' =>
    obtain⟨k',v⟩:=p
    rw [List.map_cons,List.map_cons] at h1
    injection h1 with e1 e2
    have e1:k=k':=e1
    subst e1
    obtain⟨a,b⟩:=DL.qCq (d:=d) (v:=v) h2
    exact⟨v,r',rfl,a,e2,b⟩
theorem KD.cons {k:Key} {d:Dt} {v:V} {r:List (Key×Dt)} {r':List (Key×V)} (a:D K φ N H d v) (h:KD K φ N H r r'):KD K φ N H ((k,d)::r) ((k,v)::r'):=⟨by rw [List.map_cons,List.map_cons,h.1],.cons a h.2⟩
theorem KD.nil:KD K φ N H [] []:=⟨rfl,.nil⟩
theorem KD.qKW {vs:List (Key×V)} (h:KD K φ N H [] vs):vs=[]:=by
  cases vs with
  | nil=>rfl
  | cons p r=>cases h.1
theorem KD.val:∀ {kvs:List (Key×Dt)} {vs:List (Key×V)} (k:Key),KD K φ N H kvs vs→(qFA kvs k=none∧qCh vs k=none)∨∃ d v,qFA kvs k=some d∧qCh vs k=some v∧D K φ N H d v
  | [],vs,k,h=>by rw [h.qKW];exact .inl ⟨rfl,rfl⟩
  | (k',d)::r,vs,k,h=>by
    obtain⟨v,r',rfl,dv,h'⟩:=h.qCq
    by_cases e:k'=k
    · exact .inr ⟨d,v,by simp [qFA,List.find?_cons,e],by simp [qCh,List.find?_cons,e],dv⟩
    · have e1:qFA ((k',d)::r) k=qFA r k:=by simp [qFA,List.find?_cons,e]
      have e2:qCh ((k',v)::r') k=qCh r' k:=by simp [qCh,List.find?_cons,e]
      rw [e1,e2]
      exact h'.val k
theorem KD.any:∀ {kvs:List (Key×Dt)} {vs:List (Key×V)} (k:Key),KD K φ N H kvs vs→(kvs.any fun kv=>decide (kv.1=k))=(vs.any fun kv=>decide (kv.1=k))
  | [],vs,k,h=>by rw [h.qKW];rfl
  | (k',d)::r,vs,k,h=>by
    obtain⟨v,r',rfl,_,h'⟩:=h.qCq
    rw [List.any_cons,List.any_cons,h'.any k]
theorem KD.app:∀ {a b:List (Key×Dt)} {c e:List (Key×V)},KD K φ N H a c→KD K φ N H b e→KD K φ N H (a++b) (c++e)
  | [],b,c,e,h,h'=>by rw [h.qKW];exact h'
  | (k,d)::r,b,c,e,h,h'=>by
    obtain⟨v,r',rfl,dv,h2⟩:=h.qCq
    exact (h2.app h').cons dv
theorem KD.put {d:Dt} {v:V} (dv:D K φ N H d v) (k:Key) {kvs:List (Key×Dt)} {vs:List (Key×V)} (h:KD K φ N H kvs vs):KD K φ N H (putD kvs k d) (putK vs k v):=by
  unfold putD putK
  rw [h.any k]
  split
  · have go:∀ {kvs:List (Key×Dt)} {vs:List (Key×V)},KD K φ N H kvs vs→KD K φ N H (kvs.map fun kv=>if kv.1=k then (kv.1,d) else kv) (vs.map fun kv=>if kv.1=k then (kv.1,v) else kv):=by
      intro kvs
      induction kvs with
      | nil=>intro vs h;rw [h.qKW];exact .nil
      | cons p r ih =>
        intro vs h
        obtain⟨k',d'⟩:=p
        obtain⟨v',r',rfl,dv',h'⟩:=h.qCq
        rw [List.map_cons,List.map_cons]
        by_cases e:k'=k
        · rw [if_pos e,if_pos e];exact (ih h').cons dv
        · rw [if_neg e,if_neg e];exact (ih h').cons dv'
    exact go h
  · exact h.app (KD.cons dv .nil)
theorem KD.length {kvs:List (Key×Dt)} {vs:List (Key×V)} (h:KD K φ N H kvs vs):kvs.length=vs.length:=by
  have:=congrArg List.length h.1
  rwa [List.length_map,List.length_map] at this
theorem Rep.dc {st:Sto} (R:Rep K φ st H) {n:Nat} {kvs:List (Key×Dt)} (e:st[n]? = some (.dc kvs)):∃ vs,H (φ n)=some (.dK vs)∧K.lookup (φ n)=none∧KD K φ st.length H kvs vs:=by
  obtain⟨vs,h1,h2,h3,h4⟩:=R.all n _ e
  exact⟨vs,h1,h2,h3,h4⟩
theorem qJx {st:Sto} {p:Addr} {kvs:List (Key×Dt)} {vs:List (Key×V)} (R:Rep K φ st H) (hp:H p=none) (hk:K.lookup p=none) (hd:KD K φ st.length H kvs vs):Bhd K φ st H (qA9 φ st.length p) (st++[.dc kvs]) (upd H p (.dK vs)) :=
  ⟨R.add hp ⟨vs,qAH,hk,hd.1,hd.2.evo (qDy hp)⟩,qDy hp⟩
theorem qTd {st:Sto} {p:Addr} {kvs:List (Key×Dt)} {vs:List (Key×V)}:D K (qA9 φ st.length p) (st++[SO.dc kvs]).length (upd H p (.dK vs)) (.dic st.length) (.ref p):=by
  have:=D.qRO (K:=K) (φ:=qA9 φ st.length p) (H:=upd H p (.dK vs)) (n:=st.length) (N:=(st++[SO.dc kvs]).length) (by simp) (by rw [qCx];exact⟨_,qAH,rfl⟩)
  rw [qCx] at this
  exact this
theorem qJ4 {st:Sto} {n:Nat} {kvs kvs':List (Key×Dt)} {vs':List (Key×V)} (R:Rep K φ st H) (e:st[n]? = some (.dc kvs)) (hd:KD K φ st.length H kvs' vs'):Bhd K φ st H φ (st.set n (.dc kvs')) (upd H (φ n) (.dK vs')):=by
  obtain⟨vs,h1,h2,h3⟩:=R.dc e
  exact⟨R.put e rfl rfl h1 trivial ⟨vs',qAH,h2,hd.1,hd.2.evo (qDe (o:=.dc kvs') (w:=.dK vs') (qq e) h1 trivial)⟩,qDe (w:=.dK vs') (qq e) h1 trivial⟩
end
section
variable {X:Cx} {o i:Expr} {to ti:TD} {pos:Pos}
def qHG:TD:=fun _ st P=>P (.dic st.length) (st++[.dc []])
theorem qN0:DE X (.Dict [] [] pos) qHG:=qPQ.imp fun σ H Q h=>by
  k_dat 0"r1"
  exact fun p hp hk=>hq _ _ ht _ _ _ (qJx pre.1 hp hk .nil) qTd
def qC7:RD2:=fun x y st P=>match x with
  | .dic n=>(match st[n]?,qI2 y with
    | some (.dc kvs),some k=>(match qFA kvs k with
      | some d=>P d st
      | none=>False)
    | _,_=>False)
  | _=>False
theorem qQW (hu:X.A.units+1<cLine) (ho:DE X o to) (hi:DE X i ti) (hs:qSG i):DE X (.Subscript o i pos) (qE qC7 to ti):=(qPz hu ho hi hs).imp fun σ H Q h=>by
  k_dat 0"r1"
  k_dat 0"r9"
  k_dat 0"r29"
  cases x with
  | dic n =>
    have h2:(match st2[n]?,qI2 y with
      | some (.dc kvs),some k=>(match qFA kvs k with
        | some d=>P d st2
        | none=>False)
      | _,_=>False):=h2
    split at h2
    · rename_i kvs k e1 e2
      split at h2
      · rename_i d ed
        obtain⟨vs,hv,_,hk⟩:=b2.1.dc e1
        rcases hk.val k with ⟨z,_⟩ | ⟨d',v2,ed',ev,dv⟩
        · rw [ed] at z;cases z
        · rw [ed] at ed'
          cases ed'
          refine⟨φ2 n,v2,(dx.evo b2.2).dic.2,?_,hq d st2 h2 φ2 H2 v2 (b1.trans b2) dv⟩
          rw [qFV e2 dy,← ev]
          exact qEj.k hv
      · exact h2.elim
    · exact h2.elim
  | _=>exact h2.elim
def qPX (neg:Bool):RD2:=fun x y st P=>match y with
  | .dic n=>(match st[n]?,qI2 x with
    | some (.dc kvs),some k=>P (.bl ((qFA kvs k).isSome != neg)) st
    | _,_=>False)
  | _=>False
theorem qN3 {φ:Nat→Addr} {st2:Sto} {H2:Hp} {n:Nat} {x:Dt} {w:V} {neg:Bool} {P:VD} {v:V} (R:Rep X.K φ st2 H2) (dx:D X.K φ st2.length H2 x v) (dy:D X.K φ st2.length H2 (.dic n) w) (h:qPX neg x (.dic n) st2 P):∃ a o,w = .ref a∧qEj X.K H2 a v o∧P (.bl (o.isSome != neg)) st2:=by
  have h:(match st2[n]?,qI2 x with
    | some (.dc kvs),some k=>P (.bl ((qFA kvs k).isSome != neg)) st2
    | _,_=>False):=h
  split at h
  · rename_i kvs k e1 e2
    obtain⟨vs,hv,_,hk⟩:=R.dc e1
    refine⟨φ n,qCh vs k,dy.dic.2,by rw [qFV e2 dx];exact qEj.k hv,?_⟩
    rcases hk.val k with ⟨z1,z2⟩ | ⟨d',v2,z1,z2,_⟩
    · rw [z1] at h;rw [z2];exact h
    · rw [z1] at h;rw [z2];exact h
  · exact h.elim
noncomputable def tvK:List (Key×TD)→TAD
  | []=>fun _ st P=>P [] st
  | (_,t)::r=>fun ρ st P=>t ρ st fun x st1=>tvK r ρ st1 fun xs st2=>P (x::xs) st2
def qCg (kts:List (Key×TD)):TD:=fun ρ st P=>tvK kts ρ (st++[.dc []]) fun ds st1=>st1[st.length]? = some (.dc [])∧P (.dic st.length) (st1.set st.length (.dc ((kts.map (·.1)).zip ds)))
def DPK (X:Cx) (pos:Pos) (keys:List (Option Expr)) (values:List Expr) (kts:List (Key×TD)):Prop:=PPs X pos keys values (kts.map fun q=>(tC (kV q.1),qAz X.K q.2))
theorem qQR:DPK X pos [] [] []:=qPl
theorem qQ5 {k:Str} {j:Nat} {p:Pos} {v:Expr} {t:TD} {ks:List (Option Expr)} {vs:List Expr} {kts:List (Key×TD)} (hv:DE X v t) (hr:DPK X pos ks vs kts):DPK X pos (some (.Constant (.str k) j p)::ks) (v::vs) ((.inr k,t)::kts):=qNa qO6 hv hr
theorem qOf {K:W.Frag}:∀ {kts:List (Key×TD)} {σ:L2.St} {H:Hp} {φ:Nat→Addr} {st:Sto} {ρ:Rho} {P:List Dt→Sto→Prop} {Q:List (V×V)→Hp→Prop},Pre K φ st H ρ σ→tvK kts ρ st P →
    (∀ ds st',P ds st'→∀ φ' H' (vs:List V),Bhd K φ st H φ' st' H'→DL K φ' st'.length H' ds vs→ds.length=kts.length→Q (((kts.map (·.1)).zip vs).map fun kv=>(kV kv.1,kv.2)) H')→qJN (kts.map fun q=>(tC (kV q.1),qAz K q.2)) σ H Q
  | [],σ,H,φ,st,ρ,P,Q,pre,ht,hq=>hq [] st ht φ H [] (.refl pre.1) .nil rfl
  | (k,t)::r,σ,H,φ,st,ρ,P,Q,pre,ht,hq=>by
    k_dat 0"r25"
    refine qOf (pre.on b1) h1 fun ds st2 h2 φ2 H2 vs b2 dl hl=>?_
    exact hq (d::ds) st2 h2 φ2 H2 (v::vs) (b1.trans b2) (.cons (dx.evo b2.2) dl) (by rw [List.length_cons,hl,List.length_cons])
theorem qMQ:∀ {more acc:List (Key×V)},(∀ kv∈more,qCh acc kv.1=none)→(more.map (·.1)).Nodup→qEQ acc more=acc++more:=by
  intro more
  induction more with
  | nil=>intro acc _ _;show acc=_;rw [List.append_nil]
  | cons p r ih =>
    intro acc h nd
    rw [List.map_cons,List.nodup_cons] at nd
    have hp:putK acc p.1 p.2=acc++[p]:=by
      unfold putK
      have hn:¬ (acc.any fun kv=>decide (kv.1=p.1))=true:=by
        intro ha
        obtain⟨kv,hm,he⟩:=List.any_eq_true.mp ha
        have hv:=h p (List.mem_cons_self ..)
        unfold qCh at hv
        rw [Option.map_eq_none_iff,List.find?_eq_none] at hv
        exact hv kv hm he
      rw [if_neg hn]
    show qEQ (putK acc p.1 p.2) r=_
    rw [hp,ih (fun kv hk=>?_) nd.2,List.append_assoc];rfl
    have h1:=h kv (List.mem_cons_of_mem _ hk)
    unfold qCh at h1 ⊢
    rw [Option.map_eq_none_iff,List.find?_eq_none] at h1 ⊢
    intro q hq
    rcases List.mem_append.mp hq with z | z
    · exact h1 q z
    · rw [List.mem_singleton.mp z]
      have:p.1≠kv.1:=fun e=>nd.1 (by rw [e];exact List.mem_map.mpr ⟨kv,hk,rfl⟩)
      simpa using this
theorem qQK {keys:List (Option Expr)} {values:List Expr} {kts:List (Key×TD)} (h:DPK X pos keys values kts) (hall:keys.all (·.isSome)=true) (hl:keys.length=values.length) (h0:keys≠[]) (h15:keys.length≤15) (hk:kts.length≤15) (nd:(kts.map (·.1)).Nodup):DE X (.Dict keys values pos) (qCg kts):=by
  refine PE.imp (qP8 h hall hl h0 h15) fun σ H Q q=>?_
  obtain⟨φ,st,ρ,P,pre,ht,hq⟩:=q
  intro a hn kf
  have b0:=qJx (kvs:=[]) (vs:=[]) pre.1 hn kf .nil
  have ht:tvK kts ρ (st++[.dc []]) fun ds st1=>st1[st.length]? = some (.dc [])∧P (.dic st.length) (st1.set st.length (.dc ((kts.map (·.1)).zip ds))):=ht
  refine qOf (pre.on b0) ht fun ds st1 h1 φ1 H1 vs b1 dl hlen=>?_
  have ep:φ1 st.length=a:=by
    rw [b1.2.ext st.length (by simp),qCx]
  obtain⟨vs0,e0,_,k0⟩:=b1.1.dc h1.1
  rw [k0.qKW,ep] at e0
  have hvl:vs.length=kts.length:=by rw [← dl.length];exact hlen
  have kn:((kts.map (·.1)).zip vs).map (·.1)=kts.map (·.1):=List.map_fst_zip (by rw [List.length_map];lia)
  refine⟨e0,(kts.map (·.1)).zip vs,rfl,by rw [List.length_zip,List.length_map];lia,?_⟩
  rw [qMQ (fun kv _=>qPO) (by rw [kn];exact nd),List.nil_append]
  have kd:KD X.K φ1 st1.length H1 ((kts.map (·.1)).zip ds) ((kts.map (·.1)).zip vs):=by
    refine⟨?_,?_⟩
    · rw [kn,List.map_fst_zip (by rw [List.length_map];lia)]
    · rw [List.map_snd_zip (by rw [List.length_map];lia),List.map_snd_zip (by rw [List.length_map];lia)];exact dl
  have bb:=qJ4 b1.1 h1.1 kd
  rw [ep] at bb
  refine hq _ _ h1.2 φ1 _ _ ((b0.trans b1).trans bb) ?_
  have:=D.qRO (K:=X.K) (φ:=φ1) (H:=upd H1 a (.dK ((kts.map (·.1)).zip vs))) (n:=st.length) (N:=(st1.set st.length (.dc ((kts.map (·.1)).zip ds))).length) (by rw [List.length_set];exact qq h1.1) (by rw [ep];exact⟨_,qAH,rfl⟩)
  rw [ep] at this
  exact this
end
end L3
namespace L3
open PySem PySem.Spec PyProof.Rows L2
noncomputable def qCO (f:Str) (d:Dt):List (Str×Dt)→List (Str×Dt)
  | []=>[(f,d)]
  | (g,x)::r=>if g=f then (g,d)::r else (g,x)::qCO f d r
def OD (K:W.Frag) (φ:Nat→Addr) (N:Nat) (H:Hp) (fs:List (Str×Dt)) (vs:List (Str×V)):Prop:=fs.map (·.1)=vs.map (·.1)∧DL K φ N H (fs.map (·.2)) (vs.map (·.2))
section
variable {K:W.Frag} {φ:Nat→Addr} {N:Nat} {H:Hp}
theorem OD.qCq {k:Str} {d:Dt} {r:List (Str×Dt)} {vs:List (Str×V)} (h:OD K φ N H ((k,d)::r) vs):∃ v r',vs=(k,v)::r'∧D K φ N H d v∧OD K φ N H r r':=by
  obtain⟨h1,h2⟩:=h
  cases vs with
  | nil=>cases h1
  | cons p r' =>
    obtain⟨k',v⟩:=p
    rw [List.map_cons,List.map_cons] at h1
    injection h1 with e1 e2
    have e1:k=k':=e1
    subst e1
    obtain⟨a,b⟩:=DL.qCq (d:=d) (v:=v) h2
    exact⟨v,r',rfl,a,e2,b⟩
theorem OD.cons {k:Str} {d:Dt} {v:V} {r:List (Str×Dt)} {r':List (Str×V)} (a:D K φ N H d v) (h:OD K φ N H r r'):OD K φ N H ((k,d)::r) ((k,v)::r'):=⟨by rw [List.map_cons,List.map_cons,h.1],.cons a h.2⟩
theorem OD.nil:OD K φ N H [] []:=⟨rfl,.nil⟩
theorem OD.qKW {vs:List (Str×V)} (h:OD K φ N H [] vs):vs=[]:=by
  cases vs with
  | nil=>rfl
  | cons p r=>cases h.1
theorem OD.length {fs:List (Str×Dt)} {vs:List (Str×V)} (h:OD K φ N H fs vs):fs.length=vs.length:=by
  have:=congrArg List.length h.1
  rwa [List.length_map,List.length_map] at this
theorem OD.look:∀ {fs:List (Str×Dt)} {vs:List (Str×V)} (f:Str),OD K φ N H fs vs→(fs.lookup f=none∧vs.lookup f=none)∨∃ d v,fs.lookup f=some d∧vs.lookup f=some v∧D K φ N H d v
  | [],vs,f,h=>by rw [h.qKW];exact .inl ⟨rfl,rfl⟩
  | (k,d)::r,vs,f,h=>by
    obtain⟨v,r',rfl,dv,h'⟩:=h.qCq
    cases e:(f==k) with
    | true=>exact .inr ⟨d,v,by rw [List.lookup_cons,e],by rw [List.lookup_cons,e],dv⟩
    | false =>
      rw [List.lookup_cons,e,List.lookup_cons,e]
      exact h'.look f
theorem OD.put {d:Dt} {v:V} (dv:D K φ N H d v) (f:Str):∀ {fs:List (Str×Dt)} {vs:List (Str×V)},OD K φ N H fs vs→OD K φ N H (qCO f d fs) (qDA f v vs)
  | [],vs,h=>by rw [h.qKW];exact OD.cons dv .nil
  | (k,d')::r,vs,h=>by
    obtain⟨v',r',rfl,dv',h'⟩:=h.qCq
    unfold qCO qDA
    by_cases e:k=f
    · rw [if_pos e,if_pos e];exact h'.cons dv
    · rw [if_neg e,if_neg e];exact (OD.put dv f h').cons dv'
theorem Rep.ob {st:Sto} (R:Rep K φ st H) {n:Nat} {C:Str} {fs:List (Str×Dt)} (e:st[n]? = some (.ob C fs)):∃ (c dx:Addr) (vs:List (Str×V)),H (φ n)=some (.ins c dx vs)∧K.lookup (φ n)=none∧W.nsIn K mainGlobals C=some (some (.ref c))∧OD K φ st.length H fs vs:=by
  obtain⟨c,dx,vs,h1,h2,h3,h4,h5⟩:=R.all n _ e
  exact⟨c,dx,vs,h1,h2,h3,h4,h5⟩
theorem qJ0 {st:Sto} {n:Nat} {C:Str} {fs fs':List (Str×Dt)} {c dx:Addr} {vs vs':List (Str×V)} (R:Rep K φ st H) (e:st[n]? = some (.ob C fs)) (h:H (φ n)=some (.ins c dx vs)) (hd:OD K φ st.length H fs' vs'):Bhd K φ st H φ (st.set n (.ob C fs')) (upd H (φ n) (.ins c dx vs')):=by
  obtain⟨c',dx',vs0,h1,h2,h3,h4⟩:=R.ob e
  rw [h] at h1
  cases h1
  exact⟨R.put e rfl rfl h trivial ⟨c,dx,vs',qAH,h2,h3,hd.1,hd.2.evo (qDe (o:=.ob C fs') (w:=.ins c dx vs') (qq e) h trivial)⟩,qDe (w:=.ins c dx vs') (qq e) h trivial⟩
end
structure qBB (K:W.Frag) (nm:Str) (flds:List Str):Prop where
  c:∀ c,W.nsIn K mainGlobals nm=some (some (.ref c))→Cls K c∧∀ f∈flds,qDV K c f
section
variable {X:Cx} {o e:Expr} {to te:TD} {pos apos:Pos} {nm f:Str} {flds:List Str}
def qAG (nm:Str) (to:TD) (f:Str):TD:=fun ρ st P=>to ρ st fun x st1=>match x with
  | .ins n=>(match st1[n]? with
    | some (.ob c fs)=>c=nm∧(match fs.lookup f with
      | some d=>P d st1
      | none=>False)
    | _=>False)
  | _=>False
theorem qSR (hc:qBB X.K nm flds) (hf:f∈flds) (ho:DE X o to) (hb:attributeBase o f X.env (eval o X.env)=eval o X.env):DE X (.Attribute o f pos) (qAG nm to f):=(qSk ho hb).imp fun σ H Q h=>by
  k_dat 0"r1"
  k_dat 0"r9"
  cases x with
  | ins n =>
    have h1:(match st1[n]? with
      | some (.ob c fs)=>c=nm∧(match fs.lookup f with
        | some d=>P d st1
        | none=>False)
      | _=>False):=h1
    split at h1
    · rename_i c fs e1
      obtain⟨ec,h3⟩:=h1
      subst ec
      obtain⟨ca,da,vs,hv,_,hn,hk⟩:=b1.1.ob e1
      rcases hk.look f with ⟨z,_⟩ | ⟨d',v2,z1,z2,dv⟩
      · rw [z] at h3;exact h3.elim
      · rw [z1] at h3
        obtain⟨c1,c2⟩:=hc.c ca hn
        exact⟨φ1 n,ca,da,vs,v2,dx.ins.2,hv,c1,c2 f hf,z2,hq d' st1 h3 φ1 H1 v2 b1 dv⟩
    · exact h1.elim
  | _=>exact h1.elim
noncomputable def qBU (nm:Str) (to:TD) (f:Str):TGD:=fun d ρ st P=>to ρ st fun x st1=>match x with
  | .ins n=>(match st1[n]? with
    | some (.ob c fs)=>c=nm∧fs.length<1000∧P ρ (st1.set n (.ob c (qCO f d fs)))
    | _=>False)
  | _=>False
theorem qTs {value:Expr} {tv:TD} {pos':Pos} (hc:qBB X.K nm flds) (hf:f∈flds) (ho:DE X o to) (hv:DE X value tv) (hs:swapsWith value (some (.Attribute o f pos')) pos.line X.env=pure false) :
    DS X (.Assign [.Attribute o f pos'] value pos) (qR tv (qBU nm to f)):=(qTF ho hv hs).imp fun E σ H h=>by
  k_dat 0"r14"
  refine⟨φ,st,ρ,_,pre,ht,fun d st1 h1 φ1 H1 v b1 dv=>?_⟩
  refine⟨φ1,st1,ρ,_,pre.on b1,h1,fun x st2 h2 φ2 H2 w b2 dx=>?_⟩
  cases x with
  | ins m =>
    have h2:(match st2[m]? with
      | some (.ob c fs)=>c=nm∧fs.length<1000∧P.nx ρ (st2.set m (.ob c (qCO f d fs)))
      | _=>False):=h2
    split at h2
    · rename_i c fs e1
      obtain⟨rfl,hl,h2⟩:=h2
      obtain⟨ca,da,vs,hv,_,hn,hk⟩:=b2.1.ob e1
      obtain⟨c1,c2⟩:=hc.c ca hn
      have bb:=qJ0 b2.1 e1 hv (hk.put (dv.evo b2.2) f)
      exact⟨φ2 m,ca,da,vs,dx.ins.2,hv,c1,c2 f hf,by rw [← hk.length];exact hl,n _ _ h2 φ2 _ _ ((b1.trans b2).trans bb) ((pre.on ((b1.trans b2).trans bb)).2)⟩
    · exact h2.elim
  | _=>exact h2.elim
structure qA4 (P:Program) (w:World) (K:W.Frag) (mg:Str→Option Value) (base:Heap) (nm m:Str) (k:Nat) (sp:RDL):Prop where
  ex:∃ C f fd ps,W.nsIn K mainGlobals nm=some (some (.ref C))∧Cls K C∧Meth K C m f∧qAJ P w K mg base CX0 k f fd ps (qS K sp)∧Binds K fd ps []
def qAn (nm m:Str) (sp:RDL) (to:TD) (t:TAD):TD:=fun ρ st P=>to ρ st fun x st1=>match x with
  | .ins n=>(match st1[n]? with
    | some (.ob c fs)=>c=nm∧fs.lookup m=none∧t ρ st1 fun ds st2=>sp (.ins n::ds) st2 P
    | _=>False)
  | _=>False
theorem qIV {C:Addr} {nm m:Str} {sp:RDL} {to:TD} {t:TAD} {σ:L2.St} {H:Hp} {Q:VK} (hn:W.nsIn X.K mainGlobals nm=some (some (.ref C))) (h:qAz X.K (qAn nm m sp to t) σ H Q):qMB C m (qS X.K sp) [] E0 (qAz X.K to) (qJi X.K t) σ H Q:=by
  k_dat 0"r1"
  k_dat 0"r9"
  cases x with
  | ins n =>
    have h1:(match st1[n]? with
      | some (.ob c fs)=>c=nm∧fs.lookup m=none∧t ρ st1 fun ds st2=>sp (.ins n::ds) st2 P
      | _=>False):=h1
    split at h1
    · rename_i c fs e1
      obtain⟨rfl,hl,h1⟩:=h1
      obtain⟨ca,da,vs,hv,_,hn',hk⟩:=b1.1.ob e1
      rw [hn] at hn'
      cases hn'
      k_dat 0"r65"
      · rcases hk.look m with ⟨_,z⟩ | ⟨d',v2,z1,_,_⟩
        · exact z
        · rw [hl] at z1;cases z1
      · show qS X.K sp (v::(us++[])) H2 Q E0
        rw [List.append_nil]
        exact⟨φ2,st2,.ins n::ds,P,b2.1,.cons (dx.evo b2.2) dl,h2,fun d st' hp φ' H' u b d'=>hq d st' hp φ' H' u ((b1.trans b2).trans b) d'⟩
    · exact h1.elim
  | _=>exact h1.elim
theorem qQ6 {k:Nat} {m:Str} {sp:RDL} {es:List Expr} {t:TAD} {pl:Sem Bool} (F:qA4 X.prog X.w X.K X.mg X.base nm m k sp) (hr:qAx k X.A) (ho:DE X o to) (ha:DA X (e::es) t)
    (hst:starEach (e::es) X.env=(false,eval e X.env)::starEach es X.env) (hpl:(backTo pos (starEach es X.env)).any (·.1)=false)
    (ht:eval (.Call (.Attribute o m apos) (e::es) [] pos) X.env=(do
      let ov ← eval o X.env
      standAt apos.atName
      let (f,first) ← holding [ov] (getMethod ov m pl)
      callWith pos f first (backTo pos (starEach (e::es) X.env)) (backToKw pos (keywordEach [] X.env)))):DE X (.Call (.Attribute o m apos) (e::es) [] pos) (qAn nm m sp to t):=by
  k_dat 0"r37"
  exact (qQv ho h2 h3 h4 hr h5 .nil qH7 ha hst hpl ht).imp fun σ H Q h=>qIV h1 h
theorem qNm {k:Nat} {m:Str} {sp:RDL} {pl:Sem Bool} (F:qA4 X.prog X.w X.K X.mg X.base nm m k sp) (hr:qAx k X.A) (ho:DE X o to)
    (ht:eval (.Call (.Attribute o m apos) [] [] pos) X.env=(do
      let ov ← eval o X.env
      standAt apos.atName
      let (f,first) ← holding [ov] (getMethod ov m pl)
      callWith pos f first (backTo pos (starEach [] X.env)) (backToKw pos (keywordEach [] X.env)))):DE X (.Call (.Attribute o m apos) [] [] pos) (qAn nm m sp to qG):=by
  k_dat 0"r37"
  refine (qJe ho h2 h3 h4 hr h5 .nil qH7 ht).imp fun σ H Q h=>?_
  obtain⟨φ,st,ρ,P,pre,ht,hq⟩:=qIV h1 h
  refine⟨φ,st,ρ,P,pre,ht,fun d st' hp φ' H' v b dv=>?_⟩
  obtain⟨a,dx,fs,e1,e2,e3,φ2,st2,ρ2,P2,pre2,ht2,hq2⟩:=hq d st' hp φ' H' v b dv
  exact⟨a,dx,fs,e1,e2,e3,hq2 [] st2 ht2 φ2 H' [] (.refl pre2.1) .nil⟩
structure qHO (P:Program) (w:World) (K:W.Frag) (mg:Str→Option Value) (base:Heap) (nm:Str) (k:Nat) (sp:RDL):Prop where
  ex:∃ C f fd ps,W.nsIn K mainGlobals nm=some (some (.ref C))∧mg nm=some (.ref C)∧Mk K C f∧qAJ P w K mg base CX0 k f fd ps (qS K sp)∧Binds K fd ps []
def qD9 (nm:Str) (sp:RDL) (t:TAD):TD:=fun ρ st P=>t ρ st fun ds st1=>sp (.ins st1.length::ds) (st1++[.ob nm []]) fun d st2=>d = .non∧P (.ins st1.length) st2
theorem qIP {C:Addr} {sp:RDL} {t:TAD} {σ:L2.St} {H:Hp} {Q:VK} (hn:W.nsIn X.K mainGlobals nm=some (some (.ref C))) (h:qAz X.K (qD9 nm sp t) σ H Q):qOT X.K C (qS X.K sp) [] E0 (qJi X.K t) σ H Q:=by
  k_dat 0"r1"
  refine⟨φ,st,ρ,_,pre,ht,fun ds st1 h1 φ1 H1 us b1 dl=>?_⟩
  intro x dx hx hdx hne hk
  show qS X.K sp (.ref x::(us++[])) _ _ E0
  rw [List.append_nil]
  have b2:=qCL (o:=.own x) b1.1 hdx
  have hx2:upd H1 dx (.own x) x=none:=by rw [qg (Ne.symm hne)];exact hx
  have b3:Bhd X.K φ1 st1 (upd H1 dx (.own x)) (qA9 φ1 st1.length x) (st1++[.ob nm []]) (upd (upd H1 dx (.own x)) x (.ins C dx [])) :=
    ⟨b2.1.add hx2 ⟨C,dx,[],qAH,hk,hn,rfl,.nil⟩,qDy hx2⟩
  have b:=(b2.trans b3)
  have dn:D X.K (qA9 φ1 st1.length x) (st1++[SO.ob nm []]).length (upd (upd H1 dx (.own x)) x (.ins C dx [])) (.ins st1.length) (.ref x):=by
    have:=D.qUp (K:=X.K) (φ:=qA9 φ1 st1.length x) (H:=upd (upd H1 dx (.own x)) x (.ins C dx [])) (n:=st1.length) (N:=(st1++[SO.ob nm []]).length) (by simp) (by rw [qCx];exact⟨C,dx,[],qAH⟩)
    rw [qCx] at this
    exact this
  refine⟨_,_,.ins st1.length::ds,_,b.1,.cons dn (dl.evo b.2),h1,fun d st' hp φ' H' u bb dd=>?_⟩
  obtain⟨rfl,hp⟩:=hp
  refine⟨dd.non,hq _ st' hp φ' H' _ ((b1.trans b).trans bb) ?_⟩
  have:=dn.evo bb.2
  exact this
theorem qO0 {k:Nat} {sp:RDL} {p:Pos} (F:qHO X.prog X.w X.K X.mg X.base nm k sp) (hr:qAx (k+1) X.A) (hg:Gl X nm) (hdb:(nm==("__debug__" : Str))=false):DE X (.Call (.Name nm p) [] [] pos) (qD9 nm sp qG):=by
  k_dat 0"r37"
  refine (qNq h3 h4 hr hg h2 h5 .nil qH7 hdb).imp fun σ H Q h=>?_
  obtain⟨φ,st,ρ,P,pre,ht,hq⟩:=qIP h1 h
  exact hq [] st ht φ H [] (.refl pre.1) .nil
end
end L3
namespace L3
open PySem PySem.Spec PyProof.Rows L2
section
variable {X:Cx} {o i:Expr} {to ti:TD} {pos:Pos}
theorem qQV (hu:X.A.units+1<cLine) (hi:DE X i ti) (ho:DE X o to) (hm:behindInMarks .In o=false):DT X (.Compare i [.In] [o] pos) (qM (qE (qPX false) ti to)):=(qR1 (qTE hu hi ho) hm).imp fun σ H Q h=>by
  obtain⟨φ,st,ρ,P,pre,ht,hq⟩:=qD1 h
  k_dat 0"r9"
  k_dat 0"r29"
  cases y with
  | dic n =>
    obtain⟨a,ov,e,g,p⟩:=qN3 b2.1 (dx.evo b2.2) dy h2
    refine⟨a,ov,e,g,hq _ st2 p φ2 H2 _ (b1.trans b2) ?_⟩
    cases ov<;>exact D.qEO
  | _=>exact h2.elim
end
end L3
namespace L3
open PySem PySem.Spec PyProof.Rows L2
end L3
namespace HT
open PySem PySem.Spec PyProof.Rows
section
variable {prog:Program} {w:World} {A:Around} {E:Value→Shared→Prop} {s:Shared}
theorem qF3 {it t:Addr} {i:Nat} {items:Array Value} {x:Value} {Q:Value→Shared→Prop} (hit:IsTupIter s.heap it t i) (ht:IsTup s.heap t items) (hx:items[i]? = some x)
    (hQ:∀ h',IsTupIter h' it t (i+1)→Heap.SameBut it s.heap h'→Q x { s with heap:=h' }):wpAny (model prog w) A (Builtin.SmallTypes.nextOf (.ref it)) Q E s:=by
  obtain⟨o,ho,hc,hd⟩:=id hit;obtain⟨ol,hol,_,nl,hdl⟩:=ht
  k_dat 0"r66"
  k_dat 0"r67"
  k_dat 0"r68"
  k_dat 0"r69"
  k_dat 0"r70"
  refine wpAny_bind (wpAny_setField ho hd (by simp) (wpAny_pure ⟨x,rfl,wpAny_pure (hQ _ ⟨_,Heap.get?_update_self _ ho (Obj.isFreed_of_fields (Obj.data_mapFields hd _)),(Obj.cls_mapFields ..).trans hc,by rw [Obj.data_mapFields hd];simp [rawInt]⟩ (Heap.SameBut.update ..))⟩))
theorem qDb {it t:Addr} {i:Nat} {items:Array Value} {Q:Value→Shared→Prop} (hh:A.handled=none) (hit:IsTupIter s.heap it t i) (ht:IsTup s.heap t items) (hx:items[i]? = none)
    (hE:∀ h' e,Heap.ExtBut it s.heap h'→(∃ o,h'.get? e=some o∧o.cls = .type "StopIteration")→E (.ref e) { s with heap:=h' }):wpAny (model prog w) A (Builtin.SmallTypes.nextOf (.ref it)) Q E s:=by
  obtain⟨o,ho,hc,hd⟩:=id hit;obtain⟨ol,hol,_,nl,hdl⟩:=ht
  k_dat 0"r66"
  k_dat 0"r67"
  k_dat 0"r68"
  k_dat 0"r69"
  k_dat 0"r70"
  refine wpAny_bind (wpAny_rule (wpAny_bind (wpAny_setField ho hd (by simp) ?_)));show wpAny _ _ (newExc (.type "StopIteration") [] >>= _) _ _ _
  refine wpAny_bind ?_;simp only [newExc,newTuple]
  refine wpAny_bind (wpAny_newObj_type ?_ (by size_fits));refine wpAny_bind (m:=firstArgMember _ _) (wpAny_of_eq (a:=Value.none) (by first | rfl | (simp only [firstArgMember];rfl)) ?_)
  refine wpAny_newObj_type ?_ (by size_fits);simp only [raiseNew];refine wpAny_bind (wpAny_handled ?_)
  first | rw [show A.in1.handled=none from hh] | rw [hh]
  refine wpAny_bind (wpAny_pure (wpAny_throw ?_));exact hE _ _ (((Heap.SameBut.update ..).extBut.push _).push _) ⟨_,Heap.get?_push_size _ rfl,rfl⟩
theorem qMt (hh:A.handled=none) (it t:Addr) (hne:t≠it) (items:Array Value):Draws prog w A it [it,t] items.size (fun i v=>items[i]? = some v) (fun i h=>IsTupIter h it t i∧IsTup h t items) where
  live:=fun _ _ st=>let ⟨o,ho,_⟩:=st.1;⟨o,ho⟩
  frame:=fun _ _ _ st hk=>⟨let ⟨o,ho,r⟩:=st.1;⟨o,hk it (by simp) _ ho,r⟩,let ⟨o,ho,r⟩:=st.2;⟨o,hk t (by simp) _ ho,r⟩⟩
  item:=fun i s Q E hi st hQ=>by
    refine qF3 st.1 st.2 (x:=items[i]) (by simp [hi]) fun h' hit' hs'=>hQ _ h' s.toks (by simp [hi]) ⟨hit',?_⟩ hs'
    obtain⟨o,ho,r⟩:=st.2
    exact⟨o,hs'.extBut t o hne ho,r⟩
  done:=fun s Q E st hE=>qDb hh st.1 st.2 (by simp) hE
end
theorem qJl (l:Addr) (items:Array Value) (n:Nat) (dct:Option Addr) (sl:Array (Option Value)) :
    Meets (Builtin.«enumerate.__new__» ⟨[.type "enumerate",.ref l],[]⟩) (fun _ R s=>s.heap.get? l=some { cls:=.type "tuple",dict:=dct,data:=.seq items n,slots:=sl } ∧
      R (.ok (.ret (.ref (s.heap.push { cls:=.type "tuple_iterator",data:=.fields #[.ref l,.int 0 0] }).objs.size)))
        { s with heap:=(s.heap.push { cls:=.type "tuple_iterator",data:=.fields #[.ref l,.int 0 0] }).push { cls:=.type "enumerate",data:=.fields #[.none,.bool false,.ref s.heap.objs.size,rawInt 0,.none,.none] } }) :=
  .of_wp fun prog w A R s h=>by
    obtain⟨hp,g,d,tk,os⟩:=s;obtain⟨hl,h⟩:=h
    have hsub:=sub_enumerate
    have hT:IsTup (Shared.heap ⟨hp,g,d,tk,os⟩) l items:=⟨_,hl,rfl,n,rfl⟩
    wp_walk using AutoSeq1.wpAny_loadPart' hl
    refine wpAny_stack_any fun st=>wpAny_pure ?_
    split
    · rename_i c _ _ _ _ _
      cases (c==Value.type "enumerate")
      · wp_walk using AutoSeq1.wpAny_loadPart' hl,iter_tuple hT
        exact⟨_,rfl,h⟩
      · wp_walk using AutoSeq1.wpAny_loadPart' hl,iter_tuple hT
        exact⟨_,rfl,h⟩
    · wp_walk using AutoSeq1.wpAny_loadPart' hl,iter_tuple hT
      exact⟨_,rfl,h⟩
section
variable {prog:Program} {w:World} {A:Around} {E:Value→Shared→Prop} {s:Shared}
theorem qLD {l:Addr} {items:Array Value} {Q:Value→Shared→Prop} (hT:IsTup s.heap l items)
    (h:∀ h',IsEnum h' (s.heap.objs.size+1) s.heap.objs.size 0 .none→IsTupIter h' s.heap.objs.size l 0→h'.objs.size=s.heap.objs.size+2→(∀ b o,s.heap.get? b=some o→h'.get? b=some o)→Q (.ref (s.heap.objs.size+1)) { s with heap:=h' }) :
    wpAny (model prog w) A (call (.type "enumerate") [.ref l]) Q E s:=by
  obtain⟨⟨c,dct,dt,sl⟩,hl,hc,n,hd⟩:=hT
  replace hc:c = .type "tuple":=hc
  replace hd:dt = .seq items n:=hd
  subst hc hd
  refine callType_new F.called_enumerate (by decide) (F.typeCall_enumerate_1 _) (F.newCall_enumerate_1 _) (fun obj=>F.args_object_init_2 obj _) F.entry_enumerate_new (qJl l items n dct sl) ⟨hl,?_⟩
  have hz:(s.heap.push { cls:=.type "tuple_iterator",data:=.fields #[.ref l,.int 0 0] }).objs.size=s.heap.objs.size+1:=Heap.size_push ..
  show _∧_
  rw [hz]
  have he:IsEnum ((s.heap.push { cls:=.type "tuple_iterator",data:=.fields #[.ref l,.int 0 0] }).push { cls:=.type "enumerate",data:=.fields #[.none,.bool false,.ref s.heap.objs.size,rawInt 0,.none,.none] }) (s.heap.objs.size+1) s.heap.objs.size 0 .none:=by
    have q:=Heap.get?_push_size (s.heap.push { cls:=.type "tuple_iterator",data:=.fields #[.ref l,.int 0 0] }) (o:={ cls:=.type "enumerate",data:=.fields #[.none,.bool false,.ref s.heap.objs.size,rawInt 0,.none,.none] }) rfl
    rw [hz] at q;exact q
  exact⟨⟨_,he,rfl⟩,h _ he ⟨_,Heap.get?_push_of_some _ (Heap.get?_push_size _ rfl),rfl,rfl⟩ (by rw [Heap.size_push,hz]) fun b o x=>Heap.get?_push_of_some _ (Heap.get?_push_of_some _ x)⟩
end
end HT
namespace L3
open PySem PySem.Spec PyProof.Rows L2
theorem qG3 {h h':Heap} {a t:Addr} {i:Nat} (x:IsTupIter h a t i) (e:∀ o,h.get? a=some o→h'.get? a=some o):IsTupIter h' a t i:=let ⟨o,ho,r⟩:=x;⟨o,e _ ho,r⟩
theorem qMl {prog:Program} {w:World} {A:Around} {E:Value→Shared→Prop} {s:Shared} {e it t:Addr} {i:Nat} {old:Value} {items:Array Value} {Q:Option Value→Shared→Prop} (hh:A.handled=none) (he:IsEnum s.heap e it (i:Nat) old) (hit:IsTupIter s.heap it t i) (ht:IsTup s.heap t items) (hne:t≠it) (hn:items.size≤i)
    (hQ:∀ h',Heap.ExtBut it s.heap h'→Q none { s with heap:=h' }):wpAny (model prog w) A (pyNext (.ref e)) Q E s:=by
  have hT:s.TypeIs (.ref e) "enumerate":=⟨_,he,rfl⟩
  unfold pyNext
  refine wpAny_bind (wpAny_attempt (wpAny_callSpecial?_slot (name:=Str.ofString "__next__") hT F.slot_enumerate_next (wpAny_call_entry F.slot_enumerate_next hT F.entry_enumerate_next ?_ (F.args_enumerate_next_1 _))))
  show wpAny _ _ (field (.ref e) 2 >>= _) _ _ _
  refine wpAny_bind (wpAny_field he rfl (x:=.ref it) rfl (wpAny_bind (HT.qDb (A:=A.in1) hh hit ht (by simp;omega) fun h' x he' hx'=>?_)))
  obtain⟨o,ho,hc⟩:=hx'
  exact wpAny_bind (wpAny_isInstance (T:= "StopIteration") (b:=true) ⟨o,ho,hc⟩ isSubtype_stop (wpAny_pure (hQ _ he')))
noncomputable def qVY (K:W.Frag) (a:Addr):It :=
  ⟨fun i H=>∃ xs x,SqT K H a xs∧xs[i]? = some x,fun i H x H'=>∃ p v,H p=none∧H'=upd H p (.tup [.int i,v])∧x = .ref p∧∀ xs,SqT K H a xs→xs[i]? = some v,fun i H=>∃ xs,SqT K H a xs∧xs.length≤i⟩
theorem qLX {P:Program} {w:World} {K:W.Frag} {elts:List Expr} {x1} {pos:Pos} (a e it:Addr) (hei:e≠it) :
    Turn P w K (.Tuple elts x1 pos) (qVY K a) [e,it] e (fun i h=>(∃ old,IsEnum h e it (i:Nat) old)∧IsTupIter h it a i) where
  mem:=by simp
  obj :=fun i h st b hb=>by
    obtain⟨⟨old,he⟩,o,ho,hc,hd⟩:=st
    rcases List.mem_cons.mp hb with rfl | hb
    · exact⟨_,he,fun v z=>by
        have z':Data.fields _=Data.cell v:=z
        cases z'⟩
    · have:b=it:=by simpa using hb
      subst this
      exact⟨o,ho,fun v z=>by rw [hd] at z;cases z⟩
  keep:=fun i h h' st k=>by
    obtain⟨⟨old,he⟩,hit⟩:=st
    exact⟨⟨old,k e (by simp) _ he⟩,qG3 hit fun o x=>k it (by simp) o x⟩
  item := by
    k_dat 0"r22"
    subst hP hw hK
    obtain⟨⟨old,he⟩,hit⟩:=st
    obtain⟨xs,x,hq,hx⟩:=hg
    obtain⟨its,rv,p,hz⟩:=I.tuple hq
    obtain⟨u,hu,ru⟩:=rv.get hx
    obtain⟨e0,e1,e2,e3,e4,e5⟩:=hf e (by simp)
    obtain⟨i0,i1,i2,i3,i4,i5⟩:=hf it (by simp)
    have hit0:=hit
    have hai:a≠it:=fun z=>by
      obtain⟨o1,q1,q2,q3⟩:=hit
      obtain⟨o2,q4,q5,q6⟩:=p
      k_dat 0"r71"
    have hea:e≠a:=fun z=>by
      obtain⟨o2,q4,q5,q6⟩:=p
      rw [← z,he] at q4;cases q4;injection q5 with q7;exact absurd q7 (by decide)
    refine wpAny_pyNext_enum_itemD (HT.qMt (A:=X.A.in1) (I.ok.hd hc) it a hai its.toArray) he ⟨hit,p⟩ (by have:=(Array.getElem?_eq_some_iff.mp (show its.toArray[i]? = some u by simpa using hu));exact this.1) hei (by simp;exact⟨hei,hea⟩) fun x0 h' tk hx0 ho hst' hT hsz hk=>?_
    have hxu:x0=u:=by
      have q:its.toArray[i]? = some u:=by simpa using hu
      have hx0:its.toArray[i]? = some x0:=hx0
      rw [q] at hx0;exact (Option.some.inj hx0).symm
    subst hxu
    obtain⟨hit',hp'⟩:=hst'
    refine⟨_,rfl,wpAny_letOwnedTupleGo_enum (s:={ s with heap:=h',toks:=tk+1 }) ho fun h2 he2 hs2=>?_⟩
    have hT2:h2.get? s.heap.objs.size=some { cls:=.type "tuple",data:=.seq #[.int i tk,x0] }:=(hs2.2 _ (Ne.symm (qEC (Heap.lt_size he) (Nat.le_refl _)))).trans hT
    have hk2:∀ b o,b≠e→b≠it→s.heap.get? b=some o→h2.get? b=some o:=fun b o hb hb2 q=>(hs2.2 b hb).trans (hk b o hb hb2 q)
    have hp:H s.heap.objs.size=none:=I.hok.fresh (Nat.le_refl _)
    have nt:∀ b v,H b=some v→b≠e∧b≠it:=fun b v q=>⟨fun z=>(by rw [z,e0] at q;cases q),fun z=>(by rw [z,i0] at q;cases q)⟩
    refine⟨.ref s.heap.objs.size,upd H s.heap.objs.size (.tup [.int i,x]),?_,rfl,⟨_,x,hp,rfl,rfl,fun ys hy=>by rw [I.qDz hy hq];exact hx⟩,⟨⟨x0,by simpa using he2⟩,qG3 hit' fun o y=>(hs2.2 it hei.symm).trans y⟩,fun b hb=>?_⟩
    · show Inv X pins σ _ { s with heap:=h2,gens:=s.gens,drawn:=s.drawn,toks:=tk+1 }
      refine Inv.step (s:=s) (h':=h2) (g':=s.gens) (d':=s.drawn) (t':=tk+1) (ch:=[e,it]) I (fun b hb=>?_) (fun b o _ _ hc q _=>hk2 b o (fun z=>hc (by simp [z])) (fun z=>hc (by simp [z])) q) (fun b o _ _ hc q _=>⟨o.slots,hk2 b o (fun z=>hc (by simp [z])) (fun z=>hc (by simp [z])) q⟩)
        (fun b o _ q n=>by rw [qg (qEC (Heap.lt_size q) (Nat.le_refl _))];exact n) (fun b o hc q=>⟨o,hk2 b o (fun z=>hc (by simp [z])) (fun z=>hc (by simp [z])) q⟩)
        (fun b ys q=>by rw [qg (qAD q hp)];exact q) (fun b o v q=>by rw [qg (qAD q hp)];exact q) (fun b ps q=>⟨#[],by rw [qg (qAD q hp),q];simp⟩) (fun m hm=>?_) (fun b v q=>?_) I.bare
      · rcases List.mem_cons.mp hb with rfl | hb
        · exact⟨e3,e1,e4,e5⟩
        · have:b=it:=by simpa using hb
          subst this
          exact⟨i3,i1,i4,i5⟩
      · obtain⟨o,es,ep,ho,r⟩:=hm
        exact⟨o,es,ep,hk2 _ o (Ne.symm e1) (Ne.symm i1) ho,r⟩
      · by_cases hb:b=s.heap.objs.size
        · subst hb
          rw [qAH] at q
          cases q
          refine⟨by show 2≤sizeLine;decide,[.int i tk,x0],.cons ⟨_,rfl⟩ (.cons ru .nil),⟨_,hT2,⟨rfl,rfl⟩,0,rfl⟩⟩
        · rw [qg hb] at q
          refine (I.hok b v q).stay (fun c o hc y=>?_) (fun c y=>by rw [qg (qAD y hp)];exact y) fun c ys y=>by rw [qg (qAD y hp)];exact y
          rcases hc with rfl | hc
          · exact hk2 c o (nt c v q).1 (nt c v q).2 y
          · exact hk2 c o (nt c _ hc).1 (nt c _ hc).2 y
    · have hlt:b<s.heap.objs.size:=by
        rcases List.mem_cons.mp hb with rfl | hb
        · exact Heap.lt_size he
        · have:b=it:=by simpa using hb
          subst this
          obtain⟨o,ho,_⟩:=hit
          exact Heap.lt_size ho
      rw [qg (qEC hlt (Nat.le_refl _))]
      exact (hf b hb).1
  done:=by
    k_dat 0"r22"
    subst hP hw hK
    obtain⟨⟨old,he⟩,hit⟩:=st
    obtain⟨xs,hq,hx⟩:=hg
    obtain⟨its,rv,p,hz⟩:=I.tuple hq
    obtain⟨i0,i1,i2,i3,i4,i5⟩:=hf it (by simp)
    have hl:=rv.length
    have hai:a≠it:=fun z=>by
      obtain⟨o1,q1,q2,q3⟩:=hit
      obtain⟨o2,q4,q5,q6⟩:=p
      k_dat 0"r71"
    exact qMl (I.ok.hd hc) he hit p hai (by simp;omega) fun h' eb=>⟨rfl,I.turned (t':=s.toks) (fun b o hb e=>eb b o hb e) i0 i1 i3 i4 i5⟩
  self:=fun _ _ _ _ _ st h=>by
    obtain⟨⟨old,he⟩,_⟩:=st
    exact wpAny_pyIter_enum he h
def qN4 (te:TD):TID:=fun ρ st P=>te ρ st fun x st1=>match x with
  | .tup xs=>P (qDI 0 xs) (fun _=>True) st1
  | _=>False
section
variable {X:Cx} {a:Expr} {elts:List Expr} {x1:Nat} {tpos pos p:Pos} {te:TD}
theorem qOy (hm:X.mg "enumerate" = none) (ha:DE X a te) (hg:Gl X "enumerate") (hs:starEach [a] X.env=[(false,eval a X.env)]):DI X (.Tuple elts x1 tpos) (.Call (.Name "enumerate" p) [a] [] pos) (qN4 te):=by
  intro pins s σ H R I h
  k_dat 0"r1"
  refine Call_ (qFB I hg hm PyProof.Rows.boot_enumerate (PyProof.Rows.callWith_type1 (thn (qEx ha qGw hs pos pins s σ H _ I ⟨φ,st,ρ,(fun ds st1=>match ds with
    | [x]=>(match x with
      | .tup xs=>P (qDI 0 xs) (fun _=>True) st1
      | _=>False)
    | _=>False),pre,ht,fun ds st1 h1 φ1 H1 vs b1 dl=>(show ∃ φ1 st1 ds,Bhd X.K φ st H φ1 st1 H1∧DL X.K φ1 st1.length H1 ds vs∧(match ds with
    | [x]=>(match x with
      | .tup xs=>P (qDI 0 xs) (fun _=>True) st1
      | _=>False)
    | _=>False) from⟨φ1,st1,ds,b1,dl,h1⟩)⟩) fun us s1 ⟨vs,H1,I1,rv,φ1,st1,ds,b1,dl,h1⟩=>?_) hs rfl))
  k_dat 0"r35"
  · exact h1.elim
  rotate_left
  · exact h1.elim
  · obtain⟨v,rfl,dv⟩:=dl.one
    obtain⟨u,rfl,ru⟩:=vals1 rv
    cases d with
    | tup xs =>
      have h1:P (qDI 0 xs) (fun _=>True) st1:=h1
      obtain⟨a,ws,ev,hs1,dws⟩:=dv.tup
      subst ev
      cases ru
      obtain⟨its,rvs,pl,hz⟩:=I1.tuple hs1
      refine HT.qLD pl fun h' he hit hsz hk=>?_
      refine wpAny_pyIter_enum (s:={ s1 with heap:=h' }) he ?_
      have I2:Inv X pins σ H1 { s1 with heap:=h' }:=I1.kept (t':=s1.toks) hk
      have hei:s1.heap.objs.size+1≠s1.heap.objs.size:=by omega
      refine⟨s1.heap.objs.size+1,[s1.heap.objs.size+1,s1.heap.objs.size],_,_,H1,rfl,I2,qLX a _ _ hei,⟨⟨_,he⟩,hit⟩,fun b hb=>?_,hq _ _ st1 h1 φ1 H1 _ b1 ?_⟩
      · have hle:s1.heap.objs.size≤b:=by
          rcases List.mem_cons.mp hb with e | hb
          · rw [e];exact Nat.le_succ _
          · have e:b=s1.heap.objs.size:=by simpa using hb
            rw [e];exact Nat.le_refl _
        exact I1.qPi hle (I1.hok.fresh hle)
      · intro i φ' st' H' bh hok hi
        obtain⟨a',zs,e2,hs',dl'⟩:=(dv.evo bh.2).tup
        cases e2
        have hlen:=dl'.length
        rw [qDo] at hi
        refine⟨fun e=>⟨zs,hs',by rw [qDo] at e;omega⟩,fun d ed=>?_⟩
        obtain⟨d',ed',rfl⟩:=qHZ ed
        obtain⟨y,ey,dy⟩:=dl'.get ed'
        refine⟨⟨zs,y,hs',ey⟩,fun y' H2 hy=>?_⟩
        obtain⟨q,v,hq1,rfl,rfl,hv⟩:=hy
        have:=hv zs hs'
        rw [ey] at this
        cases this
        refine⟨qCL bh.1 hq1,.qDK (SqT.of qAH) (.cons ?_ (.cons (dy.evo (qB4 hq1)) .nil))⟩
        rw [Nat.zero_add]
        exact D.mkInt
    | _=>exact h1.elim
end
end L3
namespace L3
open PySem PySem.Spec PyProof.Rows L2
end L3
namespace L3
open PySem PySem.Spec PyProof.Rows L2
section
variable {X:Cx}
def qJX:TSD:=fun _ _ _=>False
end
end L3
namespace L3
open PySem PySem.Spec PyProof.Rows L2
end L3
namespace HT
open PySem PySem.Spec PyProof.Rows
end HT
namespace L3
open PySem PySem.Spec PyProof.Rows L2
end L3
namespace L3
open PySem PySem.Spec PyProof.Rows L2
def qOh (items:List Dt) (ok:Sto→Prop) (tc:TBD) (te:TD) (cρ:Rho) (st:Sto) (Fin:List Dt→Sto→Prop):Prop:=∃ Inv:Nat→List Dt→Sto→Prop,Inv 0 [] st∧(∀ i ys st',i≤items.length→Inv i ys st'→ok st') ∧
  (∀ (i:Nat) d ys st',items[i]? = some d→Inv i ys st'→ys.length<sizeLine∧∃ a b,d = .tup [a,b]∧tc (some a::some b::cρ) st' fun k st1=>if k=true then te (some a::some b::cρ) st1 fun y st2=>Inv (i+1) (ys++[y]) st2 else Inv (i+1) ys st1) ∧
  ∀ ys st',Inv items.length ys st'→Fin ys st'
noncomputable def g2:TGD:=qAj 2 (qAq (qP 0) (qAq (qP 1) qB6))
theorem qKU {K:W.Frag} {φ:Nat→Addr} {N:Nat} {H:Hp} {ρ:Rho} {σ:L2.St} {a b:Option Dt} (h:DR K φ N H (a::b::ρ) σ):DR K φ N H (none::none::ρ) σ:=by
  refine⟨h.1,fun i d q=>?_⟩
  rcases i with _ | _ | i
  · cases q
  · cases q
  · exact h.2 (i+2) d q
theorem qMO {K:W.Frag} {φ1:Nat→Addr} {st1:Sto} {H1:Hp} {cρ:Rho} {σ0:L2.St} {J:It} {items:List Dt} {ok:Sto→Prop} {tc:TBD} {te:TD} {Fin:List Dt→Sto→Prop} {Fin':List V→Hp→Prop}
    (R:Rep K φ1 st1 H1) (dr:DR K φ1 st1.length H1 (none::none::cρ) σ0) (hJ:qGu K φ1 st1 H1 J items ok) (hc:qOh items ok tc te cρ st1 Fin)
    (hF:∀ ys st' φ' H' vs,Fin ys st'→Bhd K φ1 st1 H1 φ' st' H'→DL K φ' st'.length H' ys vs→Fin' vs H') :
    qME J (qIO K g2) (liftT K tc) (qAz K te) σ0 H1 Fin':=by
  obtain⟨Inv,h0,hok,step,fin⟩:=hc
  refine⟨fun i m σ vs H=>m=items.length - i∧i≤items.length∧∃ φ' st' ys,Bhd K φ1 st1 H1 φ' st' H∧DL K φ' st'.length H ys vs∧DR K φ' st'.length H (none::none::cρ) σ∧Inv i ys st',
    ⟨items.length,by simp,Nat.zero_le _,φ1,st1,[],.refl R,.nil,dr,h0⟩,?_⟩
  rintro i m σ vs H ⟨rfl,hi,φ',st',ys,bh,dl,drs,hI⟩
  obtain⟨js,jg⟩:=hJ i φ' st' H bh (hok i ys st' hi hI) hi
  by_cases hlt:i<items.length
  · have ed:items[i]? = some items[i]:=by simp [hlt]
    obtain⟨go,yl⟩:=jg _ ed
    obtain⟨hz,a,b,ed2,hstep⟩:=step i _ ys st' ed hI
    refine .inr ⟨go,by rw [← dl.length];exact hz,fun y H2 hy=>?_⟩
    obtain⟨b2,dy⟩:=yl y H2 hy
    have b12:=bh.trans b2
    refine⟨φ',st',none::none::cρ,_,(fun ρ2 st2=>ρ2=some a::some b::cρ∧st2=st'),⟨b2.1,drs.evo b2.2⟩,dy,?_,fun ρ2 st2 hp φ3 H3 σ2 b3 dr3=>?_⟩
    · rw [ed2];exact⟨rfl,rfl,rfl⟩
    obtain⟨rfl,rfl⟩:=hp
    refine⟨φ3,st2,_,_,⟨b3.1,dr3⟩,hstep,fun k st3 h3 φ4 H4 b4=>?_⟩
    cases k with
    | false =>
      rw [if_neg Bool.false_ne_true] at h3 ⊢
      exact⟨items.length - (i+1),by lia,rfl,hlt,φ4,st3,ys,b12.trans (b3.trans b4),dl.evo (b2.2.trans (b3.2.trans b4.2)),(qKU dr3).evo b4.2,h3⟩
    | true =>
      rw [if_pos rfl] at h3 ⊢
      refine⟨φ4,st3,_,_,⟨b4.1,dr3.evo b4.2⟩,h3,fun z st4 h4 φ5 H5 w b5 dz=>?_⟩
      exact⟨items.length - (i+1),by lia,rfl,hlt,φ5,st4,ys++[z],b12.trans (b3.trans (b4.trans b5)),(dl.evo (b2.2.trans (b3.2.trans (b4.2.trans b5.2)))).append (.cons dz .nil),(qKU dr3).evo (b4.2.trans b5.2),h4⟩
  · have e:i=items.length:=by lia
    subst e
    exact .inl ⟨js rfl,hF ys st' φ' H vs (fin ys st' hI) bh dl⟩
def qLA (ti:TID) (tc:TBD) (te:TD) (caps:List (Nat×Str)):TD:=fun ρ st P=>ti ρ st fun items ok st1=>qOh items ok tc te (qJT caps ρ) st1 fun ys st2=>P (.lst st2.length) (st2++[.rw ys])
section
variable {X:Cx} {pos:Pos} {ti:TID} {iter:Expr}
theorem qK1 {K:W.Frag} {tc:TBD} {te:TD} {caps:List (Nat×Str)} {σ:L2.St} {H:Hp} {Q:VK} (h:qAz K (qLA ti tc te caps) σ H Q):qL1 (qOv K ti) (qIO K g2) (liftT K tc) (qAz K te) 2 caps σ H Q:=by
  k_dat 0"r1"
  k_dat 0"r51"
  refine qMO b1.1 ?_ hJ h1 fun ys st2 φ2 H2 vs hF b2 dl p hp=>?_
  · have hd:=qOY (pre.on b1).2 caps
    refine⟨by simp [hd.1,List.replicate],fun i d q=>?_⟩
    rcases i with _ | _ | i
    · cases q
    · cases q
    · exact hd.2 i d q
  · exact hq _ _ hF _ _ _ (b1.trans (b2.trans (qCR b2.1 hp dl))) qEZ
variable {elt:Expr} {ifs:List Expr} {sc:Scope} {x y:Str} {px py tp:Pos} {kt:Nat} {tc:TBD} {te:TD}
theorem qHB (caps:List (Nat×Str)) (hc:X.calm=true) (S:qAr X.env.scope X.N caps sc) (hx:sc.names.lookup x=some .local) (hy:sc.names.lookup y=some .local) (hnd:([x,y]++caps.map (·.2)).Nodup) (hi:DI X (.Tuple [.Name x px,.Name y py] kt tp) iter ti)
    (hif:∀ C s H fp,DIf (qAi X [x,y] caps sc C s H fp) ifs tc) (he:∀ C s H fp,DE (qAi X [x,y] caps sc C s H fp) elt te)
    (hs:∀ x,foldedSetIterable iter X.env x=pure x:=by intro _;rfl):DE X (.ListComp elt [⟨.Tuple [.Name x px,.Name y py] kt tp,iter,ifs,0⟩] sc pos) (qLA ti tc te caps) :=
  PE.imp (qLn (g:=qIO X.K g2) (tc:=liftT X.K tc) (te:=qAz X.K te) [x,y] caps hc S hi (fun C s H fp=>qIF (X:=qAi X [x,y] caps sc C s H fp) 2 hc (qGq (qJB 0 hnd rfl (.inl (lookup_relabel_local hx)) (.inr (lookup_relabel_local hx))) (qGq (qJB 1 hnd rfl (.inl (lookup_relabel_local hy)) (.inr (lookup_relabel_local hy))) qMG rfl) rfl) rfl) hif he hs) fun σ H Q h=>qK1 h
end
end L3
namespace HT
open PySem PySem.Spec PyProof.Rows
end HT
namespace HT
open PySem PySem.Spec PyProof.Rows
end HT
namespace L3
open PySem PySem.Spec PyProof.Rows L2
end L3
namespace L3
open PySem PySem.Spec PyProof.Rows L2
end L3
namespace L3
open PySem PySem.Spec PyProof.Rows L2
section
variable {X:Cx} {nm:Str} {pos:Pos} {e:Expr} {es:List Expr} {t:TAD}
theorem qQm {k:Nat} {sp:RDL} {p:Pos} (F:qHO X.prog X.w X.K X.mg X.base nm k sp) (hr:qAx (k+1) X.A) (ha:DA X (e::es) t) (hg:Gl X nm) (hdb:(nm==("__debug__" : Str))=false) (he:starEach (e::es) X.env=(false,eval e X.env)::starEach es X.env) (hpl:(backTo pos (starEach es X.env)).any (·.1)=false):DE X (.Call (.Name nm p) (e::es) [] pos) (qD9 nm sp t):=by
  k_dat 0"r37"
  exact (qQ8 h3 h4 hr hg h2 h5 .nil qH7 ha hdb he hpl).imp fun σ H Q h=>qIP h1 h
end
end L3
namespace L3
open PySem PySem.Spec PyProof.Rows L2
structure qAR (K:W.Frag) (n:Str) (st:Stmt):Prop where
  ex:∃ f fd,W.nsIn K mainGlobals n=some (some (.ref f))∧Fun K n n st f fd
structure qBf (K:W.Frag) (C:Addr) (n q:Str) (st:Stmt):Prop where
  ex:∃ f fd,W.findIn K (.ref C) n=some (some (.ref f))∧W.isFn K (.ref f)=true∧Fun K n q st f fd
section
variable {K:W.Frag} {n q:Str} {st:Stmt} {f C:Addr} {oc:Value} {od an:Option Addr} {osl:Array (Option Value)} {kV doc pm cdv ct:Value}
theorem qAR.of (a:W.nsIn K mainGlobals n=some (some (.ref f))) (l:K.lookup f=some ⟨oc,od,.func (W.fnOf n n (qAh st) (qAZ st) (qK st) .none kV doc pm an cdv ct),osl⟩) (c:W.codeIn K cdv n=true) (k:W.keepIn K (.ref f)=true):qAR K n st:=⟨f,_,a,qPC l c k⟩
theorem qBf.of (a:W.findIn K (.ref C) n=some (some (.ref f))) (i:W.isFn K (.ref f)=true) (l:K.lookup f=some ⟨oc,od,.func (W.fnOf n q (qAh st) (qAZ st) (qK st) .none kV doc pm an cdv ct),osl⟩) (c:W.codeIn K cdv q=true) (k:W.keepIn K (.ref f)=true):qBf K C n q st:=⟨f,_,a,i,qPC l c k⟩
end
def Bnd (n q:Str) (st:Stmt) (ps:List Str):Prop:=∀ (kV doc pm:Value) (an:Option Addr) (cdv ct:Value) (us:List Value),us.length=ps.length→bindArgs (W.fnOf n q (qAh st) (qAZ st) (qK st) .none kV doc pm an cdv ct) ⟨us,[]⟩=pure (ps.zip us)
section
variable {P:Program} {w:World} {K:W.Frag} {mg:Str→Option Value} {base h:Heap} {n q nm:Str} {st:Stmt} {k:Nat} {sp:RDL} {ps flds:List Str} {C:Addr}
theorem qAR.ok (X:K.In h) (G:h.Ns mainGlobals mg) (a:qAR K n st) (ok:∀ {f fd},Fun K n n st f fd→qAJ P w K mg base CX0 k f fd ps (qS K sp)) (hb:Bnd n n st ps):qc P w K mg base n k sp:=by
  obtain⟨f,fd,h1,F⟩:=a.ex
  exact⟨f,fd,ps,ok F,W.mg_of X G h1,F.kp,F.binds hb⟩
theorem qAR.zero (X:K.In h) (G:h.Ns mainGlobals mg) (a:qAR K n st) (z:∀ {vs H Q E},qS K sp vs H Q E→False) (hb:Bnd n n st ps):qc P w K mg base n k sp:=by
  obtain⟨f,fd,h1,F⟩:=a.ex
  exact⟨f,fd,ps,⟨fun vs H Q E h=>(z h).elim,fun A outer s H args us vs Q E hr he hb hv h=>(z h).elim⟩,W.mg_of X G h1,F.kp,F.binds hb⟩
theorem qBf.ok (aC:W.nsIn K mainGlobals nm=some (some (.ref C))) (CC:Cls K C) (a:qBf K C n q st) (ok:∀ {f fd},Fun K n q st f fd→qAJ P w K mg base CX0 k f fd ps (qS K sp)) (hb:Bnd n q st ps):qA4 P w K mg base nm n k sp:=by
  obtain⟨f,fd,h1,h2,F⟩:=a.ex
  exact⟨C,f,fd,ps,aC,CC,⟨h1,h2,F.kp⟩,ok F,F.binds hb⟩
theorem qBf.make (X:K.In h) (G:h.Ns mainGlobals mg) (aC:W.nsIn K mainGlobals nm=some (some (.ref C))) (mk:W.makesIn K C=true) (kc:W.keepIn K (.ref C)=true) (a:qBf K C "__init__" q st) (ok:∀ {f fd},Fun K "__init__" q st f fd→qAJ P w K mg base CX0 k f fd ps (qS K sp)) (hb:Bnd "__init__" q st ps):qHO P w K mg base nm k sp:=by
  obtain⟨f,fd,h1,h2,F⟩:=a.ex
  exact⟨C,f,fd,ps,aC,W.mg_of X G aC,⟨mk,h1,h2,kc⟩,ok F,F.binds hb⟩
end
section
variable {n q:Str} {st:Stmt} {ps:List Str}
theorem unc {α:Type}:∀ {us:List α} {n:Nat},us.length=n+1→∃ a r,us=a::r∧r.length=n
  | a::r,_,h=>⟨a,r,rfl,Nat.succ.inj h⟩
theorem un1 {α:Type} {us:List α} (h:us.length=1):∃ a,us=[a]:=List.length_eq_one_iff.mp h
theorem un2 {α:Type} {us:List α} (h:us.length=2):∃ a b,us=[a,b] :=
  let ⟨a,_,z,h⟩:=unc h
  let ⟨b,q⟩:=un1 h
  ⟨a,b,by rw [z,q]⟩
theorem un3 {α:Type} {us:List α} (h:us.length=3):∃ a b c,us=[a,b,c] :=
  let ⟨a,_,z,h⟩:=unc h
  let ⟨b,c,q⟩:=un2 h
  ⟨a,b,c,by rw [z,q]⟩
theorem un4 {α:Type} {us:List α} (h:us.length=4):∃ a b c d,us=[a,b,c,d] :=
  let ⟨a,_,z,h⟩:=unc h
  let ⟨b,c,d,q⟩:=un3 h
  ⟨a,b,c,d,by rw [z,q]⟩
theorem un5 {α:Type} {us:List α} (h:us.length=5):∃ a b c d e,us=[a,b,c,d,e] :=
  let ⟨a,_,z,h⟩:=unc h
  let ⟨b,c,d,e,q⟩:=un4 h
  ⟨a,b,c,d,e,by rw [z,q]⟩
theorem un6 {α:Type} {us:List α} (h:us.length=6):∃ a b c d e f,us=[a,b,c,d,e,f] :=
  let ⟨a,_,z,h⟩:=unc h
  let ⟨b,c,d,e,f,q⟩:=un5 h
  ⟨a,b,c,d,e,f,by rw [z,q]⟩
theorem b1 (hp:ps.length=1) (h:∀ kV doc pm an cdv ct a,bindArgs (W.fnOf n q (qAh st) (qAZ st) (qK st) .none kV doc pm an cdv ct) ⟨[a],[]⟩=pure (ps.zip [a])):Bnd n q st ps:=fun _ _ _ _ _ _ us hl=>by
  rw [hp] at hl
  obtain⟨_,rfl⟩:=un1 hl
  exact h _ _ _ _ _ _ _
theorem b2 (hp:ps.length=2) (h:∀ kV doc pm an cdv ct a b,bindArgs (W.fnOf n q (qAh st) (qAZ st) (qK st) .none kV doc pm an cdv ct) ⟨[a,b],[]⟩=pure (ps.zip [a,b])):Bnd n q st ps:=fun _ _ _ _ _ _ us hl=>by
  rw [hp] at hl
  obtain⟨_,_,rfl⟩:=un2 hl
  exact h _ _ _ _ _ _ _ _
theorem b3 (hp:ps.length=3) (h:∀ kV doc pm an cdv ct a b c,bindArgs (W.fnOf n q (qAh st) (qAZ st) (qK st) .none kV doc pm an cdv ct) ⟨[a,b,c],[]⟩=pure (ps.zip [a,b,c])):Bnd n q st ps:=fun _ _ _ _ _ _ us hl=>by
  rw [hp] at hl
  obtain⟨_,_,_,rfl⟩:=un3 hl
  exact h _ _ _ _ _ _ _ _ _
theorem b4 (hp:ps.length=4) (h:∀ kV doc pm an cdv ct a b c d,bindArgs (W.fnOf n q (qAh st) (qAZ st) (qK st) .none kV doc pm an cdv ct) ⟨[a,b,c,d],[]⟩=pure (ps.zip [a,b,c,d])):Bnd n q st ps:=fun _ _ _ _ _ _ us hl=>by
  rw [hp] at hl
  obtain⟨_,_,_,_,rfl⟩:=un4 hl
  exact h _ _ _ _ _ _ _ _ _ _
theorem b5 (hp:ps.length=5) (h:∀ kV doc pm an cdv ct a b c d e,bindArgs (W.fnOf n q (qAh st) (qAZ st) (qK st) .none kV doc pm an cdv ct) ⟨[a,b,c,d,e],[]⟩=pure (ps.zip [a,b,c,d,e])):Bnd n q st ps:=fun _ _ _ _ _ _ us hl=>by
  rw [hp] at hl
  obtain⟨_,_,_,_,_,rfl⟩:=un5 hl
  exact h _ _ _ _ _ _ _ _ _ _ _
end
end L3
namespace L3
open PySem PySem.Spec PyProof.Rows L2
end L3
namespace L3
open PySem PySem.Spec PyProof.Rows L2
end L3
namespace L3
open PySem PySem.Spec PyProof.Rows L2
end L3
namespace L3
open PySem PySem.Spec PyProof.Rows L2
end L3
namespace L3
open PySem PySem.Spec PyProof.Rows L2
end L3
namespace L3
open PySem PySem.Spec PyProof.Rows L2
end L3
namespace L3
open PySem PySem.Spec PyProof.Rows L2
end L3
namespace L3
open PySem PySem.Spec PyProof.Rows L2
end L3
namespace L3
open PySem PySem.Spec PyProof.Rows L2
end L3
namespace L3
open PySem PySem.Spec PyProof.Rows L2
end L3
namespace L3
open PySem PySem.Spec PyProof.Rows L2
end L3
namespace L3
open PySem PySem.Spec PyProof.Rows L2
end L3
namespace L3
open PySem PySem.Spec PyProof.Rows L2
end L3
namespace L3
open PySem PySem.Spec PyProof.Rows L2
end L3
namespace L3
open PySem PySem.Spec PyProof.Rows L2
end L3
namespace L3
open PySem PySem.Spec PySem.Calls PyProof.Rows L2 PySem.W Builtin Builtin.ObjectAttr Builtin.Getset_descriptor
end L3
namespace L3
open PySem PySem.Spec PyProof.Rows L2
end L3
namespace L3
open PySem PySem.Spec PyProof.Rows L2
end L3
namespace KH
open PySem L2 L3
end KH
namespace K19
open PySem L2 L3 KH
end K19
namespace KH
open PySem PySem.Spec PyProof.Rows L2 L3
theorem qGl {b:Bool} {A B:Prop} (h:b=true) (a:A):if b=true then A else B:=by rw [if_pos h];exact a
theorem qJf {b:Bool} {A B:Prop} (h:b=false) (a:B):if b=true then A else B:=by rw [if_neg (by rw [h];exact Bool.false_ne_true)];exact a
end KH
namespace K01
open PySem L2 L3
noncomputable def qFN:List Str:=["halt", "put", "add", "sub", "mul", "bad", "div", "get", "set", "jump", "when", "go", "tell", "hear", "right", "back"]
noncomputable def qKq:List Dt:=qFN.map .str
noncomputable def wordOf (i:Int):Str:=qFN.getD i.toNat ""
noncomputable def outD (n:Int):Dt:=.tup [.str (wordOf (n / 4096%16)),.int (n / 512%8),.int (n / 64%8),.int (n%64)]
def qBo:RDL:=fun ds st P=>∃ n:Int,ds=[.int n]∧P (outD n) st
end K01
namespace K01
open PySem PySem.Spec PyProof.Rows L2 L3
abbrev qC4:TSD:=(tseq (qX (qAf (qA (qE qL (qD (Dt.tup qKq)) (qE qAB (qE qAk (qB 0) (qD (Dt.int 4096))) (qD (Dt.int 16)))) (qA (qE qAB (qE qAk (qB 0) (qD (Dt.int 512))) (qD (Dt.int 8))) (qA (qE qAB (qE qAk (qB 0) (qD (Dt.int 64))) (qD (Dt.int 8))) (qA (qE qAB (qB 0) (qD (Dt.int 64))) qG)))))) qJ)
theorem qPq {i:Int} (h0:0≤i) (h1:i<16):atI qKq i=some (.str (wordOf i)):=by
  obtain⟨n,rfl⟩:∃ n:Nat,i=n:=⟨i.toNat,by lia⟩
  have hn:n<16:=by lia
  have key:∀ n:Nat,n<16→qFN[n]? = some (qFN.getD n ""):=by decide +kernel
  refine qBQ ?_
  show (qFN.map Dt.str)[n]? = _
  rw [List.getElem?_map,key n hn]
  rfl
theorem qIj {ds:List Dt} {st:Sto} {Pd:VD} (h:qBo ds st Pd):qC4 (Ed Pd) (qU ["number"] ds) st:=by
  obtain⟨n,rfl,h⟩:=h
  simp only [tseq,qR,qX,qE,qB,qD,qP,qI,qA,qG,qAf,qAc,qBw,qGx,qCA,qBG,qAp,qBl,qM,qo,qCk,qJ,qAo,qD2,qCN,qBN,qBh,qBr,qBF,qAU,qBE,qAa,qd,qAs,qL,qAB,qBu,L3.qAT,qAk,qZ,qBV,qAO,qU,qCZ,qAj,qAq,qB6,qUh,List.map_cons,List.map_nil,List.length_cons,List.length_nil,List.cons_append,List.nil_append,List.replicate,List.set,List.getElem?_cons_zero,List.getElem?_cons_succ,Option.map_some,SO.items]
  refine⟨cdiv (by decide) (by decide),by decide,?_⟩
  rw [qPq (by lia) (by lia)]
  exact⟨cdiv (by decide) (by decide),by decide,cdiv (by decide) (by decide),by decide,by decide,by show 4≤sizeLine;decide,h⟩
end K01
namespace KS
end KS
namespace KS
open PySem L2 L3 KH
end KS
namespace K15
open PySem L2 L3 KH KS
end K15
namespace KS
open PySem PySem.Spec PyProof.Rows L2 L3 KH
theorem qSN {st:Sto} {m:Nat} {xs:List Dt} {v:Int} {d:Dt} {P:VD} (e:st[m]? = some (.rw xs)) (a:atI xs v=some d) (h:P d st):qL (.lst m) (.int v) st P:=by
  simp only [qL,qd,e,Option.map_some,SO.items,a]
  exact h
theorem qU7 {st:Sto} {m:Nat} {xs:List Dt} {v:Int} {d:Dt} {P:VD} (e:qd st (.lst m)=some xs) (a:atI xs v=some d) (h:P d st):qL (.lst m) (.int v) st P:=by
  simp only [qL,e,a]
  exact h
theorem all_ints (xs:List Int) (n:Nat):(xs.map Dt.int).all (okD n)=true:=by
  rw [List.all_map]
  exact List.all_eq_true.mpr fun x _=>by cases n<;>rfl
end KS
namespace K06
open PySem L2 L3
noncomputable abbrev M3:=Bool×Bool×Bool
structure GS where
  p:Int
  bs:List Int
  m:M3
  sv:Option (Int×M3)
  rs:List Int
  cs:List Int
noncomputable def msD (m:M3):Dt:=.tup [.bl m.1,.bl m.2.1,.bl m.2.2]
noncomputable def svD:Option (Int×M3)→Dt
  | none=>.non
  | some (q,m)=>.tup [.int q,msD m]
noncomputable def GS.d (g:GS):Dt:=.tup [.int g.p,.tup (g.bs.map .int),msD g.m,svD g.sv,.tup (g.rs.map .int),.tup (g.cs.map .int)]
structure GS.Ok (g:GS):Prop where
  p0:0≤g.p
  b8:g.bs.length=8
  bb:∀ v∈g.bs,0≤v∧v<65536
  c8:g.cs.length=8 * g.rs.length
  cm:g.cs.length≤128
  cb:∀ v∈g.cs,0≤v∧v<65536
  rb:∀ v∈g.rs,0≤v∧v<8
noncomputable def bx (g:GS) (i:Int):Int:=g.bs.getD i.toNat 0
noncomputable def may (r:Int) (g:GS) (a:Int):Bool:=(decide (0≤a)&&decide (a<g.cs.length))&&decide (g.rs.getD (a / 8).toNat 0 / r%2=1)
noncomputable def next (g:GS):GS:={ g with p:=(g.p+1)%65536 }
noncomputable def qDR (g:GS) (a v:Int):GS:={ next g with bs:=g.bs.set a.toNat v }
noncomputable def qEg (g:GS) (a v:Int) (k:Bool):GS:={ qDR g a v with m:=(decide (v=0),decide (32768≤v),k) }
noncomputable def qBM (w x y:Int):Int:=if w=2 then x+y else if w=3 then x - y else x * y
noncomputable abbrev Res:=Str×GS×List Int
noncomputable def qBW (r:Res):Dt:=.tup [.str r.1,r.2.1.d,.tup (r.2.2.map .int)]
noncomputable def onG (g:GS):Res:=("on",g,[])
noncomputable def qBv (h:Str) (g:GS):Res:=(h,g,[])
noncomputable def qCn (a:Int) (m:M3):Bool:=if a=0 then m.1 else if a=1 then !m.1 else if a=2 then m.2.1 else if a=3 then !m.2.1 else if a=4 then m.2.2 else if a=5 then !m.2.2 else decide (a=6)
noncomputable def leap (g:GS) (c:Int):GS:={ g with p:=(g.p+1+c - 32)%65536 }
noncomputable def qLb (g:GS) (w a x y:Int):Res:=onG (qEg g a (qBM w x y%65536) (!(decide (0≤qBM w x y)&&decide (qBM w x y<65536))))
noncomputable def qHh (g:GS) (a x y:Int):Res:=if y=0 then qBv "nought" g else onG (qEg g a (x / y) (decide (x%y≠0)))
noncomputable def qHg (g:GS) (a q:Int):Res:=if may 1 g q=true then onG (qDR g a (g.cs.getD q.toNat 0)) else qBv "closed" g
noncomputable def setG (g:GS) (v q:Int):Res:=if may 2 g q=true then onG { next g with cs:=g.cs.set q.toNat v } else qBv "closed" g
noncomputable def qCy (g:GS) (q r:Int):Res:=if 0≤q∧q<g.rs.length then onG { next g with rs:=g.rs.set q.toNat r } else qBv "closed" g
noncomputable def qD8 (g:GS):Res:=match g.sv with
  | none=>qBv "bad" g
  | some (q,m)=>onG { g with p:=q,m:=m,sv:=none }
noncomputable def doW (g:GS) (w a b c h:Int):Res :=
  if w=1 then onG (qDR g a c)
  else if w=2∨w=3∨w=4 then qLb g w a (bx g b) (bx g (c%8))
  else if w=6 then qHh g a (bx g b) (bx g (c%8))
  else if w=7 then qHg g a (bx g b+c)
  else if w=8 then setG g (bx g a) (bx g b+c)
  else if w=9 then onG (leap g c)
  else if w=10 then (if qCn a g.m=true then onG (leap g c) else onG (next g))
  else if w=11 then onG { g with p:=bx g a%65536 }
  else if w=12 then ("on",next g,[bx g a])
  else if w=13 then onG (qDR g a h)
  else if w=14 then qCy g (bx g a) (c%8)
  else if w=15 then qD8 g
  else if w=0 then qBv "halt" g else qBv "bad" g
noncomputable def doR (g:GS) (h:Int):Res:=if may 4 g g.p=true then doW g (g.cs.getD g.p.toNat 0 / 4096%16) (g.cs.getD g.p.toNat 0 / 512%8) (g.cs.getD g.p.toNat 0 / 64%8) (g.cs.getD g.p.toNat 0%64) h else qBv "closed" g
def qAI:RDL:=fun ds st P=>∃ (xs:List Dt) (k:Int) (d:Dt),ds=[.tup xs,.int k,d]∧0≤k∧k<xs.length∧xs.length≤200∧P (.tup (xs.set k.toNat d)) st
def qFq:RDL:=fun ds st P=>∃ (r:Int) (g:GS) (a:Int),ds=[.int r,g.d,.int a]∧g.Ok∧(r=1∨r=2∨r=4)∧P (.bl (may r g a)) st
def qCP:RDL:=fun ds st P=>∃ (g:GS) (q:Int),ds=[g.d,.int q]∧P ({ g with p:=q%65536 }:GS).d st
def qBO:RDL:=fun ds st P=>∃ g:GS,ds=[g.d]∧P (next g).d st
def qA5:RDL:=fun ds st P=>∃ (g:GS) (a v:Int),ds=[g.d,.int a,.int v]∧g.bs.length=8∧0≤a∧a<8∧P (qDR g a v).d st
def qB1:RDL:=fun ds st P=>∃ (g:GS) (a v:Int) (k:Bool),ds=[g.d,.int a,.int v,.bl k]∧g.bs.length=8∧0≤a∧a<8∧P (qEg g a v k).d st
def qBJ:RDL:=fun ds st P=>∃ (h:Str) (d:Dt),ds=[.str h,d]∧P (.tup [.str h,d,.tup []]) st
def qB9:RDL:=fun ds st P=>∃ d:Dt,ds=[d]∧P (.tup [.str "on",d,.tup []]) st
noncomputable def qL5 (w:Int):Str:=K01.wordOf w
def qCS:RDL:=fun ds st P=>∃ (w x y:Int),ds=[.str (qL5 w),.int x,.int y]∧(w=2∨w=3∨w=4)∧0≤x∧x<65536∧P (.int (qBM w x y)) st
def qEu:RDL:=fun ds st P=>∃ (g:GS) (w a x y:Int),ds=[g.d,.str (qL5 w),.int a,.int x,.int y]∧(w=2∨w=3∨w=4)∧g.bs.length=8∧0≤a∧a<8∧0≤x∧x<65536∧P (qBW (qLb g w a x y)) st
def qKK:RDL:=fun ds st P=>∃ (g:GS) (a x y:Int),ds=[g.d,.int a,.int x,.int y]∧g.bs.length=8∧0≤a∧a<8∧0≤y∧y<65536∧P (qBW (qHh g a x y)) st
def qJ1:RDL:=fun ds st P=>∃ (g:GS) (a q:Int),ds=[g.d,.int a,.int q]∧g.Ok∧0≤a∧a<8∧P (qBW (qHg g a q)) st
def qKL:RDL:=fun ds st P=>∃ (g:GS) (v q:Int),ds=[g.d,.int v,.int q]∧g.Ok∧P (qBW (setG g v q)) st
def qDf:RDL:=fun ds st P=>∃ (a:Int) (m:M3),ds=[.int a,msD m]∧0≤a∧a<8∧P (.bl (qCn a m)) st
def qCp:RDL:=fun ds st P=>∃ p c:Int,ds=[.int p,.int c]∧P (.int ((p+1+c - 32)%65536)) st
def qEK:RDL:=fun ds st P=>∃ (g:GS) (c:Int),ds=[g.d,.int c]∧P (qBW (onG (leap g c))) st
def qDl:RDL:=fun ds st P=>∃ (g:GS) (q r:Int),ds=[g.d,.int q,.int r]∧g.Ok∧P (qBW (qCy g q r)) st
def qGk:RDL:=fun ds st P=>∃ g:GS,ds=[g.d]∧P (qBW (qD8 g)) st
def qEp:RDL:=fun ds st P=>∃ (g:GS) (w a b c h:Int),ds=[g.d,.tup [.str (qL5 w),.int a,.int b,.int c],.int h]∧g.Ok∧0≤w∧w<16∧0≤a∧a<8∧0≤b∧b<8∧0≤c∧c<64∧P (qBW (doW g w a b c h)) st
def qGG:RDL:=fun ds st P=>∃ (g:GS) (h:Int),ds=[g.d,.int h]∧g.Ok∧P (qBW (doR g h)) st
end K06
namespace K06
open PySem PySem.Spec PyProof.Rows L2 L3
abbrev qGf:TSD:=(tseq (qX (qE L3.qAT (qE L3.qAT (qBh (qB 0) qBr (qBF (qB 1))) (qAf (qA (qB 2) qG))) (qBh (qB 0) (qBF (qE L3.qAT (qB 1) (qD (Dt.int 1)))) qBr))) qJ)
abbrev qKJ:TSD:=(tseq (qo (qBG (qM (qBD (fun i j=>decide (i≤j)) (fun i j=>decide (i<j)) (qD (Dt.int 0)) (qB 2) (qI qBE (qA (qE qL (qB 1) (qD (Dt.int 5))) qG))))) (tseq (qX (qD (Dt.bl false))) qJ) qJ) (tseq (qX (qE (qZ false) (qE qCK (qE qL (qE qL (qB 1) (qD (Dt.int 4))) (qE qAk (qB 2) (qD (Dt.int 8)))) (qB 0)) (qB 0))) qJ))
abbrev qL0:TSD:=(tseq (qX (qI qAI (qA (qB 0) (qA (qD (Dt.int 0)) (qA (qE qAB (qB 1) (qD (Dt.int 65536))) qG))))) qJ)
abbrev qKX:TSD:=(tseq (qX (qI qCP (qA (qB 0) (qA (qE L3.qAT (qE qL (qB 0) (qD (Dt.int 0))) (qD (Dt.int 1))) qG)))) qJ)
abbrev qHM:TSD:=(tseq (qX (qI qAI (qA (qI qBO (qA (qB 0) qG)) (qA (qD (Dt.int 1)) (qA (qI qAI (qA (qE qL (qB 0) (qD (Dt.int 1))) (qA (qB 1) (qA (qB 2) qG)))) qG))))) qJ)
abbrev qDX:TSD:=(tseq (qX (qI qAI (qA (qI qA5 (qA (qB 0) (qA (qB 1) (qA (qB 2) qG)))) (qA (qD (Dt.int 2)) (qA (qAf (qA (qE (qZ false) (qB 2) (qD (Dt.int 0))) (qA (qE (qAO fun i j=>decide (j≤i)) (qB 2) (qD (Dt.int 32768))) (qA (qB 3) qG)))) qG))))) qJ)
abbrev qOF:TSD:=(tseq (qX (qAf (qA (qB 0) (qA (qB 1) (qA (qAf qG) qG))))) qJ)
abbrev qUe:TSD:=(tseq (qX (qAf (qA (qD (Dt.str "on")) (qA (qB 0) (qA (qAf qG) qG))))) qJ)
abbrev qDJ:TSD:=(tseq (qo (qM (qE (qZ false) (qB 0) (qD (Dt.str "add")))) (tseq (qX (qE L3.qAT (qB 1) (qB 2))) qJ) qJ) (tseq (qo (qM (qE (qZ false) (qB 0) (qD (Dt.str "sub")))) (tseq (qX (qE L3.qC2 (qB 1) (qB 2))) qJ) qJ) (tseq (qX (qE qBu (qB 1) (qB 2))) qJ)))
abbrev qHW:TSD:=(tseq (qR (qI qCS (qA (qB 1) (qA (qB 3) (qA (qB 4) qG)))) (qP 5)) (tseq (qX (qI qB9 (qA (qI qB1 (qA (qB 0) (qA (qB 2) (qA (qE qAB (qB 5) (qD (Dt.int 65536))) (qA (qCA (qBD (fun i j=>decide (i≤j)) (fun i j=>decide (i<j)) (qD (Dt.int 0)) (qB 5) (qD (Dt.int 65536)))) qG))))) qG))) qJ))
abbrev qKV:TSD:=(tseq (qo (qM (qE (qZ false) (qB 3) (qD (Dt.int 0)))) (tseq (qX (qI qBJ (qA (qD (Dt.str "nought")) (qA (qB 0) qG)))) qJ) qJ) (tseq (qX (qI qB9 (qA (qI qB1 (qA (qB 0) (qA (qB 1) (qA (qE qAk (qB 2) (qB 3)) (qA (qE (qZ true) (qE qAB (qB 2) (qB 3)) (qD (Dt.int 0))) qG))))) qG))) qJ))
abbrev qKH:TSD:=(tseq (qo (qBG (qM (qI qFq (qA (qD (Dt.int 1)) (qA (qB 0) (qA (qB 2) qG)))))) (tseq (qX (qI qBJ (qA (qD (Dt.str "closed")) (qA (qB 0) qG)))) qJ) qJ) (tseq (qX (qI qB9 (qA (qI qA5 (qA (qB 0) (qA (qB 1) (qA (qE qL (qE qL (qB 0) (qD (Dt.int 5))) (qB 2)) qG)))) qG))) qJ))
abbrev qJ8:TSD:=(tseq (qo (qBG (qM (qI qFq (qA (qD (Dt.int 2)) (qA (qB 0) (qA (qB 2) qG)))))) (tseq (qX (qI qBJ (qA (qD (Dt.str "closed")) (qA (qB 0) qG)))) qJ) qJ) (tseq (qX (qI qB9 (qA (qI qAI (qA (qI qBO (qA (qB 0) qG)) (qA (qD (Dt.int 5)) (qA (qI qAI (qA (qE qL (qB 0) (qD (Dt.int 5))) (qA (qB 2) (qA (qB 1) qG)))) qG)))) qG))) qJ))
abbrev qIN:TSD:=(tseq (qo (qM (qE (qAO fun i j=>decide (j≤i)) (qB 0) (qD (Dt.int 6)))) (tseq (qX (qE (qZ false) (qB 0) (qD (Dt.int 6)))) qJ) qJ) (tseq (qX (qE (qZ false) (qE qL (qB 1) (qE qAk (qB 0) (qD (Dt.int 2)))) (qE (qZ false) (qE qAB (qB 0) (qD (Dt.int 2))) (qD (Dt.int 0))))) qJ))
abbrev qE9:TSD:=(tseq (qX (qE qAB (qE L3.qC2 (qE L3.qAT (qE L3.qAT (qB 0) (qD (Dt.int 1))) (qB 1)) (qD (Dt.int 32))) (qD (Dt.int 65536)))) qJ)
abbrev qH0:TSD:=(tseq (qX (qI qB9 (qA (qI qCP (qA (qB 0) (qA (qI qCp (qA (qE qL (qB 0) (qD (Dt.int 0))) (qA (qB 1) qG))) qG))) qG))) qJ)
abbrev qG0:TSD:=(tseq (qo (qBG (qM (qBD (fun i j=>decide (i≤j)) (fun i j=>decide (i<j)) (qD (Dt.int 0)) (qB 1) (qI qBE (qA (qE qL (qB 0) (qD (Dt.int 4))) qG))))) (tseq (qX (qI qBJ (qA (qD (Dt.str "closed")) (qA (qB 0) qG)))) qJ) qJ) (tseq (qX (qI qB9 (qA (qI qAI (qA (qI qBO (qA (qB 0) qG)) (qA (qD (Dt.int 4)) (qA (qI qAI (qA (qE qL (qB 0) (qD (Dt.int 4))) (qA (qB 1) (qA (qB 2) qG)))) qG)))) qG))) qJ))
abbrev qIB:TSD:=(tseq (qR (qE qL (qB 0) (qD (Dt.int 3))) (qP 1)) (tseq (qo (qM (qE (qBV false) (qB 1) (qD Dt.non))) (tseq (qX (qI qBJ (qA (qD (Dt.str "bad")) (qA (qB 0) qG)))) qJ) qJ) (tseq (qX (qI qB9 (qA (qAf (qA (qE qL (qB 1) (qD (Dt.int 0))) (qA (qE qL (qB 0) (qD (Dt.int 1))) (qA (qE qL (qB 1) (qD (Dt.int 1))) (qA (qD Dt.non) (qA (qE qL (qB 0) (qD (Dt.int 4))) (qA (qE qL (qB 0) (qD (Dt.int 5))) qG))))))) qG))) qJ)))
abbrev qH4:TSD:=(tseq (qR (qE qL (qB 1) (qD (Dt.int 0))) (qP 3)) (tseq (qR (qE qL (qB 1) (qD (Dt.int 1))) (qP 4)) (tseq (qR (qE qL (qB 1) (qD (Dt.int 2))) (qP 5)) (tseq (qR (qE qL (qB 1) (qD (Dt.int 3))) (qP 6)) (tseq (qR (qE qL (qB 0) (qD (Dt.int 1))) (qP 7)) (tseq (qo (qM (qE (qZ false) (qB 3) (qD (Dt.str "put")))) (tseq (qX (qI qB9 (qA (qI qA5 (qA (qB 0) (qA (qB 4) (qA (qB 6) qG)))) qG))) qJ) qJ) (tseq (qo (qM (qE (qCJ false) (qB 3) (qAf (qA (qD (Dt.str "add")) (qA (qD (Dt.str "sub")) (qA (qD (Dt.str "mul")) qG)))))) (tseq (qX (qI qEu (qA (qB 0) (qA (qB 3) (qA (qB 4) (qA (qE qL (qB 7) (qB 5)) (qA (qE qL (qB 7) (qE qAB (qB 6) (qD (Dt.int 8)))) qG))))))) qJ) qJ) (tseq (qo (qM (qE (qZ false) (qB 3) (qD (Dt.str "div")))) (tseq (qX (qI qKK (qA (qB 0) (qA (qB 4) (qA (qE qL (qB 7) (qB 5)) (qA (qE qL (qB 7) (qE qAB (qB 6) (qD (Dt.int 8)))) qG)))))) qJ) qJ) (tseq (qo (qM (qE (qZ false) (qB 3) (qD (Dt.str "get")))) (tseq (qX (qI qJ1 (qA (qB 0) (qA (qB 4) (qA (qE L3.qAT (qE qL (qB 7) (qB 5)) (qB 6)) qG))))) qJ) qJ) (tseq (qo (qM (qE (qZ false) (qB 3) (qD (Dt.str "set")))) (tseq (qX (qI qKL (qA (qB 0) (qA (qE qL (qB 7) (qB 4)) (qA (qE L3.qAT (qE qL (qB 7) (qB 5)) (qB 6)) qG))))) qJ) qJ) (tseq (qo (qM (qE (qZ false) (qB 3) (qD (Dt.str "jump")))) (tseq (qX (qI qEK (qA (qB 0) (qA (qB 6) qG)))) qJ) qJ) (tseq (qo (qM (qE (qZ false) (qB 3) (qD (Dt.str "when")))) (tseq (qX (qCk (qM (qI qDf (qA (qB 4) (qA (qE qL (qB 0) (qD (Dt.int 2))) qG)))) (qI qEK (qA (qB 0) (qA (qB 6) qG))) (qI qB9 (qA (qI qBO (qA (qB 0) qG)) qG)))) qJ) qJ) (tseq (qo (qM (qE (qZ false) (qB 3) (qD (Dt.str "go")))) (tseq (qX (qI qB9 (qA (qI qCP (qA (qB 0) (qA (qE qL (qB 7) (qB 4)) qG))) qG))) qJ) qJ) (tseq (qo (qM (qE (qZ false) (qB 3) (qD (Dt.str "tell")))) (tseq (qX (qAf (qA (qD (Dt.str "on")) (qA (qI qBO (qA (qB 0) qG)) (qA (qAf (qA (qE qL (qB 7) (qB 4)) qG)) qG))))) qJ) qJ) (tseq (qo (qM (qE (qZ false) (qB 3) (qD (Dt.str "hear")))) (tseq (qX (qI qB9 (qA (qI qA5 (qA (qB 0) (qA (qB 4) (qA (qB 2) qG)))) qG))) qJ) qJ) (tseq (qo (qM (qE (qZ false) (qB 3) (qD (Dt.str "right")))) (tseq (qX (qI qDl (qA (qB 0) (qA (qE qL (qB 7) (qB 4)) (qA (qE qAB (qB 6) (qD (Dt.int 8))) qG))))) qJ) qJ) (tseq (qo (qM (qE (qZ false) (qB 3) (qD (Dt.str "back")))) (tseq (qX (qI qGk (qA (qB 0) qG))) qJ) qJ) (tseq (qX (qI qBJ (qA (qB 3) (qA (qB 0) qG)))) qJ))))))))))))))))))
abbrev qKe:TSD:=(tseq (qR (qE qL (qB 0) (qD (Dt.int 0))) (qP 2)) (tseq (qo (qBG (qM (qI qFq (qA (qD (Dt.int 4)) (qA (qB 0) (qA (qB 2) qG)))))) (tseq (qX (qI qBJ (qA (qD (Dt.str "closed")) (qA (qB 0) qG)))) qJ) qJ) (tseq (qX (qI qEp (qA (qB 0) (qA (qI K01.qBo (qA (qE qL (qE qL (qB 0) (qD (Dt.int 5))) (qB 2)) qG)) (qA (qB 1) qG))))) qJ)))
section
variable {a b c d e f:Dt}
theorem at3:atI [a,b,c,d,e,f] 3=some d:=rfl
theorem at4:atI [a,b,c,d,e,f] 4=some e:=rfl
theorem at5:atI [a,b,c,d,e,f] 5=some f:=rfl
end
theorem qGl {b:Bool} {A B:Prop} (hb:b=true) (h:A):if b=true then A else B:=by subst hb;exact qCD h
theorem qJ7 {b:Bool} {A B:Prop} (hb:b=false) (h:B):if b=true then A else B:=by subst hb;exact qBK h
theorem qGE {xs:List Int} {n:Nat} (h:n<xs.length):atI (xs.map Dt.int) (n:Int)=some (.int xs[n]):=qBQ (by simp [h])
theorem qp {g:GS} (ok:g.Ok) {i:Int} (h0:0≤i) (h1:i<8):atI (g.bs.map Dt.int) i=some (.int (bx g i)):=by
  have hi:i.toNat<g.bs.length:=by rw [ok.b8];lia
  have:=qGE hi
  rw [show ((i.toNat:Nat):Int)=i by lia] at this
  unfold bx
  rw [this]
  simp [List.getD,hi]
theorem qw {g:GS} (ok:g.Ok) {i:Int} (h0:0≤i) (h1:i<8):0≤bx g i∧bx g i<65536:=by
  have hi:i.toNat<g.bs.length:=by rw [ok.b8];lia
  unfold bx
  have e:g.bs.getD i.toNat 0=g.bs[i.toNat]:=by simp [List.getD,hi]
  rw [e]
  exact ok.bb _ (List.getElem_mem hi)
theorem qLH {r:Int} {g:GS} {a:Int} (h:may r g a=true):0≤a∧a<g.cs.length:=by
  unfold may at h
  rw [Bool.and_eq_true,Bool.and_eq_true] at h
  exact⟨of_decide_eq_true h.1.1,of_decide_eq_true h.1.2⟩
theorem qRK {v r:Int} (h0:0≤v) (h1:v<8) (hr:r=1∨r=2∨r=4):eqD 8 (.int (Builtin.bitAnd v r)) (.int r)=decide (v / r%2=1):=by
  show (Builtin.bitAnd v r==r)=_
  rcases (show v=0∨v=1∨v=2∨v=3∨v=4∨v=5∨v=6∨v=7 by lia) with rfl | rfl | rfl | rfl | rfl | rfl | rfl | rfl<;>rcases hr with rfl | rfl | rfl<;>decide +kernel
theorem qJj {ds:List Dt} {st:Sto} {Pd:VD} (h:qAI ds st Pd):qGf (Ed Pd) (qU ["parts", "k", "part"] ds) st:=by
  obtain⟨xs,k,d,rfl,h0,h1,h2,h⟩:=h
  k_dat 0"r72"
  have e1:HT.sIx xs.length 0 none=0:=rfl
  have e2:HT.sIx xs.length xs.length (some k)=k.toNat:=by unfold HT.sIx;dsimp only;rw [if_neg (by lia)];lia
  have e3:HT.sIx xs.length 0 (some (k+1))=k.toNat+1:=by unfold HT.sIx;dsimp only;rw [if_neg (by lia)];lia
  have e4:HT.sIx xs.length xs.length none=xs.length:=rfl
  have c1:L3.cutD xs none (some k)=xs.take k.toNat:=by unfold L3.cutD;rw [e1,e2];simp
  have c2:L3.cutD xs (some (k+1)) none=xs.drop (k.toNat+1):=by
    unfold L3.cutD;rw [e3,e4];exact List.take_of_length_le (by rw [List.length_drop];lia)
  rw [c1,c2,e2,e3]
  have l1:(xs.take k.toNat).length=k.toNat:=by rw [List.length_take];lia
  have l2:(xs.drop (k.toNat+1)).length=xs.length - (k.toNat+1):=by rw [List.length_drop]
  have es:xs.take k.toNat++[d]++xs.drop (k.toNat+1)=xs.set k.toNat d:=by
    rw [List.set_eq_take_append_cons_drop,if_pos (by lia),List.append_assoc];rfl
  refine⟨fun z=>?_,by show 1≤sizeLine;decide,?_,fun z=>?_,?_,?_⟩
  · have:=z.2;lia
  · rw [l1];exact Nat.le_of_lt (small (by lia))
  · exact absurd z.1 (Nat.succ_ne_zero _)
  · rw [List.length_append,l1,l2]
    exact Nat.le_of_lt (small (by simp;lia))
  · rw [es];exact h
theorem qNA {ds:List Dt} {st:Sto} {Pd:VD} (h:qFq ds st Pd):qKJ (Ed Pd) (qU ["right", "state", "address"] ds) st:=by
  obtain⟨r,g,a,rfl,ok,hr,h⟩:=h
  k_dat 0"r38"
  simp only [at5,at4]
  unfold may at h
  rw [List.length_map]
  by_cases h0:0≤a
  · rw [decide_eq_true h0,Bool.true_and] at h
    refine qGl (decide_eq_true h0) ?_
    by_cases h1:a<(g.cs.length:Int)
    · rw [decide_eq_true h1,Bool.true_and] at h
      refine qJ7 (by rw [decide_eq_true h1];rfl) ⟨cdiv (by decide) (by decide),?_⟩
      have hi:(a / 8).toNat<g.rs.length:=by have:=ok.c8;lia
      rw [show (a / 8:Int)=(((a / 8).toNat:Nat):Int) by lia,qGE hi]
      refine⟨rfl,rfl,?_⟩
      have hv:=ok.rb _ (List.getElem_mem hi)
      have e:g.rs.getD (a / 8).toNat 0=g.rs[(a / 8).toNat]:=by simp [List.getD,hi]
      rw [e] at h
      rw [qBA,show eqD 8 (.int (Builtin.bitAnd g.rs[(a / 8).toNat] r)) (.int r)=decide (g.rs[(a / 8).toNat] / r%2=1) from qRK hv.1 hv.2 hr]
      exact h
    · rw [decide_eq_false h1,Bool.false_and] at h
      exact qGl (by rw [decide_eq_false h1];rfl) h
  · rw [decide_eq_false h0,Bool.false_and,Bool.false_and] at h
    exact qJ7 (decide_eq_false h0) (qCD h)
theorem qOE {ds:List Dt} {st:Sto} {Pd:VD} (h:qCP ds st Pd):qL0 (Ed Pd) (qU ["state", "place"] ds) st:=by
  obtain⟨g,q,rfl,h⟩:=h
  exact⟨by decide,_,0,.int (q%65536),rfl,by decide,by show (0:Int)<6;decide,by show 6≤200;decide,h⟩
theorem qNI {ds:List Dt} {st:Sto} {Pd:VD} (h:qBO ds st Pd):qKX (Ed Pd) (qU ["state"] ds) st:=by
  obtain⟨g,rfl,h⟩:=h
  exact⟨g,g.p+1,rfl,h⟩
theorem qJv {ds:List Dt} {st:Sto} {Pd:VD} (h:qA5 ds st Pd):qHM (Ed Pd) (qU ["state", "a", "number"] ds) st:=by
  obtain⟨g,a,v,rfl,h8,h0,h1,h⟩:=h
  refine⟨g,rfl,?_⟩
  refine⟨g.bs.map .int,a,.int v,rfl,h0,by rw [List.length_map,h8];exact h1,by rw [List.length_map,h8];decide,?_⟩
  refine⟨_,1,_,rfl,by decide,by show (1:Int)<6;decide,by show 6≤200;decide,?_⟩
  rw [← List.map_set]
  exact h
theorem qFv {ds:List Dt} {st:Sto} {Pd:VD} (h:qB1 ds st Pd):qDX (Ed Pd) (qU ["state", "a", "number", "carry"] ds) st:=by
  obtain⟨g,a,v,k,rfl,h8,h0,h1,h⟩:=h
  refine⟨g,a,v,rfl,h8,h0,h1,?_⟩
  refine⟨rfl,rfl,by show 3≤sizeLine;decide,?_⟩
  have e:(eqD 8 (.int v) (.int 0) != false)=decide (v=0):=by rw [qBA];rfl
  show qAI [(qDR g a v).d,.int 2,.tup [.bl (eqD 8 (.int v) (.int 0) != false),.bl (decide (32768≤v)),.bl k]] st Pd
  rw [e]
  refine⟨_,2,_,rfl,by decide,by show (2:Int)<6;decide,by show 6≤200;decide,?_⟩
  exact h
theorem qP9 {ds:List Dt} {st:Sto} {Pd:VD} (h:qBJ ds st Pd):qOF (Ed Pd) (qU ["how", "state"] ds) st:=by
  obtain⟨w,d,rfl,h⟩:=h
  exact⟨by show 0≤sizeLine;exact Nat.zero_le _,by show 3≤sizeLine;decide,h⟩
theorem qUC {ds:List Dt} {st:Sto} {Pd:VD} (h:qB9 ds st Pd):qUe (Ed Pd) (qU ["state"] ds) st:=by
  obtain⟨d,rfl,h⟩:=h
  exact⟨by show 0≤sizeLine;exact Nat.zero_le _,by show 3≤sizeLine;decide,h⟩
theorem qFL {ds:List Dt} {st:Sto} {Pd:VD} (h:qCS ds st Pd):qDJ (Ed Pd) (qU ["word", "x", "y"] ds) st:=by
  obtain⟨w,x,y,rfl,hw,h0,h1,h⟩:=h
  rcases hw with rfl | rfl | rfl
  · exact⟨rfl,rfl,qCD h⟩
  · exact⟨rfl,rfl,qBK ⟨rfl,rfl,qCD h⟩⟩
  · exact⟨rfl,rfl,qBK ⟨rfl,rfl,qBK ⟨.inl ⟨by lia,by lia⟩,h⟩⟩⟩
theorem qKj {ds:List Dt} {st:Sto} {Pd:VD} (h:qEu ds st Pd):qHW (Ed Pd) (qU ["state", "word", "a", "x", "y", "plain"] ds) st:=by
  obtain⟨g,w,a,x,y,rfl,hw,h8,h0,h1,hx0,hx1,h⟩:=h
  refine⟨w,x,y,rfl,hw,hx0,hx1,?_⟩
  refine⟨by decide,?_⟩
  have fin:qB1 [g.d,.int a,.int (qBM w x y%65536),.bl (!(decide (0≤qBM w x y)&&decide (qBM w x y<65536)))] st (fun d st=>qB9 [d] st Pd):=⟨g,a,_,_,rfl,h8,h0,h1,_,rfl,h⟩
  k_dat 0"r72"
  by_cases c0:0≤qBM w x y
  · rw [decide_eq_true c0,Bool.true_and] at fin
    exact qGl (decide_eq_true c0) fin
  · rw [decide_eq_false c0,Bool.false_and] at fin
    exact qJ7 (decide_eq_false c0) fin
theorem qM9 {ds:List Dt} {st:Sto} {Pd:VD} (h:qKK ds st Pd):qKV (Ed Pd) (qU ["state", "a", "x", "y"] ds) st:=by
  obtain⟨g,a,x,y,rfl,h8,h0,h1,hy0,hy1,h⟩:=h
  unfold qHh at h
  refine⟨rfl,rfl,?_⟩
  by_cases c:y=0
  · subst c
    rw [if_pos rfl] at h
    exact qCD ⟨_,_,rfl,h⟩
  · rw [if_neg c] at h
    have e:(eqD 8 (.int y) (.int 0) != false)=false:=by
      rw [qBA];exact beq_eq_false_iff_ne.mpr c
    rw [e]
    refine qBK ⟨⟨by lia,by lia⟩,by lia,rfl,rfl,?_⟩
    have e2:(eqD 8 (.int (x%y)) (.int 0) != true)=decide (x%y≠0):=by
      rw [qDw]
      show (!((x%y)==0))=_
      by_cases q:x%y=0
      · simp [q]
      · simp [q]
    rw [e2]
    exact⟨g,a,_,_,rfl,h8,h0,h1,_,rfl,h⟩
theorem qNG {ds:List Dt} {st:Sto} {Pd:VD} (h:qJ1 ds st Pd):qKH (Ed Pd) (qU ["state", "a", "address"] ds) st:=by
  obtain⟨g,a,q,rfl,ok,h0,h1,h⟩:=h
  unfold qHg at h
  refine⟨1,g,q,rfl,ok,.inl rfl,?_⟩
  cases hm:may 1 g q with
  | false =>
    rw [hm,if_neg Bool.false_ne_true] at h
    exact qCD ⟨_,_,rfl,h⟩
  | true =>
    rw [hm,if_pos rfl] at h
    refine qBK ?_
    obtain⟨q0,q1⟩:=qLH hm
    k_dat 0"r38"
    simp only [at5]
    have hi:q.toNat<g.cs.length:=by lia
    rw [show q=((q.toNat:Nat):Int) by lia,qGE hi]
    refine⟨g,a,_,rfl,ok.b8,h0,h1,_,rfl,?_⟩
    have e:g.cs.getD q.toNat 0=g.cs[q.toNat]:=by simp [List.getD,hi]
    rw [e] at h
    exact h
theorem qMe {ds:List Dt} {st:Sto} {Pd:VD} (h:qKL ds st Pd):qJ8 (Ed Pd) (qU ["state", "number", "address"] ds) st:=by
  obtain⟨g,v,q,rfl,ok,h⟩:=h
  unfold setG at h
  refine⟨2,g,q,rfl,ok,.inr (.inl rfl),?_⟩
  cases hm:may 2 g q with
  | false =>
    rw [hm,if_neg Bool.false_ne_true] at h
    exact qCD ⟨_,_,rfl,h⟩
  | true =>
    rw [hm,if_pos rfl] at h
    refine qBK ?_
    obtain⟨q0,q1⟩:=qLH hm
    have:=ok.cm
    refine⟨g,rfl,?_⟩
    refine⟨g.cs.map .int,q,.int v,rfl,q0,by rw [List.length_map];exact q1,by rw [List.length_map];lia,?_⟩
    refine⟨_,5,_,rfl,by decide,by show (5:Int)<6;decide,by show 6≤200;decide,?_⟩
    rw [← List.map_set]
    exact⟨_,rfl,h⟩
theorem qKt {ds:List Dt} {st:Sto} {Pd:VD} (h:qDf ds st Pd):qIN (Ed Pd) (qU ["a", "marks"] ds) st:=by
  obtain⟨a,m,rfl,h0,h1,h⟩:=h
  obtain⟨m0,m1,m2⟩:=m
  rcases (show a=0∨a=1∨a=2∨a=3∨a=4∨a=5∨a=6∨a=7 by lia) with rfl | rfl | rfl | rfl | rfl | rfl | rfl | rfl
  iterate 6
    · k_dat 0"r73"
      rw [if_neg (by decide)]
      refine⟨cdiv (by decide) (by decide),by decide,rfl,rfl,rfl,rfl,?_⟩
      cases m0<;>cases m1<;>cases m2<;>exact h
  iterate 2
    · k_dat 0"r73"
      rw [if_pos (by decide)]
      exact⟨rfl,rfl,h⟩
theorem qHm {ds:List Dt} {st:Sto} {Pd:VD} (h:qCp ds st Pd):qE9 (Ed Pd) (qU ["place", "c"] ds) st:=by
  obtain⟨p,c,rfl,h⟩:=h
  exact⟨by decide,h⟩
theorem qLR {ds:List Dt} {st:Sto} {Pd:VD} (h:qEK ds st Pd):qH0 (Ed Pd) (qU ["state", "c"] ds) st:=by
  obtain⟨g,c,rfl,h⟩:=h
  refine⟨g.p,c,rfl,g,(g.p+1+c - 32)%65536,rfl,_,rfl,?_⟩
  rw [show (g.p+1+c - 32)%65536%65536=(g.p+1+c - 32)%65536 by lia]
  exact h
theorem qJ6 {ds:List Dt} {st:Sto} {Pd:VD} (h:qDl ds st Pd):qG0 (Ed Pd) (qU ["state", "page", "rights"] ds) st:=by
  obtain⟨g,q,r,rfl,ok,h⟩:=h
  unfold qCy at h
  k_dat 0"r38"
  simp only [at4]
  rw [List.length_map]
  by_cases h0:0≤q
  · refine qGl (decide_eq_true h0) ?_
    by_cases h1:q<(g.rs.length:Int)
    · rw [if_pos ⟨h0,h1⟩] at h
      have:=ok.c8;have:=ok.cm
      refine qJ7 (by rw [decide_eq_true h1];rfl) ⟨g,rfl,?_⟩
      refine⟨g.rs.map .int,q,.int r,rfl,h0,by rw [List.length_map];exact h1,by rw [List.length_map];lia,?_⟩
      refine⟨_,4,_,rfl,by decide,by show (4:Int)<6;decide,by show 6≤200;decide,?_⟩
      rw [← List.map_set]
      exact⟨_,rfl,h⟩
    · rw [if_neg (fun z=>h1 z.2)] at h
      exact qGl (by rw [decide_eq_false h1];rfl) ⟨_,_,rfl,h⟩
  · rw [if_neg (fun z=>h0 z.1)] at h
    exact qJ7 (decide_eq_false h0) (qCD ⟨_,_,rfl,h⟩)
theorem qLO {ds:List Dt} {st:Sto} {Pd:VD} (h:qGk ds st Pd):qIB (Ed Pd) (qU ["state", "saved"] ds) st:=by
  obtain⟨g,rfl,h⟩:=h
  obtain⟨p,bs,m,sv,rs,cs⟩:=g
  cases sv with
  | none =>
    k_dat 0"r74"
    rw [if_pos (by decide)]
    exact⟨_,_,rfl,h⟩
  | some z =>
    obtain⟨q,mm⟩:=z
    k_dat 0"r74"
    rw [if_neg (by decide)]
    exact⟨by show 6≤sizeLine;decide,_,rfl,h⟩
theorem qNP {ds:List Dt} {st:Sto} {Pd:VD} (h:qGG ds st Pd):qKe (Ed Pd) (qU ["state", "heard", "place"] ds) st:=by
  obtain⟨g,x,rfl,ok,h⟩:=h
  unfold doR at h
  refine⟨4,g,g.p,rfl,ok,.inr (.inr rfl),?_⟩
  cases hm:may 4 g g.p with
  | false =>
    rw [hm,if_neg Bool.false_ne_true] at h
    exact qCD ⟨_,_,rfl,h⟩
  | true =>
    rw [hm,if_pos rfl] at h
    refine qBK ?_
    obtain⟨q0,q1⟩:=qLH hm
    k_dat 0"r38"
    simp only [at5]
    have hi:g.p.toNat<g.cs.length:=by lia
    have e:g.cs.getD g.p.toNat 0=g.cs[g.p.toNat]:=by simp [List.getD,hi]
    rw [e] at h
    have ea:atI (g.cs.map Dt.int) g.p=some (.int g.cs[g.p.toNat]):=by
      have:=qGE hi
      rw [show ((g.p.toNat:Nat):Int)=g.p by lia] at this
      exact this
    rw [ea]
    refine⟨_,rfl,?_⟩
    exact⟨g,_,_,_,_,x,rfl,ok,by lia,by lia,by lia,by lia,by lia,by lia,by lia,by lia,h⟩
end K06
namespace K06
open PySem PySem.Spec PyProof.Rows L2 L3
theorem qO {s t:Str} {A R:TSD} {E:qA0} {ρ:Rho} {st:Sto} (h3:ρ[3]? = some (some (.str s))) (hne:(s==t)=false) (h:R E ρ st):tseq (qo (qM (qE (qZ false) (qB 3) (qD (.str t)))) A qJ) R E ρ st:=by
  simp only [tseq,qo,qM,qE,qB,h3,qD,qZ]
  refine⟨rfl,rfl,?_⟩
  have e:eqD 8 (.str s) (.str t)=(s==t):=rfl
  rw [e,hne]
  exact qBK h
theorem step_eq {s t:Str} {A R:TSD} {E:qA0} {ρ:Rho} {st:Sto} (h3:ρ[3]? = some (some (.str s))) (hne:(s==t)=true) (h:A {E with nx:=R E} ρ st):tseq (qo (qM (qE (qZ false) (qB 3) (qD (.str t)))) A qJ) R E ρ st:=by
  simp only [tseq,qo,qM,qE,qB,h3,qD,qZ]
  refine⟨rfl,rfl,?_⟩
  have e:eqD 8 (.str s) (.str t)=(s==t):=rfl
  rw [e,hne]
  exact qCD h
theorem qA8 {s t u v:Str} {A R:TSD} {E:qA0} {ρ:Rho} {st:Sto} {k:Bool} (h3:ρ[3]? = some (some (.str s))) (hne:(t==s || (u==s || (v==s || false)))=k) (h:if k=true then A {E with nx:=R E} ρ st else R E ρ st) :
    tseq (qo (qM (qE (qCJ false) (qB 3) (qAf (qA (qD (.str t)) (qA (qD (.str u)) (qA (qD (.str v)) qG)))))) A qJ) R E ρ st:=by
  simp only [tseq,qo,qM,qE,qB,h3,qD,qAf,qA,qG,qCJ,qd]
  refine⟨by show 3≤sizeLine;decide,rfl,rfl,?_⟩
  have e:([Dt.str t,.str u,.str v].any (fun z=>eqD 0 z (.str s)) != false)=k:=by rw [qBA,← hne];rfl
  rw [e]
  exact h
noncomputable def RW8 (g:GS) (s:Str) (a b c x:Int):Rho:=[some g.d,some (.tup [.str s,.int a,.int b,.int c]),some (.int x),some (.str s),some (.int a),some (.int b),some (.int c),some (.tup (g.bs.map .int))]
abbrev qAw:TSD:=(tseq (qo (qM (qE (qZ false) (qB 3) (qD (Dt.str "put")))) (tseq (qX (qI qB9 (qA (qI qA5 (qA (qB 0) (qA (qB 4) (qA (qB 6) qG)))) qG))) qJ) qJ) (tseq (qo (qM (qE (qCJ false) (qB 3) (qAf (qA (qD (Dt.str "add")) (qA (qD (Dt.str "sub")) (qA (qD (Dt.str "mul")) qG)))))) (tseq (qX (qI qEu (qA (qB 0) (qA (qB 3) (qA (qB 4) (qA (qE qL (qB 7) (qB 5)) (qA (qE qL (qB 7) (qE qAB (qB 6) (qD (Dt.int 8)))) qG))))))) qJ) qJ) (tseq (qo (qM (qE (qZ false) (qB 3) (qD (Dt.str "div")))) (tseq (qX (qI qKK (qA (qB 0) (qA (qB 4) (qA (qE qL (qB 7) (qB 5)) (qA (qE qL (qB 7) (qE qAB (qB 6) (qD (Dt.int 8)))) qG)))))) qJ) qJ) (tseq (qo (qM (qE (qZ false) (qB 3) (qD (Dt.str "get")))) (tseq (qX (qI qJ1 (qA (qB 0) (qA (qB 4) (qA (qE L3.qAT (qE qL (qB 7) (qB 5)) (qB 6)) qG))))) qJ) qJ) (tseq (qo (qM (qE (qZ false) (qB 3) (qD (Dt.str "set")))) (tseq (qX (qI qKL (qA (qB 0) (qA (qE qL (qB 7) (qB 4)) (qA (qE L3.qAT (qE qL (qB 7) (qB 5)) (qB 6)) qG))))) qJ) qJ) (tseq (qo (qM (qE (qZ false) (qB 3) (qD (Dt.str "jump")))) (tseq (qX (qI qEK (qA (qB 0) (qA (qB 6) qG)))) qJ) qJ) (tseq (qo (qM (qE (qZ false) (qB 3) (qD (Dt.str "when")))) (tseq (qX (qCk (qM (qI qDf (qA (qB 4) (qA (qE qL (qB 0) (qD (Dt.int 2))) qG)))) (qI qEK (qA (qB 0) (qA (qB 6) qG))) (qI qB9 (qA (qI qBO (qA (qB 0) qG)) qG)))) qJ) qJ) (tseq (qo (qM (qE (qZ false) (qB 3) (qD (Dt.str "go")))) (tseq (qX (qI qB9 (qA (qI qCP (qA (qB 0) (qA (qE qL (qB 7) (qB 4)) qG))) qG))) qJ) qJ) (tseq (qo (qM (qE (qZ false) (qB 3) (qD (Dt.str "tell")))) (tseq (qX (qAf (qA (qD (Dt.str "on")) (qA (qI qBO (qA (qB 0) qG)) (qA (qAf (qA (qE qL (qB 7) (qB 4)) qG)) qG))))) qJ) qJ) (tseq (qo (qM (qE (qZ false) (qB 3) (qD (Dt.str "hear")))) (tseq (qX (qI qB9 (qA (qI qA5 (qA (qB 0) (qA (qB 4) (qA (qB 2) qG)))) qG))) qJ) qJ) (tseq (qo (qM (qE (qZ false) (qB 3) (qD (Dt.str "right")))) (tseq (qX (qI qDl (qA (qB 0) (qA (qE qL (qB 7) (qB 4)) (qA (qE qAB (qB 6) (qD (Dt.int 8))) qG))))) qJ) qJ) (tseq (qo (qM (qE (qZ false) (qB 3) (qD (Dt.str "back")))) (tseq (qX (qI qGk (qA (qB 0) qG))) qJ) qJ) (tseq (qX (qI qBJ (qA (qB 3) (qA (qB 0) qG)))) qJ)))))))))))))
theorem qPJ {g:GS} {a b c x:Int} {st:Sto} {Pd:VD} (ok:g.Ok) (a0:0≤a) (a1:a<8) (b0:0≤b) (b1:b<8) (c0:0≤c) (h:Pd (qBW (doW g 0 a b c x)) st):qAw (Ed Pd) (RW8 g (Str.ofString "halt") a b c x) st:=by
  k_dat 0"r3"
  k_dat 0"r4"
  k_dat 0"r5"
  k_dat 0"r6"
  k_dat 0"r7"
  k_dat 0"r8"
  k_dat 0"r0"
  refine qA8 (s:=Str.ofString "halt") (t:=Str.ofString "add") (u:=Str.ofString "sub") (v:=Str.ofString "mul") (k:=false) (by rfl) (by decide) (qBK ?_)
  k_dat 0"r0"
  k_dat 0"r0"
  k_dat 0"r0"
  k_dat 0"r0"
  k_dat 0"r0"
  k_dat 0"r0"
  k_dat 0"r0"
  k_dat 0"r0"
  k_dat 0"r0"
  k_dat 0"r0"
  exact⟨_,_,rfl,h⟩
theorem qNp {g:GS} {a b c x:Int} {st:Sto} {Pd:VD} (ok:g.Ok) (a0:0≤a) (a1:a<8) (b0:0≤b) (b1:b<8) (c0:0≤c) (h:Pd (qBW (doW g 1 a b c x)) st):qAw (Ed Pd) (RW8 g (Str.ofString "put") a b c x) st:=by
  k_dat 0"r3"
  k_dat 0"r4"
  k_dat 0"r5"
  k_dat 0"r6"
  k_dat 0"r7"
  k_dat 0"r8"
  k_dat 0"r18"
  exact⟨g,a,c,rfl,ok.b8,a0,a1,_,rfl,h⟩
theorem qOq {g:GS} {a b c x:Int} {st:Sto} {Pd:VD} (ok:g.Ok) (a0:0≤a) (a1:a<8) (b0:0≤b) (b1:b<8) (c0:0≤c) (h:Pd (qBW (doW g 2 a b c x)) st):qAw (Ed Pd) (RW8 g (Str.ofString "add") a b c x) st:=by
  k_dat 0"r3"
  k_dat 0"r4"
  k_dat 0"r5"
  k_dat 0"r6"
  k_dat 0"r7"
  k_dat 0"r8"
  k_dat 0"r0"
  refine qA8 (s:=Str.ofString "add") (t:=Str.ofString "add") (u:=Str.ofString "sub") (v:=Str.ofString "mul") (k:=true) (by rfl) (by decide) (qCD ?_)
  k_dat 0"r39"
  exact⟨by decide,g,2,a,_,_,rfl,.inl rfl,ok.b8,a0,a1,vb.1,vb.2,h⟩
theorem qPZ {g:GS} {a b c x:Int} {st:Sto} {Pd:VD} (ok:g.Ok) (a0:0≤a) (a1:a<8) (b0:0≤b) (b1:b<8) (c0:0≤c) (h:Pd (qBW (doW g 3 a b c x)) st):qAw (Ed Pd) (RW8 g (Str.ofString "sub") a b c x) st:=by
  k_dat 0"r3"
  k_dat 0"r4"
  k_dat 0"r5"
  k_dat 0"r6"
  k_dat 0"r7"
  k_dat 0"r8"
  k_dat 0"r0"
  refine qA8 (s:=Str.ofString "sub") (t:=Str.ofString "add") (u:=Str.ofString "sub") (v:=Str.ofString "mul") (k:=true) (by rfl) (by decide) (qCD ?_)
  k_dat 0"r39"
  exact⟨by decide,g,3,a,_,_,rfl,.inr (.inl rfl),ok.b8,a0,a1,vb.1,vb.2,h⟩
theorem qOx {g:GS} {a b c x:Int} {st:Sto} {Pd:VD} (ok:g.Ok) (a0:0≤a) (a1:a<8) (b0:0≤b) (b1:b<8) (c0:0≤c) (h:Pd (qBW (doW g 4 a b c x)) st):qAw (Ed Pd) (RW8 g (Str.ofString "mul") a b c x) st:=by
  k_dat 0"r3"
  k_dat 0"r4"
  k_dat 0"r5"
  k_dat 0"r6"
  k_dat 0"r7"
  k_dat 0"r8"
  k_dat 0"r0"
  refine qA8 (s:=Str.ofString "mul") (t:=Str.ofString "add") (u:=Str.ofString "sub") (v:=Str.ofString "mul") (k:=true) (by rfl) (by decide) (qCD ?_)
  k_dat 0"r39"
  exact⟨by decide,g,4,a,_,_,rfl,.inr (.inr rfl),ok.b8,a0,a1,vb.1,vb.2,h⟩
theorem qPW {g:GS} {a b c x:Int} {st:Sto} {Pd:VD} (ok:g.Ok) (a0:0≤a) (a1:a<8) (b0:0≤b) (b1:b<8) (c0:0≤c) (h:Pd (qBW (doW g 5 a b c x)) st):qAw (Ed Pd) (RW8 g (Str.ofString "bad") a b c x) st:=by
  k_dat 0"r3"
  k_dat 0"r4"
  k_dat 0"r5"
  k_dat 0"r6"
  k_dat 0"r7"
  k_dat 0"r8"
  k_dat 0"r0"
  refine qA8 (s:=Str.ofString "bad") (t:=Str.ofString "add") (u:=Str.ofString "sub") (v:=Str.ofString "mul") (k:=false) (by rfl) (by decide) (qBK ?_)
  k_dat 0"r0"
  k_dat 0"r0"
  k_dat 0"r0"
  k_dat 0"r0"
  k_dat 0"r0"
  k_dat 0"r0"
  k_dat 0"r0"
  k_dat 0"r0"
  k_dat 0"r0"
  k_dat 0"r0"
  exact⟨_,_,rfl,h⟩
theorem qOS {g:GS} {a b c x:Int} {st:Sto} {Pd:VD} (ok:g.Ok) (a0:0≤a) (a1:a<8) (b0:0≤b) (b1:b<8) (c0:0≤c) (h:Pd (qBW (doW g 6 a b c x)) st):qAw (Ed Pd) (RW8 g (Str.ofString "div") a b c x) st:=by
  k_dat 0"r3"
  k_dat 0"r4"
  k_dat 0"r5"
  k_dat 0"r6"
  k_dat 0"r7"
  k_dat 0"r8"
  k_dat 0"r0"
  refine qA8 (s:=Str.ofString "div") (t:=Str.ofString "add") (u:=Str.ofString "sub") (v:=Str.ofString "mul") (k:=false) (by rfl) (by decide) (qBK ?_)
  k_dat 0"r18"
  k_dat 0"r39"
  exact⟨by decide,g,a,_,_,rfl,ok.b8,a0,a1,vc.1,vc.2,h⟩
theorem qO2 {g:GS} {a b c x:Int} {st:Sto} {Pd:VD} (ok:g.Ok) (a0:0≤a) (a1:a<8) (b0:0≤b) (b1:b<8) (c0:0≤c) (h:Pd (qBW (doW g 7 a b c x)) st):qAw (Ed Pd) (RW8 g (Str.ofString "get") a b c x) st:=by
  k_dat 0"r3"
  k_dat 0"r4"
  k_dat 0"r5"
  k_dat 0"r6"
  k_dat 0"r7"
  k_dat 0"r8"
  k_dat 0"r0"
  refine qA8 (s:=Str.ofString "get") (t:=Str.ofString "add") (u:=Str.ofString "sub") (v:=Str.ofString "mul") (k:=false) (by rfl) (by decide) (qBK ?_)
  k_dat 0"r0"
  k_dat 0"r18"
  simp only [tseq,qX,qI,qA,qG,qE,qB,qD,qL,qd,L3.qAT,RW8,List.getElem?_cons_zero,List.getElem?_cons_succ,bb,bc]
  exact⟨g,a,_,rfl,ok,a0,a1,h⟩
theorem qNe {g:GS} {a b c x:Int} {st:Sto} {Pd:VD} (ok:g.Ok) (a0:0≤a) (a1:a<8) (b0:0≤b) (b1:b<8) (c0:0≤c) (h:Pd (qBW (doW g 8 a b c x)) st):qAw (Ed Pd) (RW8 g (Str.ofString "set") a b c x) st:=by
  k_dat 0"r3"
  k_dat 0"r4"
  k_dat 0"r5"
  k_dat 0"r6"
  k_dat 0"r7"
  k_dat 0"r8"
  k_dat 0"r0"
  refine qA8 (s:=Str.ofString "set") (t:=Str.ofString "add") (u:=Str.ofString "sub") (v:=Str.ofString "mul") (k:=false) (by rfl) (by decide) (qBK ?_)
  k_dat 0"r0"
  k_dat 0"r0"
  k_dat 0"r18"
  simp only [tseq,qX,qI,qA,qG,qE,qB,qD,qL,qd,L3.qAT,RW8,List.getElem?_cons_zero,List.getElem?_cons_succ,ba,bb,bc]
  exact⟨g,_,_,rfl,ok,h⟩
theorem qON {g:GS} {a b c x:Int} {st:Sto} {Pd:VD} (ok:g.Ok) (a0:0≤a) (a1:a<8) (b0:0≤b) (b1:b<8) (c0:0≤c) (h:Pd (qBW (doW g 9 a b c x)) st):qAw (Ed Pd) (RW8 g (Str.ofString "jump") a b c x) st:=by
  k_dat 0"r3"
  k_dat 0"r4"
  k_dat 0"r5"
  k_dat 0"r6"
  k_dat 0"r7"
  k_dat 0"r8"
  k_dat 0"r0"
  refine qA8 (s:=Str.ofString "jump") (t:=Str.ofString "add") (u:=Str.ofString "sub") (v:=Str.ofString "mul") (k:=false) (by rfl) (by decide) (qBK ?_)
  k_dat 0"r0"
  k_dat 0"r0"
  k_dat 0"r0"
  k_dat 0"r18"
  exact⟨g,c,rfl,h⟩
theorem qMw {g:GS} {a b c x:Int} {st:Sto} {Pd:VD} (ok:g.Ok) (a0:0≤a) (a1:a<8) (b0:0≤b) (b1:b<8) (c0:0≤c) (h:Pd (qBW (doW g 10 a b c x)) st):qAw (Ed Pd) (RW8 g (Str.ofString "when") a b c x) st:=by
  k_dat 0"r3"
  k_dat 0"r4"
  k_dat 0"r5"
  k_dat 0"r6"
  k_dat 0"r7"
  k_dat 0"r8"
  k_dat 0"r0"
  refine qA8 (s:=Str.ofString "when") (t:=Str.ofString "add") (u:=Str.ofString "sub") (v:=Str.ofString "mul") (k:=false) (by rfl) (by decide) (qBK ?_)
  k_dat 0"r0"
  k_dat 0"r0"
  k_dat 0"r0"
  k_dat 0"r0"
  k_dat 0"r18"
  refine⟨a,g.m,rfl,a0,a1,?_⟩
  have h:Pd (qBW (if qCn a g.m=true then onG (leap g c) else onG (next g))) st:=h
  cases hw:qCn a g.m with
  | true =>
    rw [hw,if_pos rfl] at h
    exact qCD ⟨g,c,rfl,h⟩
  | false =>
    rw [hw,if_neg Bool.false_ne_true] at h
    exact qBK ⟨g,rfl,_,rfl,h⟩
theorem qMY {g:GS} {a b c x:Int} {st:Sto} {Pd:VD} (ok:g.Ok) (a0:0≤a) (a1:a<8) (b0:0≤b) (b1:b<8) (c0:0≤c) (h:Pd (qBW (doW g 11 a b c x)) st):qAw (Ed Pd) (RW8 g (Str.ofString "go") a b c x) st:=by
  k_dat 0"r3"
  k_dat 0"r4"
  k_dat 0"r5"
  k_dat 0"r6"
  k_dat 0"r7"
  k_dat 0"r8"
  k_dat 0"r0"
  refine qA8 (s:=Str.ofString "go") (t:=Str.ofString "add") (u:=Str.ofString "sub") (v:=Str.ofString "mul") (k:=false) (by rfl) (by decide) (qBK ?_)
  k_dat 0"r0"
  k_dat 0"r0"
  k_dat 0"r0"
  k_dat 0"r0"
  k_dat 0"r0"
  k_dat 0"r18"
  simp only [tseq,qX,qI,qA,qG,qE,qB,qD,qL,qd,RW8,List.getElem?_cons_zero,List.getElem?_cons_succ,ba]
  exact⟨g,_,rfl,_,rfl,h⟩
theorem qM5 {g:GS} {a b c x:Int} {st:Sto} {Pd:VD} (ok:g.Ok) (a0:0≤a) (a1:a<8) (b0:0≤b) (b1:b<8) (c0:0≤c) (h:Pd (qBW (doW g 12 a b c x)) st):qAw (Ed Pd) (RW8 g (Str.ofString "tell") a b c x) st:=by
  k_dat 0"r3"
  k_dat 0"r4"
  k_dat 0"r5"
  k_dat 0"r6"
  k_dat 0"r7"
  k_dat 0"r8"
  k_dat 0"r0"
  refine qA8 (s:=Str.ofString "tell") (t:=Str.ofString "add") (u:=Str.ofString "sub") (v:=Str.ofString "mul") (k:=false) (by rfl) (by decide) (qBK ?_)
  k_dat 0"r0"
  k_dat 0"r0"
  k_dat 0"r0"
  k_dat 0"r0"
  k_dat 0"r0"
  k_dat 0"r0"
  k_dat 0"r18"
  refine⟨g,rfl,?_⟩
  simp only [qX,qI,qA,qAf,qG,qE,qB,qD,qL,qd,RW8,List.getElem?_cons_zero,List.getElem?_cons_succ,ba]
  exact⟨by show 1≤sizeLine;decide,by show 3≤sizeLine;decide,h⟩
theorem qMR {g:GS} {a b c x:Int} {st:Sto} {Pd:VD} (ok:g.Ok) (a0:0≤a) (a1:a<8) (b0:0≤b) (b1:b<8) (c0:0≤c) (h:Pd (qBW (doW g 13 a b c x)) st):qAw (Ed Pd) (RW8 g (Str.ofString "hear") a b c x) st:=by
  k_dat 0"r3"
  k_dat 0"r4"
  k_dat 0"r5"
  k_dat 0"r6"
  k_dat 0"r7"
  k_dat 0"r8"
  k_dat 0"r0"
  refine qA8 (s:=Str.ofString "hear") (t:=Str.ofString "add") (u:=Str.ofString "sub") (v:=Str.ofString "mul") (k:=false) (by rfl) (by decide) (qBK ?_)
  k_dat 0"r0"
  k_dat 0"r0"
  k_dat 0"r0"
  k_dat 0"r0"
  k_dat 0"r0"
  k_dat 0"r0"
  k_dat 0"r0"
  k_dat 0"r18"
  exact⟨g,a,x,rfl,ok.b8,a0,a1,_,rfl,h⟩
theorem qMK {g:GS} {a b c x:Int} {st:Sto} {Pd:VD} (ok:g.Ok) (a0:0≤a) (a1:a<8) (b0:0≤b) (b1:b<8) (c0:0≤c) (h:Pd (qBW (doW g 14 a b c x)) st):qAw (Ed Pd) (RW8 g (Str.ofString "right") a b c x) st:=by
  k_dat 0"r3"
  k_dat 0"r4"
  k_dat 0"r5"
  k_dat 0"r6"
  k_dat 0"r7"
  k_dat 0"r8"
  k_dat 0"r0"
  refine qA8 (s:=Str.ofString "right") (t:=Str.ofString "add") (u:=Str.ofString "sub") (v:=Str.ofString "mul") (k:=false) (by rfl) (by decide) (qBK ?_)
  k_dat 0"r0"
  k_dat 0"r0"
  k_dat 0"r0"
  k_dat 0"r0"
  k_dat 0"r0"
  k_dat 0"r0"
  k_dat 0"r0"
  k_dat 0"r0"
  k_dat 0"r18"
  simp only [tseq,qX,qI,qA,qG,qE,qB,qD,qL,qd,qAB,RW8,List.getElem?_cons_zero,List.getElem?_cons_succ,ba]
  exact⟨by decide,g,_,_,rfl,ok,h⟩
theorem qM2 {g:GS} {a b c x:Int} {st:Sto} {Pd:VD} (ok:g.Ok) (a0:0≤a) (a1:a<8) (b0:0≤b) (b1:b<8) (c0:0≤c) (h:Pd (qBW (doW g 15 a b c x)) st):qAw (Ed Pd) (RW8 g (Str.ofString "back") a b c x) st:=by
  k_dat 0"r3"
  k_dat 0"r4"
  k_dat 0"r5"
  k_dat 0"r6"
  k_dat 0"r7"
  k_dat 0"r8"
  k_dat 0"r0"
  refine qA8 (s:=Str.ofString "back") (t:=Str.ofString "add") (u:=Str.ofString "sub") (v:=Str.ofString "mul") (k:=false) (by rfl) (by decide) (qBK ?_)
  k_dat 0"r0"
  k_dat 0"r0"
  k_dat 0"r0"
  k_dat 0"r0"
  k_dat 0"r0"
  k_dat 0"r0"
  k_dat 0"r0"
  k_dat 0"r0"
  k_dat 0"r0"
  k_dat 0"r18"
  exact⟨g,rfl,h⟩
theorem qLJ {ds:List Dt} {st:Sto} {Pd:VD} (h:qEp ds st Pd):qH4 (Ed Pd) (qU ["state", "row", "heard", "word", "a", "b", "c", "boxes"] ds) st:=by
  obtain⟨g,w,a,b,c,x,rfl,ok,w0,w1,a0,a1,b0,b1,c0,c1,h⟩:=h
  have cs:=(show w=0∨w=1∨w=2∨w=3∨w=4∨w=5∨w=6∨w=7∨w=8∨w=9∨w=10∨w=11∨w=12∨w=13∨w=14∨w=15 by lia)
  show qAw (Ed Pd) (RW8 g (qL5 w) a b c x) st
  rcases cs with rfl | rfl | rfl | rfl | rfl | rfl | rfl | rfl | rfl | rfl | rfl | rfl | rfl | rfl | rfl | rfl
  · exact qPJ ok a0 a1 b0 b1 c0 h
  · exact qNp ok a0 a1 b0 b1 c0 h
  · exact qOq ok a0 a1 b0 b1 c0 h
  · exact qPZ ok a0 a1 b0 b1 c0 h
  · exact qOx ok a0 a1 b0 b1 c0 h
  · exact qPW ok a0 a1 b0 b1 c0 h
  · exact qOS ok a0 a1 b0 b1 c0 h
  · exact qO2 ok a0 a1 b0 b1 c0 h
  · exact qNe ok a0 a1 b0 b1 c0 h
  · exact qON ok a0 a1 b0 b1 c0 h
  · exact qMw ok a0 a1 b0 b1 c0 h
  · exact qMY ok a0 a1 b0 b1 c0 h
  · exact qM5 ok a0 a1 b0 b1 c0 h
  · exact qMR ok a0 a1 b0 b1 c0 h
  · exact qMK ok a0 a1 b0 b1 c0 h
  · exact qM2 ok a0 a1 b0 b1 c0 h
end K06
namespace KG
open PySem L2 L3 KH KS
end KG
namespace K17
open PySem L2 L3 KH KS
end K17
namespace K17
open PySem L2 L3 KS K06
theorem qJK {xs:List Int} {i:Nat} {v x:Int} (h:x∈xs.set i v):x∈xs∨x=v:=by
  rcases List.mem_or_eq_of_mem_set h with h | h
  · exact .inl h
  · exact .inr h
theorem qPG {g:GS} (ok:g.Ok) {a v:Int} (h0:0≤v) (h1:v<65536):(qDR g a v).Ok:=by
  refine⟨Int.emod_nonneg _ (by decide),?_,fun x hx=>?_,ok.c8,ok.cm,ok.cb,ok.rb⟩
  · show (g.bs.set a.toNat v).length=8
    rw [List.length_set];exact ok.b8
  · rcases qJK hx with h | h
    · exact ok.bb x h
    · rw [h];exact⟨h0,h1⟩
theorem qRn {g:GS} (ok:g.Ok) {a v:Int} {k:Bool} (h0:0≤v) (h1:v<65536):(qEg g a v k).Ok:=by
  have:=qPG ok (a:=a) h0 h1
  exact⟨this.p0,this.b8,this.bb,this.c8,this.cm,this.cb,this.rb⟩
theorem qQh {g:GS} (ok:g.Ok):(next g).Ok:=⟨Int.emod_nonneg _ (by decide),ok.b8,ok.bb,ok.c8,ok.cm,ok.cb,ok.rb⟩
theorem qPt {g:GS} (ok:g.Ok) {q:Nat} {v:Int} (h0:0≤v) (h1:v<65536):({ next g with cs:=g.cs.set q v }:GS).Ok:=by
  refine⟨Int.emod_nonneg _ (by decide),ok.b8,ok.bb,?_,?_,fun x hx=>?_,ok.rb⟩
  · show (g.cs.set q v).length=_
    rw [List.length_set];exact ok.c8
  · show (g.cs.set q v).length≤_
    rw [List.length_set];exact ok.cm
  · rcases qJK hx with h | h
    · exact ok.cb x h
    · rw [h];exact⟨h0,h1⟩
theorem qEn {g:GS} (ok:g.Ok) (i:Int):0≤bx g i∧bx g i<65536:=by
  unfold bx
  by_cases h:i.toNat<g.bs.length
  · have e:g.bs.getD i.toNat 0=g.bs[i.toNat]:=by simp [List.getD,h]
    rw [e]
    exact ok.bb _ (List.getElem_mem h)
  · have e:g.bs.getD i.toNat 0=0:=by rw [List.getD_eq_getElem?_getD,List.getElem?_eq_none (by omega)];rfl
    rw [e];exact⟨by decide,by decide⟩
theorem qH8 {g:GS} (ok:g.Ok) (i:Nat):0≤g.cs.getD i 0∧g.cs.getD i 0<65536:=by
  by_cases h:i<g.cs.length
  · have e:g.cs.getD i 0=g.cs[i]:=by simp [List.getD,h]
    rw [e]
    exact ok.cb _ (List.getElem_mem h)
  · have e:g.cs.getD i 0=0:=by rw [List.getD_eq_getElem?_getD,List.getElem?_eq_none (by omega)];rfl
    rw [e];exact⟨by decide,by decide⟩
theorem qUw (g:GS):okD 8 g.d=true:=by
  have a1:∀ xs:List Int,okD 7 (.tup (xs.map .int))=true:=fun xs=>all_ints xs 6
  have a2:okD 7 (msD g.m)=true:=rfl
  have a3:okD 7 (svD g.sv)=true:=by cases g.sv<;>rfl
  show (okD 7 (.int g.p)&&(okD 7 (.tup (g.bs.map .int))&&(okD 7 (msD g.m)&&(okD 7 (svD g.sv)&&(okD 7 (.tup (g.rs.map .int))&&(okD 7 (.tup (g.cs.map .int))&&true))))))=true
  rw [a1,a1,a1,a2,a3];rfl
theorem qRE {xs:List Int} {a b:Nat}:L3.cutD (xs.map Dt.int) (some (a:Int)) (some ((a:Int)+(b:Nat)))=((xs.drop a).take b).map Dt.int:=by
  unfold L3.cutD
  rw [show ((a:Int)+(b:Nat))=((a+b:Nat):Int) by omega,HT.qLz,HT.qLz,← List.map_drop,← List.map_take,List.length_map]
  congr 1
  rcases Nat.le_total a xs.length with h | h
  · rw [Nat.min_eq_left h]
    rcases Nat.le_total (a+b) xs.length with h2 | h2
    · rw [Nat.min_eq_left h2];congr 1;omega
    · rw [Nat.min_eq_right h2,List.take_of_length_le (by simp),List.take_of_length_le (by simp;omega)]
  · rw [Nat.min_eq_right h,List.drop_of_length_le (by omega:xs.length≤xs.length),List.drop_of_length_le h];simp
end K17
namespace KN
open PySem L2 L3 KS K06 K17
structure Ok2 (g:GS):Prop where
  ok:g.Ok
  sv:∀ q m,g.sv=some (q,m)→0≤q
noncomputable def qPN (bells:List Int) (g:GS) (rung done:Nat):Bool:=g.sv.isNone&&(decide (rung<bells.length)&&decide (bells.getD rung 0≤(done:Int)))
noncomputable def qJp (g:GS) (ring:Int):GS:={ g with sv:=some (g.p,g.m),p:=ring }
noncomputable def qEe (g:GS):Bool:=decide (g.cs.getD g.p.toNat 0 / 4096=13)
structure RS where
  g:GS
  heard:Nat
  rung:Nat
  told:List Int
noncomputable def qAv (bells:List Int) (ring:Int) (done:Nat) (s:RS):RS:=if qPN bells s.g s.rung done=true then { s with g:=qJp s.g ring,rung:=s.rung+1 } else s
noncomputable def qA7 (given:List Int) (s:RS):Res:=doR s.g (given.getD s.heard 0)
noncomputable def qB8 (given:List Int) (s:RS):RS:={ g:=(qA7 given s).2.1,heard:=if (decide (s.heard<given.length)&&qEe s.g)=true then s.heard+1 else s.heard,rung:=s.rung,told:=s.told++(qA7 given s).2.2 }
noncomputable def qIm (given bells:List Int) (ring:Int):Nat→Nat→RS→Str×RS×Nat
  | 0,done,s=>("more",s,done)
  | n+1,done,s=>if (qA7 given (qAv bells ring done s)).1 = "on" then qIm given bells ring n (done+1) (qB8 given (qAv bells ring done s)) else ((qA7 given (qAv bells ring done s)).1,qAv bells ring done s,done)
noncomputable def qHb (r:Str×RS×Nat):Dt:=.tup [.str r.1,r.2.1.g.d,.tup (r.2.1.told.map .int),.int (r.2.2:Nat),.int (r.2.1.heard:Nat),.int (r.2.1.rung:Nat)]
noncomputable def s0 (g:GS):RS:=⟨g,0,0,[]⟩
theorem qKa {g:GS} (o:Ok2 g):Ok2 (next g):=⟨qQh o.ok,o.sv⟩
theorem qIw {g:GS} (o:Ok2 g) {a v:Int} (h0:0≤v) (h1:v<65536):Ok2 (qDR g a v):=⟨qPG o.ok h0 h1,o.sv⟩
theorem qGC {g:GS} (o:Ok2 g) {a v:Int} {k:Bool} (h0:0≤v) (h1:v<65536):Ok2 (qEg g a v k):=⟨qRn o.ok h0 h1,o.sv⟩
theorem qJd {g:GS} (o:Ok2 g) (c:Int):Ok2 (leap g c):=⟨⟨Int.emod_nonneg _ (by decide),o.ok.b8,o.ok.bb,o.ok.c8,o.ok.cm,o.ok.cb,o.ok.rb⟩,o.sv⟩
def qHv (r:Res):Prop:=Ok2 r.2.1∧r.2.2.length≤1
theorem qBe {g:GS} (o:Ok2 g) (w:Str):qHv (qBv w g):=⟨o,Nat.zero_le _⟩
theorem qBI {g:GS} (o:Ok2 g):qHv (onG g):=⟨o,Nat.zero_le _⟩
theorem qSB {g:GS} (o:Ok2 g) {w a b c h:Int} (c0:0≤c) (c1:c<64) (w0:0≤w) (w1:w<16) (h0:0≤h) (h1:h<65536):qHv (doW g w a b c h):=by
  have ok:=o.ok
  have b1:=qEn ok b
  have b2:=qEn ok (c%8)
  have b3:=qEn ok a
  rcases (show w=0∨w=1∨w=2∨w=3∨w=4∨w=5∨w=6∨w=7∨w=8∨w=9∨w=10∨w=11∨w=12∨w=13∨w=14∨w=15 by lia) with rfl | rfl | rfl | rfl | rfl | rfl | rfl | rfl | rfl | rfl | rfl | rfl | rfl | rfl | rfl | rfl
  · exact qBe o _
  · exact qBI (qIw o c0 (by lia))
  · k_dat 0"r52"
  · k_dat 0"r52"
  · k_dat 0"r52"
  · exact qBe o _
  · show qHv (qHh g a (bx g b) (bx g (c%8)))
    unfold qHh
    split
    · exact qBe o _
    · exact qBI (qGC o (Int.ediv_nonneg b1.1 b2.1) (Int.lt_of_le_of_lt (Int.ediv_le_self _ b1.1) b1.2))
  · show qHv (qHg g a (bx g b+c))
    unfold qHg
    split
    · exact qBI (qIw o (qH8 ok _).1 (qH8 ok _).2)
    · exact qBe o _
  · show qHv (setG g (bx g a) (bx g b+c))
    unfold setG
    split
    · exact qBI ⟨qPt ok b3.1 b3.2,o.sv⟩
    · exact qBe o _
  · exact qBI (qJd o c)
  · show qHv (if qCn a g.m=true then onG (leap g c) else onG (next g))
    split
    · exact qBI (qJd o c)
    · exact qBI (qKa o)
  · exact qBI ⟨⟨Int.emod_nonneg _ (by decide),ok.b8,ok.bb,ok.c8,ok.cm,ok.cb,ok.rb⟩,o.sv⟩
  · exact⟨qKa o,Nat.le_refl _⟩
  · exact qBI (qIw o h0 h1)
  · show qHv (qCy g (bx g a) (c%8))
    unfold qCy
    split
    · refine qBI ⟨⟨Int.emod_nonneg _ (by decide),ok.b8,ok.bb,?_,ok.cm,ok.cb,fun x hx=>?_⟩,o.sv⟩
      · show g.cs.length=8 * (g.rs.set _ _).length
        rw [List.length_set];exact ok.c8
      · rcases qJK hx with q | q
        · exact ok.rb x q
        · rw [q];exact⟨Int.emod_nonneg _ (by decide),Int.emod_lt_of_pos _ (by decide)⟩
    · exact qBe o _
  · show qHv (qD8 g)
    unfold qD8
    cases hs:g.sv with
    | none=>exact qBe o _
    | some qm =>
      obtain⟨q,m⟩:=qm
      exact qBI ⟨⟨o.sv q m hs,ok.b8,ok.bb,ok.c8,ok.cm,ok.cb,ok.rb⟩,fun _ _ e=>by cases e⟩
theorem qOH {g:GS} (o:Ok2 g) {h:Int} (h0:0≤h) (h1:h<65536):qHv (doR g h):=by
  unfold doR
  split
  · have hc:=qH8 o.ok g.p.toNat
    exact qSB o (by lia) (by lia) (by lia) (by lia) h0 h1
  · exact qBe o _
theorem qSY {g:GS} {h:Int} (e:(doR g h).1 = "on"):0≤g.p∧g.p<g.cs.length:=by
  by_cases hm:may 4 g g.p=true
  · unfold may at hm
    k_dat 0"r40"
    exact hm.1
  · unfold doR at e
    rw [if_neg hm] at e
    exact absurd e (by show ¬ ("closed" : Str) = "on";decide +kernel)
theorem qDq {given:List Int} (h:∀ x∈given,0≤x∧x<65536) (i:Nat):0≤given.getD i 0∧given.getD i 0<65536:=by
  by_cases hi:i<given.length
  · have e:given.getD i 0=given[i]:=by simp [List.getD,hi]
    rw [e];exact h _ (List.getElem_mem hi)
  · have e:given.getD i 0=0:=by rw [List.getD_eq_getElem?_getD,List.getElem?_eq_none (by lia)];rfl
    rw [e];exact⟨by decide,by decide⟩
theorem qHY {bells:List Int} {ring:Int} {done:Nat} {s:RS} (o:Ok2 s.g) (hr:0≤ring):Ok2 (qAv bells ring done s).g:=by
  unfold qAv
  split
  · refine⟨⟨hr,o.ok.b8,o.ok.bb,o.ok.c8,o.ok.cm,o.ok.cb,o.ok.rb⟩,fun q m e=>?_⟩
    have e:some (s.g.p,s.g.m)=some (q,m):=e
    cases e
    exact o.ok.p0
  · exact o
theorem qMN {bells:List Int} {ring:Int} {done:Nat} {s:RS}:(qAv bells ring done s).told=s.told:=by unfold qAv;split<;>rfl
theorem qH3 {given:List Int} {s:RS} (o:Ok2 s.g) (h:∀ x∈given,0≤x∧x<65536):Ok2 (qB8 given s).g∧(qB8 given s).told.length≤s.told.length+1:=by
  have f:=qOH o (qDq h s.heard).1 (qDq h s.heard).2
  refine⟨f.1,?_⟩
  show (s.told++(qA7 given s).2.2).length≤_
  rw [List.length_append]
  have:=f.2
  unfold qA7
  lia
def qD4 (st:Sto) (n:Nat) (xs:List Int):Prop:=∃ o,st[n]? = some o∧o.items=xs.map Dt.int
def qJC:RDL:=fun ds st P=>∃ (g:GS) (ring:Int),ds=[g.d,.int ring]∧P (qJp g ring).d st
def qHR:RDL:=fun ds st P=>∃ g:GS,ds=[g.d]∧g.Ok∧g.p<g.cs.length∧P (.bl (qEe g)) st
end KN
namespace L2
open PySem PySem.Spec PyProof.Rows
end L2
namespace L3
open PySem PySem.Spec PyProof.Rows L2
end L3
namespace HT
open PySem PyProof.Rows
end HT
namespace L3
open PySem PySem.Spec PyProof.Rows L2
section
variable {X:Cx} {a b o e:Expr} {ta tb to te:TD} {pos:Pos}
def qH1 (nm:Str) (to te:TD) (f:Str):TSD:=fun E ρ st=>to ρ st fun x st1=>match x with
  | .ins n=>(match st1[n]? with
    | some (.ob c fs)=>c=nm∧(match fs.lookup f with
      | some (.int i)=>te ρ st1 fun d st2=>(match d,st2[n]? with
        | .int j,some (.ob c2 fs2)=>c2=nm∧fs2.length<1000∧E.nx ρ (st2.set n (.ob c2 (qCO f (.int (i+j)) fs2)))
        | _,_=>False)
      | _=>False)
    | _=>False)
  | _=>False
theorem qQF {nm f:Str} {flds:List Str} {tpos:Pos} (hc:qBB X.K nm flds) (hf:f∈flds) (ho:DE X o to) (he:DE X e te):DS X (.AugAssign (.Attribute o f tpos) .Add e pos) (qH1 nm to te f):=by
  refine PS.imp (qNM (rd:=L2.qAT) ho he qO1) fun E σ H h=>?_
  k_dat 0"r14"
  k_dat 0"r9"
  cases x with
  | ins m =>
    have h1:(match st1[m]? with
      | some (.ob c fs)=>c=nm∧(match fs.lookup f with
        | some (.int i)=>te ρ st1 fun d st2=>(match d,st2[m]? with
          | .int j,some (.ob c2 fs2)=>c2=nm∧fs2.length<1000∧P.nx ρ (st2.set m (.ob c2 (qCO f (.int (i+j)) fs2)))
          | _,_=>False)
        | _=>False)
      | _=>False):=h1
    split at h1
    · rename_i c0 fs e1
      obtain⟨rfl,h1⟩:=h1
      obtain⟨ca,da,vs,hv,_,hn,hk⟩:=b1.1.ob e1
      obtain⟨c1,c2⟩:=hc.c ca hn
      split at h1
      · rename_i i ei
        rcases hk.look f with ⟨z,_⟩ | ⟨d',v2,z1,z2,dv⟩
        · rw [ei] at z;cases z
        rw [ei] at z1
        cases z1
        rw [dv.int] at z2
        refine⟨φ1 m,ca,da,vs,_,dx.ins.2,hv,c1,c2 f hf,z2,φ1,st1,ρ,_,pre.on b1,h1,fun d st2 h2 φ2 H2 w b2 dd=>?_⟩
        split at h2
        · rename_i j c3 fs2 e2
          obtain⟨rfl,hl,h2⟩:=h2
          rw [dd.int]
          refine⟨i,j,rfl,rfl,?_⟩
          obtain⟨cb,db,vs2,hv2,_,hn2,hk2⟩:=b2.1.ob e2
          have ea:φ2 m=φ1 m:=b2.2.ext m dx.ins.1
          rw [hn] at hn2
          cases hn2
          have bb:=qJ0 b2.1 e2 hv2 (hk2.put (D.mkInt (i:=i+j)) f)
          rw [ea] at hv2 bb
          exact⟨db,vs2,hv2,by rw [← hk2.length];exact hl,n _ _ h2 φ2 _ _ ((b1.trans b2).trans bb) ((pre.on ((b1.trans b2).trans bb)).2)⟩
        · exact h2.elim
      · exact h1.elim
    · exact h1.elim
  | _=>exact h1.elim
end
end L3
namespace L2
open PySem PySem.Spec PyProof.Rows
end L2
namespace L3
open PySem PySem.Spec PyProof.Rows L2
end L3
namespace L3
open PySem PySem.Spec PyProof.Rows L2
end L3
namespace L3
open PySem PySem.Spec PyProof.Rows L2
end L3
namespace L3
open PySem PySem.Spec PyProof.Rows L2
end L3
namespace L3
open PySem PySem.Spec PyProof.Rows L2
end L3
namespace L3
open PySem PySem.Spec PyProof.Rows L2
end L3
namespace L3
open PySem PySem.Spec PyProof.Rows L2
end L3
namespace L3
open PySem PySem.Spec PyProof.Rows L2
section
variable {X:Cx} {e o i value:Expr} {to ti te:TD} {pos tpos:Pos}
def qKh:TD:=fun _ _ _=>False
def qLL:TBD:=fun _ _ _=>False
theorem qQx:DE X e qKh:=fun pins s σ H Q I h=>by
  k_dat 0"r41"
theorem qQr:DT X e qLL:=fun pins s σ H Q I h=>by
  k_dat 0"r41"
theorem qQz {s:Stmt}:DS X s qJX:=fun pins s σ H E I h=>by
  k_dat 0"r41"
theorem qOs {s:List Stmt}:DSs X s qJX:=fun pins s σ H E I h=>by
  k_dat 0"r41"
def qPb (to ti te:TD):TSD:=fun E ρ st=>to ρ st fun x st1=>ti ρ st1 fun y st2=>∃ n kvs k a,x = .dic n∧st2[n]? = some (.dc kvs)∧qI2 y=some k∧qFA kvs k=some (.int a)∧te ρ st2 fun d st3=>∃ b kvs',d = .int b∧st3[n]? = some (.dc kvs')∧kvs'.length<sizeLine∧E.nx ρ (st3.set n (.dc (putD kvs' k (.int (a+b)))))
theorem qP7 (hu:X.A.units+1<cLine) (ho:DE X o to) (hi:DE X i ti) (he:DE X e te)
    (ha:∀ ov iv new,augStore i ov iv new=(do holding [new,ov,iv] (setItem ov iv new);release [new,ov,iv] [];pure .next)):DS X (.AugAssign (.Subscript o i tpos) .Add e pos) (qPb to ti te):=(qPo (rd:=L2.qAT) hu ho hi he qO1 ha).imp fun E σ H h=>by
  k_dat 0"r14"
  k_dat 0"r9"
  k_dat 0"r29"
  obtain⟨m,kvs,k,a,rfl,e1,e2,e3,h2⟩:=h2
  obtain⟨vs,hv,_,hk⟩:=b2.1.dc e1
  rcases hk.val k with ⟨z,_⟩ | ⟨d',v2,ed',ev,dv⟩
  · rw [e3] at z;cases z
  rw [e3] at ed'
  cases ed'
  refine⟨φ2 m,v2,(dx.evo b2.2).dic.2,by rw [qFV e2 dy,← ev];exact qEj.k hv,φ2,st2,ρ,_,(pre.on b1).on b2,h2,fun d st3 h3 φ3 H3 z b3 dz=>?_⟩
  obtain⟨j,kvs',rfl,e4,hl,h3⟩:=h3
  rw [dv.int,dz.int]
  refine⟨a,j,rfl,rfl,?_⟩
  obtain⟨vs',hv',_,hk'⟩:=b3.1.dc e4
  have ea:φ3 m=φ2 m:=b3.2.ext m (dx.evo b2.2).dic.1
  have bb:=qJ4 b3.1 e4 (hk'.put (D.mkInt (i:=a+j)) k)
  rw [ea] at hv' bb
  exact⟨_,by rw [qFV e2 dy];exact qK3.k hv' (by rw [← hk'.length];exact hl),n _ _ h3 φ3 _ _ (((b1.trans b2).trans b3).trans bb) ((pre.on (((b1.trans b2).trans b3).trans bb)).2)⟩
end
end L3
namespace L3
open PySem PySem.Spec PyProof.Rows L2
def qLy (t:TD):TBD:=fun ρ st P=>t ρ st fun x st1=>∃ i:Int,x = .int i∧P (i != 0) st1
theorem qQU {X:Cx} {e:Expr} {t:TD} (h:DE X e t) (he:∀ whole,isTrue e X.env whole=(do let v ← whole;standAt e.pos;holding [v] (truthy v))):DT X e (qLy t):=(qPS h he).imp fun σ H Q h=>by
  k_dat 0"r1"
  k_dat 0"r9"
  obtain⟨i,rfl,h1⟩:=h1
  cases dx.int
  exact⟨i != 0,rfl,hq _ st1 h1 φ1 H1 b1⟩
section
variable {X:Cx}
theorem qKy {v:Value}:checkBuiltinCall "sorted" { pos:=[v] }=pure ():=by
  unfold checkBuiltinCall
  simp only [kind_sorted]
  exact args_sorted1 v
def qLY:RDL:=fun ds st P=>∃ n,ds=[.dic n]∧st[n]? = some (.dc [])∧P (.lst st.length) (st++[.rw []])
theorem qNk (hc:X.calm=true):qDs X (.builtin "sorted") qLY:=by
  k_dat 0"r21"
  obtain⟨φ,st,ds,P,R,dl,⟨n,rfl,en,hp⟩,hq⟩:=h
  k_dat 0"r28"
  obtain⟨u,rfl,ru⟩:=vals1 rv
  obtain⟨kvs,hv,_,hk⟩:=R.dc en
  have ev:=dx.dic.2
  subst ev
  cases ru
  obtain⟨z,hd,ws,rel,dd⟩:=qIJ I.hok (show Rd H (φ n) (.dK kvs) from .inl hv)
  have ek:kvs=[]:=List.map_eq_nil_iff.mp hk.1.symm
  subst ek
  have ew:ws=[]:=by cases rel;rfl
  subst ew
  obtain⟨o,es,ep,dd⟩:=dd
  refine call_builtin_at plain_sorted PyProof.Rows.entry_sorted qKy (fun Γ p _ hin=>(?w:wpAny (model X.prog X.w) X.A.in1 (Builtin.sorted { pos:=[Value.ref (φ n)] }) _ _ _) Γ p hin)
  unfold Builtin.sorted
  k_dat 0"r11"
  show wpAny _ _ (pure ()) _ _ _
  k_dat 0"r17"
  k_dat 0"r11"
  refine W.kdu_collect (W.kdl_dict (knd:=qAg X.prog X.w) (kvs:=[]) (ep:=ep) hd) (I.ok.hd hc) ⟨o,es,dd⟩ (Nat.zero_le _) fun h' tk acc kp it=>?_
  have ea:acc.toList=[]:=by
    have:=it.1
    rw [← Array.length_toList] at this
    exact List.length_eq_zero_iff.mp this
  rw [ea]
  refine wpAny_bind (wpAny_newList ?_)
  refine wpAny_bind (wpAny_holding ?_)
  have hD:(h'.push (seqObj "list" ([]:List Value).toArray 0)).get? h'.objs.size=some (seqObj "list" ([]:List Value).toArray 0):=Heap.get?_push_size _ rfl
  refine wpAny_call_entry slot_list_sort ⟨_,hD,rfl⟩ entry_list_sort (list_sort_tree (vs:=[]) (ns:=[]) (n:=0) hD .nil (by decide) fun out ns' a1 a2 a3=>⟨_,rfl,?_⟩) (args_list_sort _)
  have en':ns'=[]:=a2.eq_nil
  subst en'
  have eo:out.toList=[]:=List.length_eq_zero_iff.mp a1.length
  refine wpAny_pure ⟨_,rfl,?_⟩
  obtain⟨e,he⟩:=sortedHeap_at (vs:=[]) (out:=out) hD
  have I2:Inv X pins σ H { s with heap:=h',toks:=tk }:=I.kept kp
  have hno:=I2.hok.fresh (Nat.le_refl h'.objs.size)
  have old:∀ b u,h'.get? b=some u→(sortedHeap (h'.push (seqObj "list" ([]:List Value).toArray 0)) h'.objs.size [] out).get? b=some u:=fun b u q=>by
    have hl:=Heap.lt_size q
    rw [sortedHeap_old (Nat.ne_of_lt hl) (by rw [Heap.size_push];exact Nat.lt_succ_of_lt hl)]
    exact Heap.get?_push_of_some _ q
  exact⟨.ref h'.objs.size,_,I2.laid (t':=tk) old (Nat.le_refl _) (show qBH X.K X.prog X.w _ _ _ (.lst []) from⟨Nat.zero_le _,[],e,.nil,by rw [he,← eo]⟩),rfl,hq _ _ hp _ _ _ (qCR (ds:=[]) R hno .nil) qEZ⟩
theorem qPL {pos:Pos} {e:Expr} {t:TAD} {p:Pos} (hc:X.calm=true) (hm:X.mg "sorted" = none) (ha:DA X [e] t) (hg:Gl X "sorted") (he:starEach [e] X.env=(false,eval e X.env)::starEach [] X.env) (hpl:(backTo pos (starEach [] X.env)).any (·.1)=false):DE X (.Call (.Name "sorted" p) [e] [] pos) (qI qLY t):=qC3 (qNk hc) hm PyProof.Rows.boot_sorted ha hg (by decide) (by decide) he hpl
end
end L3
namespace L3
open PySem PySem.Spec PyProof.Rows L2
theorem qP1:(Manifest.find? "tuple").elim false (fun x=>x.noNew)=false:=by kernel_rfl
theorem qQL {v:Value}:checkBuiltinCall "tuple.__new__" { pos:=[.type "tuple",v] }=pure ():=by kernel_rfl
theorem qGR {prog:Program} {w:World} {A:Around} {E:Value→Shared→Prop} {s:Shared} {T:String} {r d:Addr} {n:Nat} {P:Nat→Value→Prop} {OK:Heap→Prop} {Q:Value→Shared→Prop}
    (S:W.KdlSrc prog w T r d n P OK) (hh:A.handled=none) (ok:OK s.heap) (hn:n≤sizeLine)
    (h:∀ (h':Heap) (tk:Nat) (acc:Array Value),(∀ b o,s.heap.get? b=some o→h'.get? b=some o)→ItemsOf P acc n→Q (.ref h'.objs.size) { heap:=h'.push { cls:=.type "tuple",data:=.seq acc },gens:=s.gens,drawn:=s.drawn,toks:=tk,os:=s.os }) :
    wpAny (model prog w) A (call (.type "tuple") [.ref r]) Q E s:=by
  refine callType_newIn (S:=fun B R t=>B.handled=none∧OK t.heap∧∀ (h':Heap) (tk:Nat) (acc:Array Value),(∀ b o,t.heap.get? b=some o→h'.get? b=some o)→ItemsOf P acc n→R (.ok (.ret (.ref h'.objs.size))) { heap:=h'.push { cls:=.type "tuple",data:=.seq acc },gens:=t.gens,drawn:=t.drawn,toks:=tk,os:=t.os })
    F.called_tuple (by decide) (F.typeCall_tuple_1 _) ?c ?i F.entry_tuple_new ?m ⟨hh,ok,fun h' tk acc kp it=>?_⟩
  case m =>
    intro B R t hS
    obtain⟨b1,b2,b3⟩:=hS
    unfold Builtin.«tuple.__new__»
    dsimp only
    k_dat 0"r11"
    show wpAny _ _ (pure true) _ _ _
    k_dat 0"r17"
    rw [if_neg (by decide)]
    k_dat 0"r11"
    rw [isSubtype_tuple_tuple]
    k_dat 0"r17"
    rw [if_neg (by decide),if_neg (by rw [qP1];exact Bool.false_ne_true)]
    k_dat 0"r11"
    rw [madeHere_tuple]
    k_dat 0"r17"
    k_dat 0"r11"
    rw [F.called_tuple.init.lookup]
    k_dat 0"r17"
    rw [if_pos (by decide)]
    k_dat 0"r11"
    show wpAny _ _ (pure ()) _ _ _
    k_dat 0"r17"
    k_dat 0"r11"
    show wpAny _ _ (pure ()) _ _ _
    k_dat 0"r17"
    rw [if_pos (by decide)]
    k_dat 0"r11"
    unfold Builtin.Tuple.tupleIsExact
    k_dat 0"r11"
    refine wpAny_typeOf (S.type t b2) ?_
    k_dat 0"r17"
    rw [S.notTuple,if_neg Bool.false_ne_true]
    refine wpAny_bind (W.kdu_collect S b1 b2 hn fun h' tk acc kp it=>?_)
    refine wpAny_bind (wpAny_pure ?_)
    k_dat 0"r11"
    unfold Builtin.Tuple.tupleExact
    rw [Array.toArray_toList]
    exact wpAny_newObj_type (wpAny_pure (b3 h' tk acc kp it)) (hd:=by show acc.size≤sizeLine;rw [it.1];exact hn)
  case c=>exact qQL
  case i=>exact fun obj=>F.args_object_init_2 _ _
  refine⟨?_,h h' tk acc kp it⟩
  exact⟨_,Heap.get?_push_size _ rfl,rfl⟩
def qRh (to:TD):TD:=fun ρ st P=>to ρ st fun x st1=>∃ n kvs,x = .dic n∧st1[n]? = some (.dc kvs)∧P (.tup (kvs.map (·.2))) st1
theorem qKQ:typeOf (.builtin "dict.values")=pure (.type "method_descriptor"):=by show builtinType _=_;rw [builtinType_eq_fast];kernel_rfl
theorem qTm {κ:Type} {kvs:List (κ×V)} {vs:List (κ×Value)} (r:KV kvs vs):kvs.length=vs.length:=by
  induction r with
  | nil=>rfl
  | cons _ _ ih=>exact congrArg Nat.succ ih
theorem qP6 {κ:Type} {kvs:List (κ×V)} {vs:List (κ×Value)} (r:KV kvs vs):Vals (kvs.map (·.2)) (vs.map (·.2)):=by
  induction r with
  | nil=>exact .nil
  | cons h _ ih=>exact .cons h.2 ih
section
variable {X:Cx} {o:Expr} {to:TD} {p pos apos cpos:Pos}
theorem qNl (hc:X.calm=true) (hm:X.mg "tuple" = none) (ho:DE X o to) (hg:Gl X "tuple")
    (hbase:attributeBase o "values" X.env (eval o X.env)=eval o X.env) (hline:(apos.endLine==cpos.line)=true)
    (he:starEach [.Call (.Attribute o "values" apos) [] [] cpos] X.env=[(false,eval (.Call (.Attribute o "values" apos) [] [] cpos) X.env)]) :
    DE X (.Call (.Name "tuple" p) [.Call (.Attribute o "values" apos) [] [] cpos] [] pos) (qRh to):=by
  k_dat 0"r2"
  k_dat 0"r1"
  refine wpAny_Call_Name_kw (qFB I hg hm PyProof.Rows.boot_tuple ?_ (by decide) (by decide))
  refine PyProof.Rows.callWith_type1 ?_ he rfl
  rw [he]
  show wpAny _ _ (spliced ((false,eval (.Call (.Attribute o "values" apos) [] [] cpos) X.env)::[])) _ _ s
  refine Calls.spliced_cons ?_
  refine wpAny_Call_method0_late hbase hline (thn (ho pins s σ H (fun v H1=>∃ φ1 st1 d,Bhd X.K φ st H φ1 st1 H1∧D X.K φ1 st1.length H1 d v∧∃ n kvs,d = .dic n∧st1[n]? = some (.dc kvs)∧P (.tup (kvs.map (·.2))) st1) I ⟨φ,st,ρ,_,pre,ht,fun x st1 h1 φ1 H1 v b1 dx=>⟨φ1,st1,x,b1,dx,h1⟩⟩) fun v s1 hqz=>?_)
  obtain⟨x,H1,I1,r1,φ1,st1,d,b1,dx,n,kvs,rfl,e1,hp⟩:=hqz
  obtain⟨vs,hv,_,hk⟩:=b1.1.dc e1
  have ev:=dx.dic.2
  subst ev
  obtain⟨h1,h2⟩:=qO8 (T:= "dict") I1 r1 (.inr (.inr (.inl ⟨rfl,.inl ⟨_,hv⟩⟩)))
  cases r1
  obtain⟨z,hd,ws,rel,dd⟩:=qIJ I1.hok (show Rd H1 (φ1 n) (.dK vs) from .inl hv)
  refine⟨"dict", "dict.values",F.plainAttrs_dict,F.slot_dict_values,qKQ,h1,h2,Calls.callWith_builtin rfl (PySem.evalArgs_none ?_)⟩
  refine call_meetsIn F.slot_dict_values h1 F.entry_dict_values (F.args_dict_values_1 _) (meets_dict_values (qAg X.prog X.w) (φ1 n) hd) ⟨⟨ws,dd⟩,?_⟩
  refine Calls.spliced_nil ?_
  obtain⟨od,es,ep,d1,d2⟩:=dd
  have I2:Inv X pins σ H1 { s1 with heap:=s1.heap.push { cls:=.type "dict_values",data:=.fields #[.ref (φ1 n)] } }:=I1.kept (t':=s1.toks) fun b o e=>Heap.get?_push_of_some _ e
  refine qGR (W.kdl_values (knd:=qAg X.prog X.w) (kvs:=ws) (ep:=ep)) (I1.ok.hd hc) ⟨⟨_,Heap.get?_push_size _ rfl,rfl,rfl⟩,od,es,Heap.get?_push_of_some _ d1,d2⟩ (by rw [← qTm rel];exact z) fun h' tk acc kp it=>?_
  have I3:Inv X pins σ H1 { s1 with heap:=h',toks:=tk }:=I2.kept kp
  have hno:=I3.hok.fresh (Nat.le_refl h'.objs.size)
  have ea:acc.toList=ws.map (·.2):=by
    refine List.ext_getElem? fun i=>?_
    rw [List.getElem?_map,Array.getElem?_toList]
    cases e:acc[i]? with
    | none =>
      have hl:ws.length≤i:=by rw [← it.1];exact Array.getElem?_eq_none_iff.mp e
      rw [List.getElem?_eq_none hl];rfl
    | some v =>
      obtain⟨k,ek⟩:=it.2 i v e
      rw [ek];rfl
  have hv2:Vals (vs.map (·.2)) acc.toList:=by rw [ea];exact qP6 rel
  exact⟨.ref h'.objs.size,_,I3.laid (t':=tk) (fun b o e=>Heap.get?_push_of_some _ e) (Nat.le_refl _) (show qBH X.K X.prog X.w _ _ _ (.tup (vs.map (·.2))) from⟨by rw [List.length_map];exact z,acc.toList,hv2,qCH.new _ _⟩),rfl,hq _ _ hp _ _ _ (b1.trans (qCL b1.1 hno)) (.qDK (SqT.of qAH) (hk.2.evo (qB4 hno)))⟩
end
end L3
namespace L3
open PySem PySem.Spec PyProof.Rows L2
structure qE6 (P:Program) (w:World) (K:W.Frag) (mg:Str→Option Value) (base:Heap) (nm m:Str) (k:Nat) (sp:RDL) (dd:Dt):Prop where
  ex:∃ C f fd ps,W.nsIn K mainGlobals nm=some (some (.ref C))∧Cls K C∧Meth K C m f∧qAJ P w K mg base CX0 k f fd ps (qS K sp)∧Binds K fd ps []∧∃ u v,Binds K fd ps [u]∧RelV v u∧∀ φ N H,D K φ N H dd v
theorem qE6.full {P:Program} {w:World} {K:W.Frag} {mg:Str→Option Value} {base:Heap} {nm m:Str} {k:Nat} {sp:RDL} {dd:Dt} (F:qE6 P w K mg base nm m k sp dd):qA4 P w K mg base nm m k sp:=by
  obtain⟨C,f,fd,ps,h1,h2,h3,h4,h5,_⟩:=F.ex
  exact⟨C,f,fd,ps,h1,h2,h3,h4,h5⟩
section
variable {X:Cx} {o:Expr} {to:TD} {pos apos:Pos} {nm:Str}
theorem qLI {C:Addr} {nm m:Str} {sp:RDL} {dd:Dt} {vd:V} (hd:∀ φ N H,D X.K φ N H dd vd) {to:TD} {t:TAD} {σ:L2.St} {H:Hp} {Q:VK} (hn:W.nsIn X.K mainGlobals nm=some (some (.ref C))) (h:qAz X.K (qAn nm m (fun ds st P=>sp (ds++[dd]) st P) to t) σ H Q):qMB C m (qS X.K sp) [vd] E0 (qAz X.K to) (qJi X.K t) σ H Q:=by
  k_dat 0"r1"
  k_dat 0"r9"
  cases x with
  | ins n =>
    have h1:(match st1[n]? with
      | some (.ob c fs)=>c=nm∧fs.lookup m=none∧t ρ st1 fun ds st2=>sp ((.ins n::ds)++[dd]) st2 P
      | _=>False):=h1
    split at h1
    · rename_i c fs e1
      obtain⟨rfl,hl,h1⟩:=h1
      obtain⟨ca,da,vs,hv,_,hn',hk⟩:=b1.1.ob e1
      rw [hn] at hn'
      cases hn'
      k_dat 0"r65"
      · rcases hk.look m with ⟨_,z⟩ | ⟨d',v2,z1,_,_⟩
        · exact z
        · rw [hl] at z1;cases z1
      · exact⟨φ2,st2,(.ins n::ds)++[dd],P,b2.1,DL.append (.cons (dx.evo b2.2) dl) (.cons (hd _ _ _) .nil),h2,fun d st' hp φ' H' u b d'=>hq d st' hp φ' H' u ((b1.trans b2).trans b) d'⟩
    · exact h1.elim
  | _=>exact h1.elim
theorem qNN {k:Nat} {m:Str} {sp:RDL} {dd:Dt} {pl:Sem Bool} (F:qE6 X.prog X.w X.K X.mg X.base nm m k sp dd) (hr:qAx k X.A) (ho:DE X o to)
    (ht:eval (.Call (.Attribute o m apos) [] [] pos) X.env=(do
      let ov ← eval o X.env
      standAt apos.atName
      let (f,first) ← holding [ov] (getMethod ov m pl)
      callWith pos f first (backTo pos (starEach [] X.env)) (backToKw pos (keywordEach [] X.env)))):DE X (.Call (.Attribute o m apos) [] [] pos) (qAn nm m (fun ds st P=>sp (ds++[dd]) st P) to qG):=by
  obtain⟨C,f,fd,ps,h1,h2,h3,h4,_,u,v,h5,ru,hd⟩:=F.ex
  refine (qJe ho h2 h3 h4 hr h5 (.cons ru .nil) qH7 ht).imp fun σ H Q h=>?_
  obtain⟨φ,st,ρ,P,pre,ht,hq⟩:=qLI hd h1 h
  refine⟨φ,st,ρ,P,pre,ht,fun d st' hp φ' H' v b dv=>?_⟩
  obtain⟨a,dx,fs,e1,e2,e3,φ2,st2,ρ2,P2,pre2,ht2,hq2⟩:=hq d st' hp φ' H' v b dv
  exact⟨a,dx,fs,e1,e2,e3,hq2 [] st2 ht2 φ2 H' [] (.refl pre2.1) .nil⟩
end
end L3
namespace KW
end KW
namespace K20
open PySem L2 L3 KH KW
end K20
namespace K20
open PySem PySem.Spec PyProof.Rows L2 L3 KH KS KW
end K20
namespace K20
open PySem PySem.Spec PyProof.Rows L2 L3 KH KS KW
end K20
namespace KW
end KW
namespace K19
open PySem PySem.Spec PyProof.Rows L2 L3 KH
end K19
namespace K20
open PySem PySem.Spec PyProof.Rows L2 L3 KH KS KW
end K20
namespace K20
open PySem PySem.Spec PyProof.Rows L2 L3 KH KS KW
end K20
namespace KD
open PySem L2 L3 KH KS KW K20 K06
end KD
namespace K22
open PySem L2 L3 KH KS
namespace LS
end LS
end K22
namespace K22
open PySem L2 L3 KH KS
end K22
namespace K22
open PySem PySem.Spec PyProof.Rows L2 L3 KH KS
end K22
namespace K22
open PySem PySem.Spec PyProof.Rows L2 L3 KH KS
end K22
namespace K22
open PySem PySem.Spec PyProof.Rows L2 L3 KH KS
end K22
namespace K22
open PySem PySem.Spec PyProof.Rows L2 L3 KH KS
end K22
namespace K22
open PySem PySem.Spec PyProof.Rows L2 L3 KH KS
end K22
namespace KD
open PySem PySem.Spec PyProof.Rows L2 L3 KH KS KW K20 K06
end KD
namespace KD
open PySem PySem.Spec PyProof.Rows L2 L3 KH KS KW K20 K06
end KD
namespace KD
open PySem L2 L3 KH KS KW K20 K06
end KD
set_option maxHeartbeats 1000000
namespace K02
open PySem L2 L3
end K02
namespace K85
open PySem L2 L3 K02
end K85
namespace KL
open PySem L2 L3 K02 K85 K06
end KL
namespace KM
open PySem L2 L3 K02 K85 K06
end KM
namespace KT
open PySem L2 L3 K02 K85 K06 KM
end KT
namespace KU
open PySem L2 L3 K02 K85 K06 KM KT
end KU
namespace K02
open PySem L2 L3
end K02
namespace K02
open PySem PySem.Spec PyProof.Rows L2 L3
end K02
namespace K02
open PySem PySem.Spec PyProof.Rows L2 L3
end K02
namespace K85
open PySem PySem.Spec PyProof.Rows L2 L3 K02
end K85
namespace K85
open PySem PySem.Spec PyProof.Rows L2 L3 K02
end K85
namespace K02
open PySem L2 L3
end K02
namespace K02
open PySem PySem.Spec PyProof.Rows L2 L3
end K02
namespace K02
open PySem PySem.Spec PyProof.Rows L2 L3
end K02
namespace K85
open PySem PySem.Spec PyProof.Rows L2 L3 K02
end K85
namespace K85
open PySem PySem.Spec PyProof.Rows L2 L3 K02
end K85
namespace K85
open PySem PySem.Spec PyProof.Rows L2 L3 K02
end K85
namespace K85
open PySem PySem.Spec PyProof.Rows L2 L3 K02
end K85
namespace K85
open PySem PySem.Spec PyProof.Rows L2 L3 K02
end K85
namespace KL
open PySem PySem.Spec PyProof.Rows L2 L3 KS K02 K85 K06
end KL
namespace KT
open PySem PySem.Spec PyProof.Rows L2 L3 K02 K85 KM
end KT
namespace KM
open PySem PySem.Spec PyProof.Rows L2 L3 KS K02 K85 K06
end KM
namespace KM
open PySem PySem.Spec PyProof.Rows L2 L3 KS K02 K85 K06
end KM
namespace KM
open PySem PySem.Spec PyProof.Rows L2 L3 KS K02 K85 K06
end KM
namespace KM
open PySem PySem.Spec PyProof.Rows L2 L3 KS K02 K85 K06
end KM
namespace KM
open PySem PySem.Spec PyProof.Rows L2 L3 KS K02 K85 K06
end KM
namespace K85
open PySem PySem.Spec PyProof.Rows L2 L3 K02
end K85
namespace KL
open PySem PySem.Spec PyProof.Rows L2 L3 KS K02 K85 K06
end KL
namespace KT
open PySem PySem.Spec PyProof.Rows L2 L3 K02 K85 KM
end KT
namespace K85
open PySem PySem.Spec PyProof.Rows L2 L3 K02
end K85
namespace KT
open PySem PySem.Spec PyProof.Rows L2 L3 K02 K85 KM
end KT
namespace K85
open PySem PySem.Spec PyProof.Rows L2 L3 K02
end K85
namespace K85
open PySem PySem.Spec PyProof.Rows L2 L3 K02
end K85
namespace KT
open PySem PySem.Spec PyProof.Rows L2 L3 K02 K85 KM
end KT
namespace KU
open PySem PySem.Spec PyProof.Rows L2 L3 K02 K85 K06 KM KT
end KU
namespace K62
open PySem L2 L3 K02 K85 K06 KM
end K62
namespace K62
open PySem L2 L3 K02 K85 K06 KM
end K62
namespace K62
open PySem PySem.Spec PyProof.Rows L2 L3 KS K02 K85 K06 KM KL
end K62
namespace K62
open PySem PySem.Spec PyProof.Rows L2 L3 KS K02 K85 K06 KM KL
end K62
namespace K62
open PySem PySem.Spec PyProof.Rows L2 L3 KS K02 K85 K06 KM KL
end K62
namespace KU
open PySem PySem.Spec PyProof.Rows L2 L3 K02 K85 K06 KM KT
end KU
namespace KU
open PySem PySem.Spec PyProof.Rows L2 L3 K02 K85 K06 KM KT
end KU
namespace KU
open PySem PySem.Spec PyProof.Rows L2 L3 K02 K85 K06 KM KT
end KU
namespace KU
open PySem PySem.Spec PyProof.Rows L2 L3 K02 K85 K06 KM KT
end KU
namespace KU
open PySem PySem.Spec PyProof.Rows L2 L3 K02 K85 K06 KM KT
end KU
namespace KU
open PySem L2 L3 K02 K85 K06 KM KT
end KU
namespace KU
open PySem L2 L3 K02 K85 K06 KM KT
end KU
namespace K25
open PySem L2 L3 KH KS KW K20 K06 KD
namespace Tq
end Tq
end K25
namespace K25
open PySem L2 L3 KH KS KW K20 K06 KD
end K25
namespace K25
open PySem L2 L3 KH KS KW K20 K06 KD
end K25
namespace K25
open PySem L2 L3 KH KS KW K20 K06 KD
end K25
namespace K25
open PySem L2 L3 KH KS KW K20 K06 KD
end K25
namespace K25
open PySem L2 L3 KH KS KW K20 K06 KD
end K25
namespace K25
open PySem L2 L3 KH KS KW K20 K06 KD
end K25
namespace K25
open PySem L2 L3 KH KS KW K20 K06 KD
end K25
namespace K22
open PySem PySem.Spec PyProof.Rows L2 L3 KH KS
end K22
namespace K22
open PySem PySem.Spec PyProof.Rows L2 L3 KH KS
end K22
namespace K25
open PySem PySem.Spec PyProof.Rows L2 L3 KH KS K22
end K25
namespace KD
open PySem PySem.Spec PyProof.Rows L2 L3 KH KS KW K20 K06
end KD
namespace K25
open PySem PySem.Spec PyProof.Rows L2 L3 KH KS KW K20 K06 KD
end K25
namespace K25
open PySem L2 L3 KH KS KW K20 K06 KD
end K25
namespace K25
open PySem PySem.Spec PyProof.Rows L2 L3 KH KS KW K20 K06 KD
end K25
namespace K18
open PySem L2 L3 KH KW K20
end K18
namespace KR
open PySem L2 L3 KH KW K20
end KR
namespace KR
open PySem L2 L3 KH KW K20
open Classical
variable {ns:List Nd} {n x y:Nat} {z:Res}
end KR
namespace KR
open PySem PySem.Spec PyProof.Rows L2 L3 KH KS KW K20
abbrev Ev (te:TD) (ρ:Rho) (st:Sto) (d:Dt):Prop:=∀ P:VD,P d st→te ρ st P
abbrev EvB (c:TBD) (ρ:Rho) (st:Sto) (b:Bool):Prop:=∀ P:Bool→Sto→Prop,P b st→c ρ st P
section
variable {E:qA0} {ρ:Rho} {st st':Sto} {A C N:TSD} {te ta tb:TD} {c c1 c2:TBD} {b b1 b2:Bool} {i j:Nat} {d:Dt}
theorem qC (h:ρ[i]? = some (some d)):Ev (qB i) ρ st d:=fun P hp=>by unfold qB;rw [h];exact hp
theorem qF:Ev (qD d) ρ st d:=fun P hp=>hp
theorem qAA {xs:List Dt} (h:Ev te ρ st (.tup xs)) (e:xs[j]? = some d):Ev (qE qL te (qD (.int (j:Int)))) ρ st d:=fun P hp=>h _ (by
  show (match atI xs (j:Int) with | some d=>P d st | none=>False)
  rw [qBQ e];exact hp)
theorem seq1 (h:A { E with nx:=N E } ρ st):tseq A N E ρ st:=h
theorem q8 {te:TD} {i:Nat} (h:te ρ st fun d s1=>N E (ρ.set i (some d)) s1):tseq (qR te (qP i)) N E ρ st:=h
theorem ifS (h1:EvB c ρ st b) (qt:b=true→A E ρ st) (qf:b=false→C E ρ st):qo c A C E ρ st:=by
  refine h1 _ ?_
  cases b with
  | true=>exact qCD (qt rfl)
  | false=>exact qBK (qf rfl)
theorem qy (h1:EvB c ρ st b) (qt:b=true→A { E with nx:=N E } ρ st) (qf:b=false→N E ρ st):tseq (qo c A qJ) N E ρ st:=seq1 (ifS h1 qt qf)
theorem evb (h:Ev te ρ st (.bl b)):EvB (qM te) ρ st b:=fun P hp=>h _ hp
theorem qAQ (h:EvB c ρ st b):EvB (qBG c) ρ st (!b):=fun P hp=>h _ hp
theorem qAK (h1:EvB c1 ρ st b1) (h2:b1=false→EvB c2 ρ st b2):EvB (qBl c1 c2) ρ st (b1 || b2):=fun P hp=>h1 _ (by
  cases b1 with
  | true=>exact qCD hp
  | false=>exact qBK (h2 rfl P hp))
theorem qz (h1:EvB c1 ρ st b1) (h2:b1=true→EvB c2 ρ st b2):EvB (qAp c1 c2) ρ st (b1&&b2):=fun P hp=>h1 _ (by
  cases b1 with
  | true=>exact qCD (h2 rfl P hp)
  | false=>exact qBK hp)
theorem qAN (h1:Ev ta ρ st (.bl b1)) (h2:b1=true→Ev tb ρ st (.bl b2)):Ev (qBw ta tb) ρ st (.bl (b1&&b2)):=fun P hp=>h1 _ (by
  cases b1 with
  | true=>exact qCD (h2 rfl P hp)
  | false=>exact qBK hp)
theorem qAy (h:Ev ta ρ st (.bl b)):Ev (qCA ta) ρ st (.bl (!b)):=fun P hp=>h _ hp
theorem qAm {d1 d2:Dt} (h:EvB c ρ st b) (q1:b=true→Ev ta ρ st d1) (q2:b=false→Ev tb ρ st d2):Ev (qCk c ta tb) ρ st (if b=true then d1 else d2):=fun P hp=>h _ (by
  cases b with
  | true=>exact qCD (q1 rfl P hp)
  | false=>exact qBK (q2 rfl P hp))
theorem qAE {a s:Str} (h:Ev te ρ st (.str a)):Ev (qE (qZ false) te (qD (.str s))) ρ st (.bl (a==s)):=fun P hp=>h _ ⟨rfl,rfl,by
  have e:(eqD 8 (.str a) (.str s) != false)=(a==s):=by show ((a==s) != false)=_;rw [Bool.bne_false]
  rw [e];exact hp⟩
theorem qAe {a s:Str} (h:Ev te ρ st (.str a)):Ev (qE (qZ true) te (qD (.str s))) ρ st (.bl (!(a==s))):=fun P hp=>h _ ⟨rfl,rfl,by
  have e:(eqD 8 (.str a) (.str s) != true) = !(a==s):=by show ((a==s) != true)=_;rw [Bool.bne_true]
  rw [e];exact hp⟩
theorem ql {x y:Int} (h:Ev ta ρ st (.int x)) (h2:Ev tb ρ st (.int y)):Ev (qE (qZ false) ta tb) ρ st (.bl (decide (x=y))):=fun P hp=>h _ (h2 _ ⟨rfl,rfl,by
  have e:(eqD 8 (.int x) (.int y) != false)=decide (x=y):=by show ((x==y) != false)=_;rw [Bool.bne_false];rfl
  rw [e];exact hp⟩)
theorem qBZ {w:Str}:∀ ss:List Str,(ss.map Dt.str).any (fun z=>eqD 0 z (.str w))=ss.contains w
  | []=>rfl
  | s :: r=>by
    rw [List.map_cons,List.any_cons,qBZ r,List.contains_cons]
    show (s==w || _)=_
    have:(s==w)=(w==s):=by
      by_cases q:s=w
      · subst q;rfl
      · rw [beq_eq_false_iff_ne.mpr q,beq_eq_false_iff_ne.mpr (Ne.symm q)]
    rw [this]
theorem qCQ (ss:List Str):(ss.map Dt.str).all (okD 0)=true:=by
  rw [List.all_eq_true]
  intro d hd
  obtain⟨s,_,rfl⟩:=List.mem_map.mp hd
  rfl
theorem qA2 {neg:Bool} {w:Str} {ss:List Str} (h:Ev ta ρ st (.str w)) (h2:Ev tb ρ st (.tup (ss.map .str))):Ev (qE (qCJ neg) ta tb) ρ st (.bl (ss.contains w != neg)):=fun P hp=>h _ (h2 _ (by
  refine⟨rfl,qCQ ss,?_⟩
  rw [qBZ];exact hp))
theorem qh {sp:RDL} {t:TAD} {ds:List Dt} (h:∀ P:List Dt→Sto→Prop,P ds st→t ρ st P) (hs:∀ P:VD,P d st→sp ds st P):Ev (qI sp t) ρ st d:=fun P hp=>h _ (hs P hp)
theorem qT:∀ P:List Dt→Sto→Prop,P [] st→qG ρ st P:=fun P hp=>hp
theorem qH {t:TAD} {ds:List Dt} (h:Ev te ρ st d) (h2:∀ P:List Dt→Sto→Prop,P ds st→t ρ st P):∀ P:List Dt→Sto→Prop,P (d::ds) st→qA te t ρ st P:=fun P hp=>h _ (h2 _ hp)
theorem qe {t:TAD} {ds:List Dt} (h:∀ P:List Dt→Sto→Prop,P ds st→t ρ st P) (hl:ds.length≤sizeLine):Ev (qAf t) ρ st (.tup ds):=fun P hp=>h _ ⟨hl,hp⟩
theorem qGV {l:List Dt} (h:Ev te ρ st (.tup l)):Ev (qI qAs (qA te (qA (qD (Dt.ty "tuple")) qG))) ρ st (.bl true):=fun P hp=>h _ ⟨by decide,hp⟩
theorem qAL {l:List Dt} (h:Ev te ρ st (.tup l)):Ev (qI qBE (qA te qG)) ρ st (.int (l.length:Int)):=fun P hp=>h _ hp
theorem rdR (h:Ev te ρ st d) (hp:E.rt d st):tseq (qX te) N E ρ st:=h _ hp
theorem qAd {x y:Int} (h:Ev ta ρ st (.int x)) (h2:Ev tb ρ st (.int y)):Ev (qE (qAO fun i j=>decide (j<i)) ta tb) ρ st (.bl (decide (y<x))):=fun P hp=>h _ (h2 _ hp)
theorem qV {x y:Int} (h:Ev ta ρ st (.int x)) (h2:Ev tb ρ st (.int y)):Ev (qE L3.qAT ta tb) ρ st (.int (x+y)):=fun P hp=>h _ (h2 _ hp)
theorem qAP {x y:Int} (h:Ev ta ρ st (.int x)) (h2:Ev tb ρ st (.int y)):Ev (qE L3.qC2 ta tb) ρ st (.int (x - y)):=fun P hp=>h _ (h2 _ hp)
theorem q9 {l:List Dt} (h:Ev te ρ st d) (hs:qd st d=some l):Ev (qI qBE (qA te qG)) ρ st (.int (l.length:Int)):=fun P hp=>h _ (by
  cases d with
  | tup xs=>have:xs=l:=Option.some.inj hs;subst this;exact hp
  | lst n=>show (match qd st (.lst n) with | some xs=>_ | none=>_);rw [hs];exact hp
  | _=>cases hs)
theorem qAC {l:List Dt} {d2:Dt} (h:Ev ta ρ st d) (hs:qd st d=some l) (h2:Ev tb ρ st (.int (i:Int))) (e:l[i]? = some d2):Ev (qE qL ta tb) ρ st d2:=fun P hp=>h _ (h2 _ (by
  cases d with
  | tup xs =>
    have:xs=l:=Option.some.inj hs
    subst this
    show (match atI xs (i:Int) with | some d=>P d st | none=>False)
    rw [qBQ e];exact hp
  | lst n=>exact qU7 hs (qBQ e) hp
  | _=>cases hs))
end
end KR
namespace KR
open PySem PySem.Spec PyProof.Rows L2 L3 KH KS KW K20
end KR
namespace KR
open PySem PySem.Spec PyProof.Rows L2 L3 KH KS KW K20
end KR
namespace KR
open PySem PySem.Spec PyProof.Rows L2 L3 KH KS KW K20
end KR
namespace KR
open PySem PySem.Spec PyProof.Rows L2 L3 KH KS KW K20
end KR
namespace KR
open PySem PySem.Spec PyProof.Rows L2 L3 KH KS KW K20
end KR
namespace K40
open PySem PySem.Spec PyProof.Rows L2 L3 KH KS KW K20 KR
open Classical
end K40
namespace K40
open PySem PySem.Spec PyProof.Rows L2 L3 KH KS KW K20 KR
open Classical
end K40
namespace K40
open PySem PySem.Spec PyProof.Rows L2 L3 KH KS KW K20 KR KD K25
end K40
namespace K40
open PySem PySem.Spec PyProof.Rows L2 L3 KH KS KW K20 KR KD K25
open Classical
end K40
namespace K40
open PySem PySem.Spec PyProof.Rows L2 L3 KH KS KW K20 KR KD K25
open Classical
end K40
namespace K42
open PySem PySem.Spec PyProof.Rows L2 L3 KH KS KW K20 KR KD K25 K40
open Classical
end K42
namespace K40
open PySem PySem.Spec PyProof.Rows L2 L3 KH KS KW K20 KR KD K25
open Classical
end K40
namespace K40
open PySem PySem.Spec PyProof.Rows L2 L3 KH KS KW K20 KR KD K25
end K40
namespace K40
open PySem PySem.Spec PyProof.Rows L2 L3 KH KS KW K20 KR KD K25
open Classical
end K40
namespace K31
open PySem L2 L3 KH KW K20 KR
end K31
namespace K31
open PySem PySem.Spec PyProof.Rows L2 L3 KH KS KW K20
open KR (Ev EvB qC qF qAA seq1 q8 qy ifS evb qA2 qe qH qT rdR qAE ql qBZ qCQ qAC qh q9 qV qAd)
abbrev EvX (te:TD) (ρ:Rho) (st:Sto) (d:Dt):Prop:=∀ P:VD,(∀ st',qx st st'→P d st')→te ρ st P
abbrev qBR (c:TBD) (ρ:Rho) (st:Sto) (b:Bool):Prop:=∀ P:Bool→Sto→Prop,(∀ st',qx st st'→P b st')→c ρ st P
section
variable {E:qA0} {ρ:Rho} {st st':Sto} {A C N:TSD} {te ta tb:TD} {c c1 c2:TBD} {b b1 b2:Bool} {i j:Nat} {d:Dt}
theorem qAl (h:Ev te ρ st d):EvX te ρ st d:=fun P hp=>h P (hp st (.refl _))
theorem xb (h:EvX te ρ st (.bl b)):qBR (qM te) ρ st b:=fun P hp=>h _ hp
theorem qAS {x y:Int} (h:Ev ta ρ st (.int x)) (h2:Ev tb ρ st (.int y)):Ev (qE (qAO fun i j=>decide (i<j)) ta tb) ρ st (.bl (decide (x<y))):=fun P hp=>h _ (h2 _ hp)
theorem qBm {t:TAD} {ds:List Dt} {v:Int} (h:∀ P:List Dt→Sto→Prop,P ds st→t ρ st P) (hl:ds.length≤1000) (h2:∀ st',qx st st'→EvX tb ρ st' (.int v)) (e:atI ds v=some d):EvX (qE qL (qAc t) tb) ρ st d:=fun P hp=>h _ ⟨Nat.le_of_lt (qFJ hl),h2 _ (.app _ _) _ fun st1 x1=>qSN (x1 _ _ qj) e (hp st1 ((qx.app _ _).trans x1))⟩
end
end K31
namespace K18
open PySem PySem.Spec PyProof.Rows L2 L3 KH KS KW K20
end K18
namespace K31
open PySem PySem.Spec PyProof.Rows L2 L3 KH KS KW K20
open KR (Ev EvB qC qF qAA seq1 q8 qy ifS evb qA2 qe qH qT rdR qAE ql qBZ qCQ qAC qh q9 qV qAd qAK qAN)
section
variable {E:qA0} {ρ:Rho} {st st':Sto} {A C N:TSD} {te ta tb:TD} {c c1 c2:TBD} {b b1 b2:Bool} {i j:Nat} {d:Dt}
theorem qBs (h:Ev te ρ st (.bl b)):Ev (qI qLe (qA te qG)) ρ st (.int (if b=true then 1 else 0)):=fun P hp=>h _ (by cases b<;>exact hp)
end
end K31
namespace K31
open PySem PySem.Spec PyProof.Rows L2 L3 KH KS KW K20
open KR (Ev EvB qC qF qAA seq1 q8 qy ifS evb qA2 qe qH qT rdR qAE ql qBZ qCQ qAC qh q9 qV qAd qAK qAN)
end K31
namespace K31
open PySem PySem.Spec PyProof.Rows L2 L3 KH KS KW K20
open KR (Ev EvB qC qF qAA seq1 q8 qy ifS evb qA2 qe qH qT rdR qAE ql qBZ qCQ qAC qh q9 qV qAd qAK qAN)
end K31
namespace K31
open PySem PySem.Spec PyProof.Rows L2 L3 KH KS KW K20
open KR (Ev EvB qC qF qAA seq1 q8 qy ifS evb qA2 qe qH qT rdR qAE ql qBZ qCQ qAC qh q9 qV qAd qAK qz qAN)
theorem qk {v:Int} {n:Nat} (h:0<n):∃ m:Nat,v%(n:Int)=(m:Int)∧m<n:=by
  have h1:=Int.emod_nonneg v (show (n:Int)≠0 by lia)
  have h2:=Int.emod_lt_of_pos v (show (0:Int)<n by lia)
  exact⟨(v%n).toNat,by lia,by lia⟩
theorem qi {ρ:Rho} {st:Sto} {ta tb:TD} {x y:Int} (h:Ev ta ρ st (.int x)) (h2:Ev tb ρ st (.int y)) (h0:0<y) (h1:y<1073741824):Ev (qE qAk ta tb) ρ st (.int (x / y)):=fun P hp=>h _ (h2 _ ⟨⟨h0,h1⟩,hp⟩)
theorem qFn {ρ:Rho} {st:Sto} {ta tb:TD} {x y:Int} (h:Ev ta ρ st (.int x)) (h2:EvX tb ρ st (.int y)) (h0:0<y):EvX (qE qAB ta tb) ρ st (.int (x%y)):=fun P hp=>h _ (h2 _ fun st' x'=>⟨h0,hp st' x'⟩)
theorem qAY {ρ:Rho} {st:Sto} {sp:RDL} {t:TAD} {ds:List Dt} {P:VD} (h:∀ P:List Dt→Sto→Prop,P ds st→t ρ st P) (hs:sp ds st P):qI sp t ρ st P:=h _ hs
theorem qEG {ρ:Rho} {st:Sto} {ta te:TD} {tc:TBD} {caps:List (Nat×Str)} {n:Nat} {P:VD} (h:Ev ta ρ st (.int (n:Nat))) (hn:n≤1000) (q:qFi (qCr 0 n) (fun _=>True) tc te (qJT caps ρ) st fun ys s2=>P (.lst s2.length) (s2++[.rw ys])):qBx (qBN ta) tc te caps ρ st P:=h _ (by
  refine⟨by lia,by lia,?_⟩
  rw [Int.toNat_natCast];exact q)
end K31
namespace K31
open PySem PySem.Spec PyProof.Rows L2 L3 KH KS KW K20
open KR (Ev EvB qC qF qAA seq1 q8 qy ifS evb qA2 qe qH qT rdR qAE ql qBZ qCQ qAC qh q9 qV qAd qAK qz qAN)
section
variable {E:qA0} {ρ:Rho} {st st':Sto} {N:TSD} {te:TD} {v f:Nat} {xs:List Dt} {d:Dt}
theorem qDQ (hl:Ev (qB v) ρ st (.lst f)) (he:EvX te ρ st d) (h:st[f]? = some (.rw xs)) (hn:xs.length<sizeLine) (q:∀ st1,qx st st1→N E ρ (st1.set f (.rw (xs++[d])))):tseq (qAo (qAU (qB v) te)) N E ρ st:=by
  show qAU (qB v) te ρ st fun _ st1=>N E ρ st1
  unfold qAU
  refine hl _ ?_
  refine he _ fun st1 x1=>?_
  show (match st1[f]? with | some (.rw xs)=>_ | _=>_)
  rw [x1 _ _ h]
  exact⟨hn,q st1 x1⟩
theorem qBc {sp:RDL} {t:TAD} {ds:List Dt} (h:∀ P:List Dt→Sto→Prop,P ds st→t ρ st P) (q:sp ds st E.rt):tseq (qX (qI sp t)) N E ρ st:=h _ q
end
end K31
namespace K40
open PySem PySem.Spec PyProof.Rows L2 L3 KH KS KW K20 KR KD K25
open Classical
section
variable {E:qA0} {ρ:Rho} {st:Sto} {N:TSD} {te ta tb:TD} {i n:Nat} {d:Dt} {c f:Str} {fs:List (Str×Dt)} {kvs:List (List Key×Dt)} {k:List Key} {x:Dt}
theorem qW (hv:Ev te ρ st (.ins n)) (ho:st[n]? = some (.ob c fs)) (hl:fs.lookup f=some d):Ev (qAG c te f) ρ st d:=fun P hp=>hv _ (by
  k_dat 0"r53"
  rw [ho]
  refine⟨rfl,?_⟩
  rw [hl];exact hp)
theorem qBt {xs:List Dt} (hl:Ev ta ρ st (.lst n)) (he:Ev te ρ st d) (h:st[n]? = some (.rw xs)) (hn:xs.length<sizeLine) (q:N E ρ (st.set n (.rw (xs++[d])))):tseq (qAo (qAU ta te)) N E ρ st:=hl _ (he _ (by
  show (match st[n]? with | some (.rw xs)=>_ | _=>_)
  rw [h];exact⟨hn,q⟩))
theorem qBg {st1:Sto} (he:∀ P:VD,P d st1→te ρ st P) (ha:Ev ta ρ st1 (.ins n)) (ho:st1[n]? = some (.ob c fs)) (hl:fs.length<1000) (q:N E ρ (st1.set n (.ob c (qCO f d fs)))):tseq (qR te (qBU c ta f)) N E ρ st:=he _ (ha _ (by
  show (match st1[n]? with | some (.ob c' fs)=>_ | _=>_)
  rw [ho];exact⟨rfl,hl,q⟩))
end
theorem line {n:Nat} (h:n≤100000):n<sizeLine:=Nat.lt_of_le_of_lt h (by decide)
theorem qBn {Fr:Sto} {o o':SO} {xs:Sto}:(Fr++(o::xs)).set Fr.length o'=Fr++(o'::xs):=by
  rw [List.set_append_right _ _ (Nat.le_refl _),Nat.sub_self];rfl
theorem qBa {Fr:Sto} {o y:SO} {xs:Sto}:(Fr++(o::xs))++[y]=Fr++(o::(xs++[y])):=by simp
theorem qBX {Fr:Sto} {o:SO} {xs:Sto}:(Fr++(o::xs)).length=Fr.length+(xs.length+1):=by simp
end K40
namespace K40
open PySem PySem.Spec PyProof.Rows L2 L3 KH KS KW K20 KR KD K25
open K31 (EvX qBR qAl xb qAY qBc qDQ)
open Classical
end K40
namespace K40
open PySem PySem.Spec PyProof.Rows L2 L3 KH KS KW K20 KR KD K25
open K31 (EvX qBR qAl xb qAY qBc qDQ)
open Classical
theorem qAF {ρ:Rho} {st:Sto} {te:TD} {d:Dt} {xs:List Dt} (h:Ev te ρ st d) (hs:qd st d=some xs):Ev (qI qAa (qA te qG)) ρ st (.tup xs):=fun P hp=>h _ (by
  show (match qd st d with | some xs=>_ | none=>_)
  rw [hs];exact hp)
end K40
namespace K40
open PySem PySem.Spec PyProof.Rows L2 L3 KH KS KW K20 KR KD K25
open K31 (EvX qBR qAl xb qAY qBc qDQ)
open Classical
section
variable {E:qA0} {N:TSD} {ρ:Rho} {st:Sto} {te ta tb to:TD} {t:TAD} {c m:Str} {fs:List (Str×Dt)} {n:Nat} {sp:RDL} {P:VD}
theorem qA6 (hv:Ev to ρ st (.ins n)) (ho:st[n]? = some (.ob c fs)) (hl:fs.lookup m=none) (h:t ρ st fun ds st2=>sp (.ins n::ds) st2 P):qAn c m sp to t ρ st P:=hv _ (by
  k_dat 0"r53"
  rw [ho];exact⟨rfl,hl,h⟩)
end
end K40
namespace K42
open PySem PySem.Spec PyProof.Rows L2 L3 KH KS KW K20 KR KD K25 K40
-- nothing opened
open Classical
end K42
namespace K42
open PySem PySem.Spec PyProof.Rows L2 L3 KH KS KW K20 KR KD K25 K40
-- nothing opened
open Classical
end K42
namespace K40
open PySem PySem.Spec PyProof.Rows L2 L3 KH KS KW K20 KR KD K25
open K31 (EvX qBR qAl xb qAY qBc qDQ)
open Classical
end K40
namespace K76
open PySem L2 L3 KS K06 K17 KN
structure Hd where
  given:List Int
  bells:List Int
  ring:Int
structure Hd.Ok (h:Hd):Prop where
  g:∀ x∈h.given,0≤x∧x<65536
  gl:h.given.length≤100
  bl:h.bells.length≤100
  r:0≤h.ring
structure RSt where
  s:RS
  done:Nat
  ended:Option Str
  ent:List Dt
  last:Nat
noncomputable def enD:Option Str→Dt
  | none=>.non
  | some w=>.str w
def qRb (l:List Dt) (j:Nat):Prop:=∃ (l':List Dt) (r:List Dt),l=l'++[.tup (.int (j:Nat)::r)]
structure RSt.Ok (R:RSt):Prop where
  o:Ok2 R.s.g
  e:qRb R.ent R.last
  el:R.ent.length≤R.done+1
  ll:R.last≤R.done∧(R.last=R.done∨R.ent.length≤R.done)
  tl:R.s.told.length≤R.done
noncomputable def qHJ (R:RSt):List Dt:=if R.last=R.done then R.ent else R.ent++[.tup [.int (R.done:Nat),R.s.g.d,.int (R.s.heard:Nat),.int (R.s.rung:Nat)]]
noncomputable def goR (h:Hd) (R:RSt):RSt:=if (qA7 h.given (qAv h.bells h.ring R.done R.s)).1 = "on" then ⟨qB8 h.given (qAv h.bells h.ring R.done R.s),R.done+1,none,qHJ R,R.done⟩ else ⟨qAv h.bells h.ring R.done R.s,R.done,some (qA7 h.given (qAv h.bells h.ring R.done R.s)).1,qHJ R,R.done⟩
noncomputable def qAu (h:Hd):Nat→RSt→RSt
  | 0,R=>R
  | n+1,R=>match R.ended with
    | none=>qAu h n (goR h R)
    | some _=>R
noncomputable def qD6 (R:RSt):Dt:=.tup [.str (R.ended.getD "more"),R.s.g.d,.tup (R.s.told.map .int),.int (R.done:Nat),.int (R.s.heard:Nat),.int (R.s.rung:Nat)]
theorem qJ3 {R:RSt} (h:R.Ok):qRb (qHJ R) R.done:=by
  unfold qHJ
  split
  · rename_i e;rw [← e];exact h.e
  · exact⟨_,_,rfl⟩
theorem qJV {R:RSt} (h:R.Ok):(qHJ R).length≤R.done+1:=by
  unfold qHJ
  split
  · exact h.el
  · rename_i e
    rw [List.length_append]
    rcases h.ll.2 with q | q
    · exact absurd q e
    · exact Nat.succ_le_succ q
theorem qPd {h:Hd} {R:RSt} (ho:h.Ok) (o:R.Ok):(goR h R).Ok:=by
  have b:=qHY (bells:=h.bells) (ring:=h.ring) (done:=R.done) o.o ho.r
  have bt:=qMN (bells:=h.bells) (ring:=h.ring) (done:=R.done) (s:=R.s)
  unfold goR
  split
  · obtain⟨n1,n2⟩:=qH3 b ho.g
    refine⟨n1,qJ3 o,Nat.le_succ_of_le (qJV o),⟨Nat.le_succ _,.inr (qJV o)⟩,?_⟩
    rw [bt] at n2
    exact Nat.le_trans n2 (Nat.succ_le_succ o.tl)
  · exact⟨b,qJ3 o,qJV o,⟨Nat.le_refl _,.inl rfl⟩,by rw [bt];exact o.tl⟩
theorem qOu {h:Hd} (ho:h.Ok):∀ (n:Nat) {R:RSt},R.Ok→(qAu h n R).Ok
  | 0,R,o=>o
  | n+1,R,o=>by
    unfold qAu
    split
    · exact qOu ho n (qPd ho o)
    · exact o
theorem qLt {h:Hd} {R:RSt}:(goR h R).done=R.done+1∧(goR h R).ended=none∨(goR h R).done=R.done∧(goR h R).ended≠none:=by
  unfold goR
  split
  · exact .inl ⟨rfl,rfl⟩
  · exact .inr ⟨rfl,nofun⟩
theorem qL3 {h:Hd}:∀ (n:Nat) {R:RSt},R.ended=none→(qAu h n R).ended=none∧(qAu h n R).done=R.done+n∨(qAu h n R).ended≠none∧(qAu h n R).done≤R.done+n
  | 0,R,e=>.inl ⟨e,rfl⟩
  | n + 1,R,e=>by
    unfold qAu
    rw [e]
    show (qAu h n (goR h R)).ended=none∧_∨_
    rcases qLt (h:=h) (R:=R) with ⟨d,e2⟩ | ⟨d,e2⟩
    · rcases qL3 n e2 with ⟨a,b⟩ | ⟨a,b⟩
      · exact .inl ⟨a,by rw [b,d];lia⟩
      · exact .inr ⟨a,by rw [d] at b;show (qAu h n (goR h R)).done≤_;lia⟩
    · refine .inr ?_
      have:qAu h n (goR h R)=goR h R:=by
        cases n with
        | zero=>rfl
        | succ n =>
          unfold qAu
          split
          · rename_i q;exact absurd q e2
          · rfl
      show (qAu h n (goR h R)).ended≠none∧(qAu h n (goR h R)).done≤_
      rw [this,d]
      exact⟨e2,Nat.le_add_right _ _⟩
theorem qL4 {h:Hd}:∀ (n:Nat) {R:RSt},R.ended=none→qD6 (qAu h n R)=qHb (qIm h.given h.bells h.ring n R.done R.s)
  | 0,R,e=>by
    show qD6 R=qHb ("more",R.s,R.done)
    unfold qD6 qHb
    rw [e];rfl
  | n + 1,R,e=>by
    unfold qAu qIm
    rw [e]
    show qD6 (qAu h n (goR h R))=_
    by_cases q:(qA7 h.given (qAv h.bells h.ring R.done R.s)).1 = "on"
    · rw [if_pos q]
      have eg:goR h R=⟨qB8 h.given (qAv h.bells h.ring R.done R.s),R.done+1,none,qHJ R,R.done⟩:=if_pos q
      rw [eg]
      exact qL4 n rfl
    · rw [if_neg q]
      have eg:goR h R=⟨qAv h.bells h.ring R.done R.s,R.done,some (qA7 h.given (qAv h.bells h.ring R.done R.s)).1,qHJ R,R.done⟩:=if_neg q
      rw [eg]
      cases n<;>rfl
theorem qMV {h:Hd} {R:RSt} {m:Nat} (e:R.ended=none) (d:R.done≤m):qAu h (m - (qAu h (m - R.done) R).done) (qAu h (m - R.done) R)=qAu h (m - R.done) R:=by
  rcases qL3 (h:=h) (m - R.done) e with ⟨a,b⟩ | ⟨a,b⟩
  · rw [b,show m - (R.done+(m - R.done))=0 by lia];rfl
  · cases m - (qAu h (m - R.done) R).done with
    | zero=>rfl
    | succ k =>
      rw [qAu]
      split
      · rename_i q;exact absurd q a
      · rfl
end K76
namespace K76
open PySem L2 L3 KS K06 K17 KN
noncomputable def kpF (N:Nat):List (Str×Dt):=[("held",.dic (N+2)),("bindings",.dic (N+3))]
noncomputable def qFR (n:Nat):List (Key×Dt):=[(.inr "host rows",.int 0),(.inr "single rows",.int (n:Nat)),(.inr "entries",.int 0),(.inr "by bindings",.int 0),(.inr "made",.int 0)]
noncomputable def qCB (N:Nat) (h:Hd) (R:RSt):List (Str×Dt):=[("now",R.s.g.d),("given",.tup (h.given.map .int)),("bells",.tup (h.bells.map .int)),("ring",.int h.ring),("policy",.tup []),("used",.int 0),("keeper",.ins (N+1)),("binding",.dic (N+4)),("behind",.non),("ended",enD R.ended),("told",.lst (N+5)),("done",.int (R.done:Nat)),("heard",.int (R.s.heard:Nat)),("rung",.int (R.s.rung:Nat)),("entries",.lst (N+6)),("tally",.dic (N+7))]
structure RA (Fr st:Sto) (h:Hd) (R:RSt) (n:Nat):Prop where
  x:qx Fr st
  o:st[Fr.length]? = some (.ob "Runner" (qCB Fr.length h R))
  k:st[Fr.length+1]? = some (.ob "Keeper" (kpF Fr.length))
  d:st[Fr.length+2]? = some (.dc [])
  t:st[Fr.length+5]? = some (.rw (R.s.told.map .int))
  e:st[Fr.length+6]? = some (.rw R.ent)
  y:st[Fr.length+7]? = some (.dc (qFR n))
def Kp (Fr st st':Sto):Prop:=∀ (j:Nat) o,Fr.length+8≤j→st[j]? = some o→st'[j]? = some o
section
variable {Fr st st' st'':Sto} {h:Hd} {R:RSt} {n:Nat}
theorem Kp.refl:Kp Fr st st:=fun _ _ _ h=>h
theorem Kp.trans (a:Kp Fr st st') (b:Kp Fr st' st''):Kp Fr st st'':=fun j o h e=>b j o h (a j o h e)
theorem Kp.ext (x:qx st st'):Kp Fr st st':=fun j o _ e=>x j o e
theorem qHQ {j:Nat} {o:SO} (hj:j<Fr.length+8):Kp Fr st (st.set j o):=fun i o' hi e=>L3.qN e (by lia)
theorem RA.ext (a:RA Fr st h R n) (x:qx st st'):RA Fr st' h R n:=⟨a.x.trans x,x _ _ a.o,x _ _ a.k,x _ _ a.d,x _ _ a.t,x _ _ a.e,x _ _ a.y⟩
theorem qLs {j:Nat} {o:SO} (x:qx Fr st) (hj:Fr.length≤j):qx Fr (st.set j o):=fun i o' hi=>L3.qN (x _ _ hi) (by have:=L3.qq hi;lia)
theorem RA.fld (a:RA Fr st h R n) {R':RSt} (ht:R'.s.told=R.s.told) (he:R'.ent=R.ent):RA Fr (st.set Fr.length (.ob "Runner" (qCB Fr.length h R'))) h R' n :=
  ⟨qLs a.x (Nat.le_refl _),L3.qAV a.o,L3.qN a.k (by lia),L3.qN a.d (by lia),by rw [ht];exact L3.qN a.t (by lia),by rw [he];exact L3.qN a.e (by lia),L3.qN a.y (by lia)⟩
theorem RA.told (a:RA Fr st h R n) (l:List Int):RA Fr (st.set (Fr.length+5) (.rw (l.map .int))) h { R with s:={ R.s with told:=l } } n :=
  ⟨qLs a.x (by lia),L3.qN a.o (by lia),L3.qN a.k (by lia),L3.qN a.d (by lia),L3.qAV a.t,L3.qN a.e (by lia),L3.qN a.y (by lia)⟩
theorem RA.qVX (a:RA Fr st h R n) (l:List Dt) (j:Nat):RA Fr (st.set (Fr.length+6) (.rw l)) h { R with ent:=l,last:=j } n :=
  ⟨qLs a.x (by lia),L3.qN a.o (by lia),L3.qN a.k (by lia),L3.qN a.d (by lia),L3.qN a.t (by lia),L3.qAV a.e,L3.qN a.y (by lia)⟩
theorem RA.tal (a:RA Fr st h R n) (m:Nat):RA Fr (st.set (Fr.length+7) (.dc (qFR m))) h R m :=
  ⟨qLs a.x (by lia),L3.qN a.o (by lia),L3.qN a.k (by lia),L3.qN a.d (by lia),L3.qN a.t (by lia),L3.qN a.e (by lia),L3.qAV a.y⟩
end
def KA (st:Sto) (k:Nat):Prop:=∃ d b,st[k]? = some (.ob "Keeper" [("held",.dic d),("bindings",b)])∧st[d]? = some (.dc [])
theorem RA.ka {Fr st:Sto} {h:Hd} {R:RSt} {n:Nat} (a:RA Fr st h R n):KA st (Fr.length+1):=⟨_,_,a.k,a.d⟩
def qJc:RDL:=fun ds st P=>∃ (g:GS) (bells:List Int) (rung done:Nat),ds=[g.d,.tup (bells.map .int),.int rung,.int done]∧P (.bl (qPN bells g rung done)) st
def qEi:RDL:=fun ds st P=>∃ Fr:Sto,ds=[.ins Fr.length]∧st=Fr++[.ob "Keeper" []]∧P .non (Fr++[.ob "Keeper" [("held",.dic (Fr.length+1)),("bindings",.dic (Fr.length+2))],.dc [],.dc []])
def qBC:RDL:=fun ds st P=>∃ (k:Nat) (p:Int),ds=[.ins k,.int p]∧KA st k∧P .non st
def qDn:RDL:=fun ds st P=>∃ k:Nat,ds=[.ins k]∧KA st k∧P (.lst st.length) (st++[.rw []])
def PgD (d:Dt):Prop:=d = .non∨∃ i,d = .int i
def qEL:RDL:=fun ds st P=>∃ (k:Nat) (d:Dt),ds=[.ins k,d]∧PgD d∧KA st k∧∀ st',qx st st'→P (.int 0) st'
def qDv:RDL:=fun ds st P=>∃ (c:Int) (g:GS),ds=[.int c,g.d]∧0≤c∧c<65536∧g.Ok∧∀ d,PgD d→P d st
def qEz:RDL:=fun ds st P=>∃ rs ts:List Int,ds=[.tup (rs.map .int),.tup (ts.map .int)]∧rs.length=ts.length∧rs.length≤100∧(∀ x∈rs,0≤x∧x<8)∧(∀ x∈ts,0≤x∧x<8)∧∀ (ps:List Int) (n:Nat) st',ps.length≤100→qx st st'→st'[n]? = some (.rw (ps.map .int))→P (.lst n) st'
noncomputable def R0 (g:GS):RSt:=⟨s0 g,0,none,[.tup [.int 0,g.d,.int 0,.int 0]],0⟩
def qEf:RDL:=fun ds st P=>∃ (Fr:Sto) (g:GS) (gi be po:Nat) (h:Hd),ds=[.ins Fr.length,g.d,.lst gi,.lst be,.int h.ring,.lst po]∧st=Fr++[.ob "Runner" []]∧qD4 Fr gi h.given∧qD4 Fr be h.bells∧qD4 Fr po []∧∀ st',RA Fr st' h (R0 g) 0→P .non st'
def qGM:RDL:=fun ds st P=>∃ (Fr:Sto) (h:Hd) (R:RSt) (n:Nat),ds=[.ins Fr.length]∧RA Fr st h R n∧P R.s.g.d st
def qI3:RDL:=fun ds st P=>∃ (Fr:Sto) (h:Hd) (R:RSt) (n:Nat),ds=[.ins Fr.length]∧RA Fr st h R n∧P .non st
def qGO:RDL:=fun ds st P=>∃ (Fr:Sto) (h:Hd) (R:RSt) (n:Nat) (rs:List Int),ds=[.ins Fr.length,.tup (rs.map .int)]∧RA Fr st h R n∧rs.length=R.s.g.rs.length∧rs.length≤100∧(∀ x∈rs,0≤x∧x<8)∧(∀ x∈R.s.g.rs,0≤x∧x<8)∧∀ st',qx st st'→P .non st'
noncomputable def qJb (h:Hd) (R:RSt):RSt:=if (qA7 h.given R.s).1 = "on" then { R with s:=qB8 h.given R.s,done:=R.done+1 } else { R with ended:=some (qA7 h.given R.s).1 }
def qE3:RDL:=fun ds st P=>∃ (Fr:Sto) (h:Hd) (R:RSt),ds=[.ins Fr.length]∧RA Fr st h R R.done∧h.Ok∧Ok2 R.s.g∧R.s.g.rs.length≤100∧R.s.told.length≤5000∧∀ st',RA Fr st' h (qJb h R) (qJb h R).done→Kp Fr st st'→P .non st'
def qIq:RDL:=fun ds st P=>∃ (Fr:Sto) (h:Hd) (R:RSt) (m:Int),ds=[.ins Fr.length,.int m]∧RA Fr st h R R.done∧h.Ok∧R.Ok∧R.ended=none∧R.s.g.rs.length≤100∧R.done≤1000∧∀ st',RA Fr st' h (goR h R) (goR h R).done→Kp Fr st st'→P .non st'
def qFr:RDL:=fun ds st P=>∃ (Fr:Sto) (h:Hd) (R:RSt) (m:Nat),ds=[.ins Fr.length,.int (m:Nat)]∧RA Fr st h R R.done∧h.Ok∧R.Ok∧R.s.g.rs.length≤100∧m≤1000∧∀ st',RA Fr st' h (qAu h (m - R.done) R) (qAu h (m - R.done) R).done→Kp Fr st st'→P (qD6 (qAu h (m - R.done) R)) st'
def qGD:RDL:=fun ds st P=>∃ (Fr:Sto) (h:Hd) (R:RSt) (n:Nat),ds=[.ins Fr.length]∧RA Fr st h R n∧∀ st' m,qx st st'→st'[m]? = some (.rw [])→P (.lst m) st'
def qEt:RDL:=fun ds st P=>∃ (Fr:Sto) (h:Hd) (R:RSt) (n:Nat),ds=[.ins Fr.length]∧RA Fr st h R n∧P (.tup [.int 0,.int (n:Nat),.int 0,.int 0,.int 0]) st
end K76
namespace K31
open PySem PySem.Spec PyProof.Rows L2 L3 KH KS KW K20
open KR (Ev EvB qC qF qAA seq1 q8 qy ifS evb qA2 qe qH qT rdR qAE ql qBZ qCQ qAC qh q9 qAL qV qAd qAK qz qAN)
end K31
namespace K31
open PySem PySem.Spec PyProof.Rows L2 L3 KH KS KW K20
open KR (Ev EvB qC qF qAA seq1 q8 qy ifS evb qA2 qe qH qT rdR qAE ql qBZ qCQ qAC qh q9 qAL qV qAd qAK qz qAN)
end K31
namespace K76
open PySem PySem.Spec PyProof.Rows L2 L3 KH KS K06 K17 KN
open KR (Ev EvB qC qF qAA seq1 q8 ifS qy evb qAQ qAK qz qAN qAm qAE qAe ql qh qT qH qe qAL rdR qV qAP qAC q9)
open K31 (EvX qBR qAl xb qAS qAY qBc qi)
open K40 (qW qBg qBt qBn qBa qBX qA6)
abbrev qJq:TSD:=(tseq (qX (qBw (qE (qBV false) (qE qL (qB 0) (qD (Dt.int 3))) (qD Dt.non)) (qBw (qE (qAO fun i j=>decide (i<j)) (qB 2) (qI qBE (qA (qB 1) qG))) (qE (qAO fun i j=>decide (i≤j)) (qE qL (qB 1) (qB 2)) (qB 3))))) qJ)
abbrev qCo:TSD:=(tseq (qR qHG (qBU "Keeper" (qB 0) "held")) (tseq (qR qHG (qBU "Keeper" (qB 0) "bindings")) qJ))
abbrev qC6:TSD:=(tseq (qX (qCk (qM (qE (qPX false) (qB 1) (qAG "Keeper" (qB 0) "held"))) qKh (qD Dt.non))) qJ)
abbrev qC0:TSD:=(tseq (qX (qCk (qM (qE (qPX false) (qB 1) (qAG "Keeper" (qB 0) "held"))) qKh (qD Dt.non))) qJ)
abbrev qEH:TSD:=(tseq (qX (qI qLY (qA (qAG "Keeper" (qB 0) "held") qG))) qJ)
abbrev qEB:TSD:=(tseq (qX (qI qLv (qA (qBx (qCN (qAn "Keeper" "kept" K76.qDn (qB 0) qG)) qLL qKh [(1, "page"),(0, "self")]) qG))) qJ)
abbrev qDc:TSD:=(tseq (qR (qI K01.qBo (qA (qB 0) qG)) (qP 2)) (tseq (qX (qCk (qM (qE (qZ false) (qE qL (qB 2) (qD (Dt.int 0))) (qD (Dt.str "set")))) (qE qAk (qE L3.qAT (qE qL (qE qL (qB 1) (qD (Dt.int 1))) (qE qL (qB 2) (qD (Dt.int 2)))) (qE qL (qB 2) (qD (Dt.int 3)))) (qD (Dt.int 8))) (qD Dt.non))) qJ))
abbrev qDk:TSD:=(tseq (qX (qLA (qN4 (qB 0)) (qAp (qLy (qE qCK (qB 1) (qD (Dt.int 4)))) (qBG (qLy (qE qCK (qE qL (qB 2) (qB 0)) (qD (Dt.int 4)))))) (qB 0) [(1, "behind")])) qJ)
section
variable {ρ:Rho} {st:Sto} {te ta tb:TD} {n:Nat} {d:Dt}
theorem qOR {x y:Int} (h:Ev ta ρ st (.int x)) (h2:Ev tb ρ st (.int y)):Ev (qE (qAO fun i j=>decide (i≤j)) ta tb) ρ st (.bl (decide (x≤y))):=fun P hp=>h _ (h2 _ hp)
theorem qRk {g:GS} (h:Ev te ρ st (svD g.sv)):Ev (qE (qBV false) te (qD Dt.non)) ρ st (.bl g.sv.isNone):=fun P hp=>h _ (by
  cases q:g.sv with
  | none=>rw [q] at hp;exact hp
  | some qm=>rw [q] at hp;exact hp)
theorem qGn {xs:List Int} {i:Nat} (h:Ev ta ρ st (.tup (xs.map .int))) (h2:Ev tb ρ st (.int (i:Nat))) (hi:i<xs.length):Ev (qE qL ta tb) ρ st (.int (xs.getD i 0)):=by
  refine qAC h rfl h2 ?_
  k_dat 0"r75"
theorem qGL {xs:List Int} (h:Ev te ρ st (.tup (xs.map .int))):Ev (qI qBE (qA te qG)) ρ st (.int (xs.length:Nat)):=by
  have:=qAL h
  rw [List.length_map] at this
  exact this
end
theorem qM3 {ds:List Dt} {st:Sto} {Pd:VD} (h:qJc ds st Pd):qJq (Ed Pd) (qU ["state", "bells", "rung", "done"] ds) st:=by
  obtain⟨g,bells,rung,done,rfl,hP⟩:=h
  refine rdR (d:=.bl (qPN bells g rung done)) ?_ hP
  refine qAN (qRk (qAA (j:=3) (qC (i:=0) rfl) rfl)) fun _=>?_
  have e:decide (rung<bells.length)=decide ((rung:Int)<(bells.length:Nat)):=decide_eq_decide.mpr ⟨fun h=>by lia,fun h=>by lia⟩
  rw [e]
  refine qAN (qAS (qC (i:=2) rfl) (qGL (qC (i:=1) rfl))) fun hb=>?_
  exact qOR (qGn (qC (i:=1) rfl) (qC (i:=2) rfl) (by have:=of_decide_eq_true hb;lia)) (qC (i:=3) rfl)
theorem qEP {ds:List Dt} {st:Sto} {Pd:VD} (h:qEi ds st Pd):qCo (Ed Pd) (qU ["self"] ds) st:=by
  obtain⟨Fr,rfl,rfl,hP⟩:=h
  refine qBg (d:=.dic (Fr.length+1)) (st1:=Fr++[.ob "Keeper" [],.dc []]) (fun P hp=>?_) (qC (i:=0) rfl) (fs:=[]) (by simp) (by decide) ?_
  · show P (.dic (Fr++[SO.ob "Keeper" []]).length) (Fr++[.ob "Keeper" []]++[.dc []])
    rw [qBa,qBX];exact hp
  rw [qBn]
  refine qBg (d:=.dic (Fr.length+2)) (st1:=Fr++[.ob "Keeper" [("held",.dic (Fr.length+1))],.dc [],.dc []]) (fun P hp=>?_) (qC (i:=0) rfl) (fs:=[("held",.dic (Fr.length+1))]) (by simp) (by show 1<1000;decide) ?_
  · show P (.dic (Fr++[SO.ob "Keeper" [("held",.dic (Fr.length+1))],.dc []]).length) (Fr++[.ob "Keeper" [("held",.dic (Fr.length+1))],.dc []]++[.dc []])
    rw [qBa,qBX];exact hp
  rw [qBn]
  exact hP
theorem qL8 {ρ:Rho} {st:Sto} {k d:Nat} {b:Dt} {p:Int} {tp tk:TD} (hp:Ev tp ρ st (.int p)) (hk:Ev tk ρ st (.ins k)) (h1:st[k]? = some (.ob "Keeper" [("held",.dic d),("bindings",b)])) (h2:st[d]? = some (.dc [])):EvB (qM (qE (qPX false) tp (qAG "Keeper" tk "held"))) ρ st false :=
  evb fun P q=>hp _ (qW hk h1 rfl _ (by
    show (match st[d]?,qI2 (.int p) with | some (.dc kvs),some k=>_ | _,_=>_)
    rw [h2];exact q))
theorem qE2 {ds:List Dt} {st:Sto} {Pd:VD} (h:qBC ds st Pd):qC6 (Ed Pd) (qU ["self", "place"] ds) st:=by
  obtain⟨k,p,rfl,⟨d,b,h1,h2⟩,hP⟩:=h
  k_dat 0"r76"
theorem qEc {ds:List Dt} {st:Sto} {Pd:VD} (h:qBC ds st Pd):qC0 (Ed Pd) (qU ["self", "place"] ds) st:=by
  obtain⟨k,p,rfl,⟨d,b,h1,h2⟩,hP⟩:=h
  k_dat 0"r76"
theorem qHU {ds:List Dt} {st:Sto} {Pd:VD} (h:qDn ds st Pd):qEH (Ed Pd) (qU ["self"] ds) st:=by
  obtain⟨k,rfl,⟨d,b,h1,h2⟩,hP⟩:=h
  exact qBc (qH (qW (qC (i:=0) rfl) h1 rfl) qT) ⟨d,rfl,h2,hP⟩
theorem qMy {ok:Sto→Prop} {tc:TBD} {te:TD} {cρ:Rho} {st:Sto} {Fin:List Dt→Sto→Prop} (hok:ok st) (hF:Fin [] st):qFi [] ok tc te cρ st Fin :=
  ⟨fun _ ys s=>ys=[]∧s=st,⟨rfl,rfl⟩,(fun _ _ s _ q=>q.2 ▸ hok),(fun i d _ _ hd=>by cases hd),fun ys s q=>by rw [q.1,q.2];exact hF⟩
theorem qj {st:Sto} {o:SO}:(st++[o])[st.length]? = some o:=by simp
theorem qRa {ρ:Rho} {st:Sto} {k:Nat} {tk:TD} {tc:TBD} {te:TD} {caps:List (Nat×Str)} {P:VD} (hk:Ev tk ρ st (.ins k)) (ha:KA st k) (q:P (.lst (st++[SO.rw []]).length) (st++[SO.rw []]++[SO.rw []])):qBx (qCN (qAn "Keeper" "kept" K76.qDn tk qG)) tc te caps ρ st P:=by
  have ha':=ha
  obtain⟨d,b,h1,h2⟩:=ha'
  refine qA6 hk h1 rfl ⟨k,rfl,ha,?_⟩
  show (match qd (st++[.rw []]) (.lst st.length) with | some xs=>_ | none=>_)
  have e:qd (st++[.rw []]) (.lst st.length)=some []:=by
    show ((st++[SO.rw []])[st.length]?).map SO.items=_
    rw [qj];rfl
  rw [e]
  exact qMy e q
theorem qHX {ds:List Dt} {st:Sto} {Pd:VD} (h:qEL ds st Pd):qEB (Ed Pd) (qU ["self", "page"] ds) st:=by
  obtain⟨k,d,rfl,_,ha,hP⟩:=h
  refine qRa (P:=fun d' st'=>qLv [d'] st' Pd) (qC (i:=0) rfl) ha ?_
  show (match (st++[SO.rw []]++[SO.rw []])[(st++[SO.rw []]).length]? with | some o=>_ | none=>_)
  rw [qj]
  exact⟨[],rfl,hP _ (.trans (.app _ _) (.app _ _))⟩
end K76
namespace K76
open PySem PySem.Spec PyProof.Rows L2 L3 KH KS K06 K17 KN
open KR (Ev EvB qC qF qAA seq1 q8 ifS qy evb qAQ qAK qz qAN qAm qAE qAe ql qh qT qH qe qAL rdR qV qAP qAC q9)
open K31 (EvX qBR qAl xb qAS qAY qBc qi qk)
open K40 (qW qBg qBt qBn qBa qBX qA6)
abbrev qEI:TSD:=(tseq (qo (qM (qE (qZ false) (qI qBE (qA (qAG "Runner" (qB 0) "policy") qG)) (qD (Dt.int 0)))) (tseq qNT qJ) qJ) qJX)
abbrev qDr:TSD:=(tseq (qX (qAG "Runner" (qB 0) "now")) qJ)
abbrev qEE:TSD:=(tseq (qX (qBx (qCN (qAn "Keeper" "kept" K76.qDn (qAG "Runner" (qB 0) "keeper") qG)) (fun x st P=>P true st) (qAf (qA (qB 0) (qA qKh qG))) [(0, "self")])) qJ)
abbrev qDN:TSD:=(tseq (qX (qRh (qAG "Runner" (qB 0) "tally"))) qJ)
abbrev qB7:TSD:=(tseq (qD2 (qCN (qI K76.qEz (qA (qB 1) (qA (qE qL (qAG "Runner" (qB 0) "now") (qD (Dt.int 4))) qG)))) (qP 2) (tseq (qAo (qAn "Keeper" "shut" K76.qEL (qAG "Runner" (qB 0) "keeper") (qA (qB 2) qG))) qJ)) qJ)
section
variable {ρ:Rho} {st:Sto} {te ta tb:TD} {n:Nat} {d:Dt}
theorem qLx {i:Int} (h:Ev te ρ st (.int i)):EvB (qLy te) ρ st (i != 0):=fun P hp=>h _ ⟨i,rfl,hp⟩
theorem qL9 {x y:Int} (h:Ev ta ρ st (.int x)) (h2:Ev tb ρ st (.int y)):Ev (qE qCK ta tb) ρ st (.int (Builtin.bitAnd x y)):=fun P hp=>h _ (h2 _ hp)
end
theorem qF0 {ds:List Dt} {st:Sto} {Pd:VD} (h:qDv ds st Pd):qDc (Ed Pd) (qU ["number", "state", "row"] ds) st:=by
  obtain⟨c,g,rfl,c0,c1,ok,hP⟩:=h
  refine q8 (qAY (qH (qC (i:=0) rfl) qT) ⟨c,rfl,?_⟩)
  obtain⟨k,hk,hk8⟩:=qk (v:=c / 64) (n:=8) (by decide)
  refine rdR (qAm (d1:=.int ((g.bs.getD k 0+c%64) / 8)) (d2:=.non) (evb (qAE (a:=K01.wordOf (c / 4096%16)) (qAA (j:=0) (qC (i:=2) rfl) rfl))) (fun _=>?_) fun _=>qF) (hP _ ?_)
  · refine qi (qV (qGn (i:=k) (xs:=g.bs) (qAA (j:=1) (qC (i:=1) rfl) rfl) ?_ (by have:=ok.b8;lia)) (qAA (j:=3) (qC (i:=2) rfl) rfl)) qF (by decide) (by decide)
    rw [← hk]
    exact qAA (j:=2) (qC (i:=2) rfl) rfl
  · split
    · exact .inr ⟨_,rfl⟩
    · exact .inl rfl
theorem qF4 {ds:List Dt} {st:Sto} {Pd:VD} (h:qEz ds st Pd):qDk (Ed Pd) (qU ["before", "behind"] ds) st:=by
  obtain⟨rs,ts,rfl,hl,hl2,hr,ht,hP⟩:=h
  refine⟨fun i ys s=>(∃ ps:List Int,ys=ps.map .int∧ps.length≤i)∧s=st,⟨⟨[],rfl,Nat.le_refl _⟩,rfl⟩,(fun _ _ _ _ _=>trivial),?_,?_⟩
  · rintro i d ys s hd ⟨⟨ps,rfl,hp⟩,rfl⟩
    obtain⟨x,hx,rfl⟩:=qHZ hd
    have hi:=L3.qq hd
    rw [qDo,List.length_map] at hi
    rw [List.getElem?_map,List.getElem?_eq_getElem hi] at hx
    cases hx
    refine⟨by rw [List.length_map];exact Nat.lt_of_le_of_lt hp (Nat.lt_of_lt_of_le hi (Nat.le_trans hl2 (by decide))),_,_,rfl,?_⟩
    have hv:Ev (qE qL (qB 2) (qB 0)) [some (.int ((0+i:Nat):Int)),some (.int rs[i]),some (.tup (ts.map .int))] s (.int (ts.getD (0+i) 0)):=qGn (i:=0+i) (qC (i:=2) rfl) (qC (i:=0) rfl) (by lia)
    refine qz (qLx (qL9 (qC (i:=1) rfl) qF)) (fun _=>qAQ (qLx (qL9 hv qF))) _ ?_
    generalize (Builtin.bitAnd rs[i] 4 != 0 && !(Builtin.bitAnd (ts.getD (0+i) 0) 4 != 0))=b
    cases b with
    | true=>exact⟨⟨ps++[((0+i:Nat):Int)],by rw [List.map_append];rfl,by rw [List.length_append];exact Nat.succ_le_succ hp⟩,rfl⟩
    | false=>exact⟨⟨ps,rfl,Nat.le_succ_of_le hp⟩,rfl⟩
  · rintro ys s ⟨⟨ps,rfl,hp⟩,rfl⟩
    rw [qDo,List.length_map] at hp
    exact hP ps _ _ (Nat.le_trans hp hl2) (.app _ _) qj
theorem qVn {E:qA0} {ρ:Rho} {st:Sto} {N:TSD} {sp:RDL} {t:TAD} {ds:List Dt} {g:TGD} {tb:TSD} (h:∀ P:List Dt→Sto→Prop,P ds st→t ρ st P) (q:sp ds st fun x st1=>match qd st1 x with
    | some xs=>qMI xs (fun st'=>qd st' x=some xs) g tb { E with nx:=N E } ρ st1
    | none=>False):tseq (qD2 (qCN (qI sp t)) g tb) N E ρ st:=by
  show qCN (qI sp t) ρ st fun items ok st1=>qMI items ok g tb { E with nx:=N E } ρ st1
  unfold qCN
  exact h _ q
theorem qDP {ds:List Dt} {st:Sto} {Pd:VD} (h:qGO ds st Pd):qB7 (Ed Pd) (qU ["self", "before", "page"] ds) st:=by
  obtain⟨Fr,h,R,n,rs,rfl,a,hl,hl2,hr,ht,hP⟩:=h
  have hn:Ev (qE qL (qAG "Runner" (qB 0) "now") (qD (Dt.int 4))) [some (.ins Fr.length),some (.tup (rs.map .int)),none] st (.tup (R.s.g.rs.map .int)):=qAA (j:=4) (qW (qC (i:=0) rfl) a.o rfl) rfl
  refine qVn (qH (qC (i:=1) rfl) (qH hn qT)) ⟨rs,R.s.g.rs,rfl,hl,hl2,hr,ht,fun ps m st1 hp x1 hm=>?_⟩
  have es:∀ s,qx st1 s→qd s (.lst m)=some (ps.map .int):=fun s x=>by
    show (s[m]?).map SO.items=_
    rw [x _ _ hm];rfl
  show (match qd st1 (.lst m) with | some xs=>_ | none=>_)
  rw [es st1 (.refl _)]
  refine⟨fun i ρ s=>(∃ o,ρ=[some (.ins Fr.length),some (.tup (rs.map .int)),o])∧qx st1 s,⟨⟨_,rfl⟩,.refl _⟩,(fun i ρ s _ q=>es s q.2),?_,?_⟩
  · rintro i d ρ s hd ⟨⟨o,rfl⟩,x⟩
    rw [List.getElem?_map] at hd
    obtain⟨p,_,rfl⟩:=Option.map_eq_some_iff.mp hd
    have a2:=a.ext (x1.trans x)
    refine qA6 (qW (qC (i:=0) rfl) a2.o rfl) a2.k rfl ?_
    exact qC (i:=2) rfl _ ⟨_,_,rfl,.inr ⟨p,rfl⟩,a2.ka,fun st' x'=>⟨⟨_,rfl⟩,x.trans x'⟩⟩
  · rintro ρ s ⟨⟨o,rfl⟩,x⟩
    exact hP s (x1.trans x)
theorem qGj {ds:List Dt} {st:Sto} {Pd:VD} (h:qI3 ds st Pd):qEI (Ed Pd) (qU ["self", "number", "place", "rows", "made", "other"] ds) st:=by
  obtain⟨Fr,h,R,n,rfl,a,hP⟩:=h
  refine qy (b:=true) (evb (ql (x:=0) (y:=0) (qAL (l:=[]) (qW (qC (i:=0) rfl) a.o rfl)) qF)) (fun _=>hP) (fun e=>nomatch e)
theorem qFx {ds:List Dt} {st:Sto} {Pd:VD} (h:qGM ds st Pd):qDr (Ed Pd) (qU ["self"] ds) st:=by
  obtain⟨Fr,h,R,n,rfl,a,hP⟩:=h
  exact rdR (qW (qC (i:=0) rfl) a.o rfl) hP
theorem qHA {ds:List Dt} {st:Sto} {Pd:VD} (h:qGD ds st Pd):qEE (Ed Pd) (qU ["self"] ds) st:=by
  obtain⟨Fr,h,R,n,rfl,a,hP⟩:=h
  exact qRa (P:=Pd) (qW (qC (i:=0) rfl) a.o rfl) a.ka (hP _ _ (.trans (.app _ _) (.app _ _)) qj)
theorem qFZ {ds:List Dt} {st:Sto} {Pd:VD} (h:qEt ds st Pd):qDN (Ed Pd) (qU ["self"] ds) st:=by
  obtain⟨Fr,h,R,n,rfl,a,hP⟩:=h
  have e:Ev (qAG "Runner" (qB 0) "tally") [some (.ins Fr.length)] st (.dic (Fr.length+7)):=qW (qC (i:=0) rfl) a.o rfl
  exact e (fun x st1=>∃ (n:Nat) (kvs:List (Key×Dt)),x = .dic n∧st1[n]? = some (.dc kvs)∧Pd (Dt.tup (kvs.map (fun kv:Key×Dt=>kv.2))) st1) ⟨_,qFR n,rfl,a.y,hP⟩
end K76
namespace K40
open PySem PySem.Spec PyProof.Rows L2 L3 KH KS KW K20 KR KD K25
open K31 (EvX qBR qAl xb qAY qBc qDQ)
open Classical
section
variable {Fr st:Sto} {g:Nat} {s:Sh} {E:qA0} {N:TSD} {ρ:Rho}
theorem qCG {n:Nat} {c f:Str} {fs:List (Str×Dt)} {to te:TD} {i j:Int} (hv:Ev to ρ st (.ins n)) (ho:st[n]? = some (.ob c fs)) (hl:fs.lookup f=some (.int i)) (he:Ev te ρ st (.int j)) (hn:fs.length<1000) (q:N E ρ (st.set n (.ob c (qCO f (.int (i+j)) fs)))):tseq (qH1 c to te f) N E ρ st:=hv _ (by
  k_dat 0"r53"
  rw [ho]
  refine⟨rfl,?_⟩
  rw [hl]
  refine he _ ?_
  show (match Dt.int j,st[n]? with | .int j,some (.ob c2 fs2)=>_ | _,_=>_)
  rw [ho];exact⟨rfl,hn,q⟩)
end
end K40
namespace K76
open PySem PySem.Spec PyProof.Rows L2 L3 KH KS K06 K17 KN
open KR (Ev EvB qC qF qAA seq1 q8 ifS qy evb qAQ qAK qz qAN qAm qAE qAe ql qh qT qH qe qAL rdR qV qAP qAC q9)
open K31 (EvX qBR qAl xb qAS qAY qBc qi qk)
open K40 (qW qBg qBt qBn qBa qBX qA6 qCG)
abbrev sg4:TSD:=(tseq (qR (qE qL (qB 2) (qD (Dt.int 1))) (qBU "Runner" (qB 0) "now")) (tseq (qAo (qIX (qAG "Runner" (qB 0) "told") (qE qL (qB 2) (qD (Dt.int 2))))) (tseq (qH1 "Runner" (qB 0) (qD (Dt.int 1)) "done") (tseq (qR (qD Dt.non) (qBU "Runner" (qB 0) "behind")) (tseq (qPb (qAG "Runner" (qB 0) "tally") (qD (Dt.str "single rows")) (qD (Dt.int 1))) (tseq (qAo (qAn "Keeper" "shut" K76.qEL (qAG "Runner" (qB 0) "keeper") (qA (qI K76.qDv (qA (qE qL (qE qL (qB 1) (qD (Dt.int 5))) (qE qL (qB 1) (qD (Dt.int 0)))) (qA (qB 1) qG))) qG))) (tseq (qAo (qAn "Runner" "shut_closed" K76.qGO (qB 0) (qA (qE qL (qB 1) (qD (Dt.int 4))) qG))) qJ)))))))
abbrev sg3:TSD:=(tseq (qo (qAp (qM (qE (qAO fun i j=>decide (i<j)) (qAG "Runner" (qB 0) "heard") (qI qBE (qA (qAG "Runner" (qB 0) "given") qG)))) (qM (qI KN.qHR (qA (qB 1) qG)))) (tseq (qH1 "Runner" (qB 0) (qD (Dt.int 1)) "heard") qJ) qJ) sg4)
abbrev sg2:TSD:=(tseq (qo (qM (qE (qZ true) (qE qL (qB 2) (qD (Dt.int 0))) (qD (Dt.str "on")))) (tseq (qR (qE qL (qB 2) (qD (Dt.int 0))) (qBU "Runner" (qB 0) "ended")) (tseq qNT qJ)) qJ) sg3)
abbrev qCc:TSD:=(tseq (qR (qAG "Runner" (qB 0) "now") (qP 1)) (tseq (qR (qI K06.qGG (qA (qB 1) (qA (qCk (qM (qE (qAO fun i j=>decide (i<j)) (qAG "Runner" (qB 0) "heard") (qI qBE (qA (qAG "Runner" (qB 0) "given") qG)))) (qE qL (qAG "Runner" (qB 0) "given") (qAG "Runner" (qB 0) "heard")) (qD (Dt.int 0))) qG))) (qP 2)) sg2))
section
variable {N:Nat} {h:Hd} {g:GS} {hd ru dn la:Nat} {to:List Int} {en:Option Str} {et:List Dt}
noncomputable abbrev mkR (g:GS) (hd ru:Nat) (to:List Int) (dn:Nat) (en:Option Str) (et:List Dt) (la:Nat):RSt:=⟨⟨g,hd,ru,to⟩,dn,en,et,la⟩
theorem qLl (g':GS):qCO "now" g'.d (qCB N h (mkR g hd ru to dn en et la))=qCB N h (mkR g' hd ru to dn en et la):=rfl
theorem qQu (w:Str):qCO "ended" (.str w) (qCB N h (mkR g hd ru to dn en et la))=qCB N h (mkR g hd ru to dn (some w) et la):=rfl
theorem qM0 (k:Nat):qCO "heard" (.int (k:Nat)) (qCB N h (mkR g hd ru to dn en et la))=qCB N h (mkR g k ru to dn en et la):=rfl
theorem qPF (k:Nat):qCO "rung" (.int (k:Nat)) (qCB N h (mkR g hd ru to dn en et la))=qCB N h (mkR g hd k to dn en et la):=rfl
theorem qN6 (k:Nat):qCO "done" (.int (k:Nat)) (qCB N h (mkR g hd ru to dn en et la))=qCB N h (mkR g hd ru to k en et la):=rfl
theorem qG5:qCO "behind" .non (qCB N h (mkR g hd ru to dn en et la))=qCB N h (mkR g hd ru to dn en et la):=rfl
end
section
variable {E:qA0} {ρ:Rho} {st:Sto} {N:TSD} {te:TD} {Fr:Sto} {h:Hd} {R:RSt} {n:Nat}
theorem qMH:(qCB Fr.length h R).length<1000:=by show 16<1000;decide
theorem qPR {f:Str} {d:Dt} {R':RSt} (a:RA Fr st h R n) (hv:ρ[0]? = some (some (.ins Fr.length))) (he:Ev te ρ st d) (hf:qCO f d (qCB Fr.length h R)=qCB Fr.length h R') (ht:R'.s.told=R.s.told) (hn:R'.ent=R.ent) (q:RA Fr (st.set Fr.length (.ob "Runner" (qCB Fr.length h R'))) h R' n→Kp Fr st (st.set Fr.length (.ob "Runner" (qCB Fr.length h R')))→N E ρ (st.set Fr.length (.ob "Runner" (qCB Fr.length h R')))):tseq (qR te (qBU "Runner" (qB 0) f)) N E ρ st:=by
  refine qBg he (qC hv) a.o qMH ?_
  rw [hf]
  exact q (a.fld ht hn) (qHQ (by lia))
theorem qTn {f:Str} {k:Nat} {R':RSt} (a:RA Fr st h R n) (hv:ρ[0]? = some (some (.ins Fr.length))) (hl:(qCB Fr.length h R).lookup f=some (.int (k:Nat))) (hf:qCO f (.int ((k+1:Nat):Int)) (qCB Fr.length h R)=qCB Fr.length h R') (ht:R'.s.told=R.s.told) (hn:R'.ent=R.ent) (q:RA Fr (st.set Fr.length (.ob "Runner" (qCB Fr.length h R'))) h R' n→Kp Fr st (st.set Fr.length (.ob "Runner" (qCB Fr.length h R')))→N E ρ (st.set Fr.length (.ob "Runner" (qCB Fr.length h R')))):tseq (qH1 "Runner" (qB 0) (qD (Dt.int 1)) f) N E ρ st:=by
  refine qCG (qC hv) a.o hl qF qMH ?_
  rw [show ((k:Nat):Int)+1=((k+1:Nat):Int) from rfl,hf]
  exact q (a.fld ht hn) (qHQ (by lia))
theorem qOb (a:RA Fr st h R n) (hv:ρ[0]? = some (some (.ins Fr.length))):Ev (qCk (qM (qE (qAO fun i j=>decide (i<j)) (qAG "Runner" (qB 0) "heard") (qI qBE (qA (qAG "Runner" (qB 0) "given") qG)))) (qE qL (qAG "Runner" (qB 0) "given") (qAG "Runner" (qB 0) "heard")) (qD (Dt.int 0))) ρ st (.int (h.given.getD R.s.heard 0)):=by
  have e1:Ev (qAG "Runner" (qB 0) "heard") ρ st (.int (R.s.heard:Nat)):=qW (qC hv) a.o rfl
  have e2:Ev (qAG "Runner" (qB 0) "given") ρ st (.tup (h.given.map .int)):=qW (qC hv) a.o rfl
  by_cases q:R.s.heard<h.given.length
  · have:=qAm (d1:=.int (h.given.getD R.s.heard 0)) (d2:=.int 0) (evb (qAS e1 (qGL e2))) (fun _=>qGn e2 e1 q) fun _=>qF
    rw [decide_eq_true (show (R.s.heard:Int)<(h.given.length:Nat) by lia)] at this
    exact this
  · have:=qAm (ta:=qE qL (qAG "Runner" (qB 0) "given") (qAG "Runner" (qB 0) "heard")) (d1:=.int (h.given.getD R.s.heard 0)) (d2:=.int 0) (evb (qAS e1 (qGL e2))) (fun hb=>absurd (of_decide_eq_true hb) (by lia)) fun _=>qF
    rw [decide_eq_false (show ¬ (R.s.heard:Int)<(h.given.length:Nat) by lia)] at this
    rw [List.getD_eq_getElem?_getD,List.getElem?_eq_none (by lia)]
    exact this
end
theorem qU4 {E:qA0} {ρ:Rho} {st:Sto} {N:TSD} {Fr:Sto} {h:Hd} {R:RSt} {n:Nat} {t:TD} (a:RA Fr st h R n) (hv:ρ[0]? = some (some (.ins Fr.length))) (ht:∀ P:VD,(∀ d,PgD d→P d st)→t ρ st P) (q:∀ st',qx st st'→N E ρ st'):tseq (qAo (qAn "Keeper" "shut" K76.qEL (qAG "Runner" (qB 0) "keeper") (qA t qG))) N E ρ st :=
  qA6 (qW (qC hv) a.o rfl) a.k rfl (ht _ fun d hd=>⟨_,d,rfl,hd,a.ka,fun st' x'=>q st' x'⟩)
section
variable {Fr st:Sto} {h:Hd} {R:RSt} {Pd:VD}
theorem qQl (n:Nat):qFA (qFR n) (.inr (Str.ofString "single rows"))=some (.int (n:Nat)):=rfl
theorem qRH (n:Nat):putD (qFR n) (.inr (Str.ofString "single rows")) (.int ((n+1:Nat):Int))=qFR (n+1):=rfl
theorem qVw {E:qA0} {ρ:Rho} {N:TSD} {ta te:TD} {n:Nat} {xs ds:List Dt} (hl:Ev ta ρ st (.lst n)) (he:Ev te ρ st (.tup ds)) (h:st[n]? = some (.rw xs)) (hn:xs.length+ds.length≤sizeLine) (q:N E ρ (st.set n (.rw (xs++ds)))):tseq (qAo (qIX ta te)) N E ρ st:=hl _ (he _ (by
  show (match st[n]? with | some (.rw xs)=>_ | _=>_)
  rw [h];exact⟨hn,q⟩))
theorem qU5 {E:qA0} {ρ:Rho} {N:TSD} {to:TD} {n m:Nat} (ho:Ev to ρ st (.dic n)) (h:st[n]? = some (.dc (qFR m))) (q:N E ρ (st.set n (.dc (qFR (m+1))))):tseq (qPb to (qD (Dt.str "single rows")) (qD (Dt.int 1))) N E ρ st :=
  ho _ ⟨n,qFR m,_,(m:Nat),rfl,h,rfl,qQl m,⟨1,qFR m,rfl,h,by show 5<sizeLine;decide,by
    rw [show ((m:Nat):Int)+1=((m+1:Nat):Int) from rfl,qRH];exact q⟩⟩
theorem qN7 {g:GS} {r:Res} {hd ru dn la:Nat} {to:List Int} {en:Option Str} {et:List Dt} (a:RA Fr st h (mkR g hd ru to dn en et la) dn) (ok:Ok2 g) (hp:0≤g.p∧g.p<g.cs.length) (hl:g.rs.length≤100) (ht:to.length≤5000) (hr:g.rs.length=r.2.1.rs.length) (hrr:∀ x∈r.2.1.rs,0≤x∧x<8) (hr2:r.2.2.length≤1)
    (hP:∀ st',RA Fr st' h (mkR r.2.1 hd ru (to++r.2.2) (dn+1) en et la) (dn+1)→Kp Fr st st'→Pd .non st'):sg4 (Ed Pd) [some (.ins Fr.length),some g.d,some (qBW r)] st:=by
  refine qPR a rfl (qAA (j:=1) (qC (i:=2) rfl) rfl) (qLl r.2.1) rfl rfl fun a1 k1=>?_
  k_dat 0"r42"
  refine qVw (ds:=r.2.2.map .int) (qW (qC (i:=0) rfl) a1.o rfl) (qAA (j:=2) (qC (i:=2) rfl) rfl) a1.t (by rw [List.length_map,List.length_map];exact Nat.le_trans (Nat.add_le_add ht hr2) (by decide)) ?_
  have a2:=a1.told (to++r.2.2)
  have k2:Kp Fr st _:=k1.trans (qHQ (j:=Fr.length+5) (o:=.rw ((to++r.2.2).map .int)) (by lia))
  rw [← List.map_append]
  generalize s1.set (Fr.length+5) _=s2 at a2 k2 ⊢
  refine qTn (R:=mkR r.2.1 hd ru (to++r.2.2) dn en et la) a2 rfl (k:=dn) rfl (qN6 (dn+1)) rfl rfl fun a3 k3=>?_
  generalize s2.set _ _=s3 at a3 k3 ⊢
  refine qPR a3 rfl qF qG5 rfl rfl fun a4 k4=>?_
  generalize s3.set _ _=s4 at a4 k4 ⊢
  refine qU5 (qW (qC (i:=0) rfl) a4.o rfl) a4.y ?_
  have a5:=a4.tal (dn+1)
  have k5:Kp Fr st _:=((k2.trans k3).trans k4).trans (qHQ (j:=Fr.length+7) (o:=.dc (qFR (dn+1))) (by lia))
  generalize s4.set _ _=s5 at a5 k5 ⊢
  have hc:=qH8 ok.ok g.p.toNat
  have ec:Ev (qE qL (qE qL (qB 1) (qD (Dt.int 5))) (qE qL (qB 1) (qD (Dt.int 0)))) [some (.ins Fr.length),some g.d,some (qBW r)] s5 (.int (g.cs.getD g.p.toNat 0)):=by
    refine qGn (xs:=g.cs) (i:=g.p.toNat) (qAA (j:=5) (qC (i:=1) rfl) rfl) ?_ (by lia)
    rw [show ((g.p.toNat:Nat):Int)=g.p by lia]
    exact qAA (j:=0) (qC (i:=1) rfl) rfl
  refine qU4 a5 rfl (fun P hp=>qAY (qH ec (qH (qC (i:=1) rfl) qT)) ⟨_,g,rfl,hc.1,hc.2,ok.ok,hp⟩) fun s6 x6=>?_
  have a6:=a5.ext x6
  refine qA6 (qC (i:=0) rfl) a6.o rfl ?_
  refine qAA (j:=4) (qC (i:=1) rfl) rfl _ ?_
  exact⟨Fr,h,_,_,g.rs,rfl,a6,hr,hl,ok.ok.rb,hrr,fun s7 x7=>hP s7 (a6.ext x7) ((k5.trans (.ext x6)).trans (.ext x7))⟩
end
end K76
namespace K06
open PySem PySem.Spec PyProof.Rows L2 L3
end K06
namespace K06
open PySem PySem.Spec PyProof.Rows L2 L3
end K06
namespace K06
open PySem PySem.Spec PyProof.Rows L2 L3
end K06
namespace K06
open PySem PySem.Spec PyProof.Rows L2 L3
end K06
namespace K06
open PySem PySem.Spec PyProof.Rows L2 L3
end K06
namespace K06
open PySem PySem.Spec PyProof.Rows L2 L3
end K06
namespace K06
open PySem PySem.Spec PyProof.Rows L2 L3
end K06
namespace K06
open PySem PySem.Spec PyProof.Rows L2 L3
def Small (g:GS) (r:Res):Prop:=r.2.1.bs.length=g.bs.length∧r.2.1.rs.length=g.rs.length∧r.2.1.cs.length=g.cs.length∧r.2.2.length≤1
theorem qNC {g:GS} {c:Prop} [Decidable c] {a b:Res} (ha:Small g a) (hb:Small g b):Small g (if c then a else b):=by
  by_cases h:c
  · rw [if_pos h];exact ha
  · rw [if_neg h];exact hb
theorem qK6 (g:GS):Small g (qD8 g):=by
  obtain⟨p,bs,m,sv,rs,cs⟩:=g
  cases sv with
  | none=>exact⟨rfl,rfl,rfl,Nat.zero_le 1⟩
  | some z=>obtain⟨q,mm⟩:=z;exact⟨rfl,rfl,rfl,Nat.zero_le 1⟩
theorem qMh (g:GS) (x:Int):Small g (doR g x):=by
  unfold doR doW qLb qHh qHg setG qCy
  repeat' first
    | exact qK6 g
    | apply qNC
    | exact⟨by simp [onG,qBv,qEg,qDR,next,leap],by simp [onG,qBv,qEg,qDR,next,leap],by simp [onG,qBv,qEg,qDR,next,leap],by simp [onG,qBv]⟩
end K06
namespace K76
open PySem PySem.Spec PyProof.Rows L2 L3 KH KS K06 K17 KN
open KR (Ev EvB qC qF qAA seq1 q8 ifS qy evb qAQ qAK qz qAN qAm qAE qAe ql qh qT qH qe qAL rdR qV qAP qAC q9)
open K31 (EvX qBR qAl xb qAS qAY qBc qi qk)
open K40 (qW qBg qBt qBn qBa qBX qA6 qCG)
section
variable {Fr st:Sto} {h:Hd} {R:RSt} {Pd:VD}
theorem qSb {g:GS} {hd ru dn la:Nat} {to:List Int} {en:Option Str} {et:List Dt} (a:RA Fr st h (mkR g hd ru to dn en et la) dn) (ho:h.Ok) (ok:Ok2 g) (hl:g.rs.length≤100) (ht:to.length≤5000) (on:(qA7 h.given ⟨g,hd,ru,to⟩).1 = "on") (hrs:(qA7 h.given ⟨g,hd,ru,to⟩).2.1.rs.length=g.rs.length)
    (hP:∀ st',RA Fr st' h { (mkR g hd ru to dn en et la) with s:=qB8 h.given ⟨g,hd,ru,to⟩,done:=dn+1 } (dn+1)→Kp Fr st st'→Pd .non st'):sg3 (Ed Pd) [some (.ins Fr.length),some g.d,some (qBW (qA7 h.given ⟨g,hd,ru,to⟩))] st:=by
  have hp:=qSY on
  have fr:=qOH ok (qDq ho.g hd).1 (qDq ho.g hd).2
  have e1:Ev (qAG "Runner" (qB 0) "heard") [some (.ins Fr.length),some g.d,some (qBW (qA7 h.given ⟨g,hd,ru,to⟩))] st (.int (hd:Nat)):=qW (qC (i:=0) rfl) a.o rfl
  have e2:Ev (qAG "Runner" (qB 0) "given") [some (.ins Fr.length),some g.d,some (qBW (qA7 h.given ⟨g,hd,ru,to⟩))] st (.tup (h.given.map .int)):=qW (qC (i:=0) rfl) a.o rfl
  have ed:decide ((hd:Int)<(h.given.length:Nat))=decide (hd<h.given.length):=decide_eq_decide.mpr ⟨fun h=>by lia,fun h=>by lia⟩
  have eb:EvB (qAp (qM (qE (qAO fun i j=>decide (i<j)) (qAG "Runner" (qB 0) "heard") (qI qBE (qA (qAG "Runner" (qB 0) "given") qG)))) (qM (qI KN.qHR (qA (qB 1) qG)))) [some (.ins Fr.length),some g.d,some (qBW (qA7 h.given ⟨g,hd,ru,to⟩))] st (decide (hd<h.given.length)&&qEe g):=by
    rw [← ed]
    exact qz (evb (qAS e1 (qGL e2))) fun _=>evb (qh (qH (qC (i:=1) rfl) qT) fun P q=>⟨g,rfl,ok.ok,hp.2,q⟩)
  refine qy eb (fun hb=>?_) fun hb=>?_
  · refine qTn a rfl (k:=hd) rfl (qM0 (hd+1)) rfl rfl fun a1 k1=>?_
    k_dat 0"r42"
    refine qN7 (r:=qA7 h.given ⟨g,hd,ru,to⟩) a1 ok hp hl ht hrs.symm fr.1.ok.rb fr.2 fun st' a2 k2=>hP st' ?_ (k1.trans k2)
    have:qB8 h.given ⟨g,hd,ru,to⟩=⟨(qA7 h.given ⟨g,hd,ru,to⟩).2.1,hd+1,ru,to++(qA7 h.given ⟨g,hd,ru,to⟩).2.2⟩:=by
      unfold qB8
      rw [if_pos hb]
    rw [this];exact a2
  · refine qN7 (r:=qA7 h.given ⟨g,hd,ru,to⟩) a ok hp hl ht hrs.symm fr.1.ok.rb fr.2 fun st' a2 k2=>hP st' ?_ k2
    have:qB8 h.given ⟨g,hd,ru,to⟩=⟨(qA7 h.given ⟨g,hd,ru,to⟩).2.1,hd,ru,to++(qA7 h.given ⟨g,hd,ru,to⟩).2.2⟩:=by
      unfold qB8
      rw [if_neg (by rw [hb];exact Bool.false_ne_true)]
    rw [this];exact a2
theorem qOQ {g:GS} {x:Int}:(doR g x).2.1.rs.length=g.rs.length:=(qMh g x).2.1
theorem qD5 {ds:List Dt} (h:qE3 ds st Pd):qCc (Ed Pd) (qU ["self", "before", "outcome"] ds) st:=by
  obtain⟨Fr,h,⟨⟨g,hd,ru,to⟩,dn,en,et,la⟩,rfl,a,ho,ok,hl,ht,hP⟩:=h
  refine q8 (qW (qC (i:=0) rfl) a.o rfl _ ?_)
  refine q8 (qAY (qH (qC (i:=1) rfl) (qH (qOb a rfl) qT)) ⟨g,_,rfl,ok.ok,?_⟩)
  show sg2 (Ed Pd) [some (.ins Fr.length),some g.d,some (qBW (qA7 h.given ⟨g,hd,ru,to⟩))] st
  refine qy (evb (qAe (a:=(qA7 h.given ⟨g,hd,ru,to⟩).1) (qAA (j:=0) (qC (i:=2) rfl) rfl))) (fun hb=>?_) fun hb=>?_
  · have hn:(qA7 h.given ⟨g,hd,ru,to⟩).1 ≠ "on":=fun e=>by rw [e,beq_self_eq_true] at hb;cases hb
    refine qPR a rfl (qAA (j:=0) (qC (i:=2) rfl) rfl) (qQu _) rfl rfl fun a1 k1=>?_
    have e:qJb h (mkR g hd ru to dn en et la)=mkR g hd ru to dn (some (qA7 h.given ⟨g,hd,ru,to⟩).1) et la:=if_neg hn
    rw [e] at hP
    exact hP _ a1 k1
  · have on:(qA7 h.given ⟨g,hd,ru,to⟩).1 = "on":=eq_of_beq (by simpa using hb)
    have e:qJb h (mkR g hd ru to dn en et la)={ (mkR g hd ru to dn en et la) with s:=qB8 h.given ⟨g,hd,ru,to⟩,done:=dn+1 }:=if_pos on
    rw [e] at hP
    exact qSb a ho ok hl ht on qOQ hP
end
end K76
namespace K76
open PySem PySem.Spec PyProof.Rows L2 L3 KH KS K06 K17 KN
open KR (Ev EvB qC qF qAA seq1 q8 ifS qy evb qAQ qAK qz qAN qAm qAE qAe ql qh qT qH qe qAL rdR qV qAP qAC q9)
open K31 (EvX qBR qAl xb qAS qAY qBc qi qk)
open K40 (qW qBg qBt qBn qBa qBX qA6 qCG)
abbrev go4:TSD:=(tseq (qo (qAp (qM (qE (qBV true) (qB 2) (qD Dt.non))) qLL) (tseq qJX qJ) (tseq (qAo (qAn "Runner" "do_single" K76.qE3 (qB 0) qG)) qJ)) qJ)
abbrev go2:TSD:=(tseq (qo (qM (qE (qBV false) (qAn "Keeper" "host_at" K76.qBC (qAG "Runner" (qB 0) "keeper") (qA (qE qL (qAG "Runner" (qB 0) "now") (qD (Dt.int 0))) qG)) (qD Dt.non))) (tseq (qAo (qAn "Runner" "make" K76.qI3 (qB 0) qG)) qJ) qJ) (tseq (qR (qAn "Keeper" "rows_at" K76.qBC (qAG "Runner" (qB 0) "keeper") (qA (qE qL (qAG "Runner" (qB 0) "now") (qD (Dt.int 0))) qG)) (qP 2)) go4))
abbrev go1:TSD:=(tseq (qo (qM (qI K76.qJc (qA (qAG "Runner" (qB 0) "now") (qA (qAG "Runner" (qB 0) "bells") (qA (qAG "Runner" (qB 0) "rung") (qA (qAG "Runner" (qB 0) "done") qG)))))) (tseq (qR (qI KN.qJC (qA (qAG "Runner" (qB 0) "now") (qA (qAG "Runner" (qB 0) "ring") qG))) (qBU "Runner" (qB 0) "now")) (tseq (qH1 "Runner" (qB 0) (qD (Dt.int 1)) "rung") (tseq (qR (qD Dt.non) (qBU "Runner" (qB 0) "behind")) qJ))) qJ) go2)
abbrev qDu:TSD:=(tseq (qo (qM (qE (qZ true) (qE qL (qE qL (qAG "Runner" (qB 0) "entries") (qQ2 (qD (Dt.int 1)))) (qD (Dt.int 0))) (qAG "Runner" (qB 0) "done"))) (tseq (qAo (qAU (qAG "Runner" (qB 0) "entries") (qAf (qA (qAG "Runner" (qB 0) "done") (qA (qAG "Runner" (qB 0) "now") (qA (qAG "Runner" (qB 0) "heard") (qA (qAG "Runner" (qB 0) "rung") qG))))))) qJ) qJ) go1)
section
variable {ρ:Rho} {st:Sto} {te ta tb:TD} {n:Nat} {d:Dt}
theorem qOW {x y:Int} (h:Ev ta ρ st (.int x)) (h2:Ev tb ρ st (.int y)):Ev (qE (qZ true) ta tb) ρ st (.bl (!decide (x=y))):=fun P hp=>h _ (h2 _ ⟨rfl,rfl,by
  show P (.bl (decide (x=y) != true)) st
  rw [Bool.bne_true];exact hp⟩)
theorem qQN {l:List Dt} {x:Dt}:atI (l++[x]) (-1)=some x:=by
  have e:ixN (l++[x]).length (-1)=some l.length:=by
    unfold L2.ixN
    rw [List.length_append,List.length_singleton]
    simp
    lia
  unfold L2.atI
  rw [e]
  show (l++[x])[l.length]? = some x
  simp
theorem qQH {l:List Dt} {x:Dt} (h:Ev ta ρ st (.lst n)) (hs:st[n]? = some (.rw (l++[x]))):Ev (qE qL ta (qQ2 (qD (Dt.int 1)))) ρ st x:=fun P hp=>h _ (by
  show (match qd st (.lst n) with | some xs=>_ | none=>_)
  have e:qd st (.lst n)=some (l++[x]):=by show (st[n]?).map SO.items=_;rw [hs];rfl
  rw [e]
  show (match atI (l++[x]) (-1) with | some d=>_ | none=>_)
  rw [qQN];exact hp)
theorem qOz (h:Ev te ρ st .non):Ev (qE (qBV false) te (qD Dt.non)) ρ st (.bl true):=fun P hp=>h _ hp
theorem qMW (h:Ev te ρ st .non):Ev (qE (qBV true) te (qD Dt.non)) ρ st (.bl false):=fun P hp=>h _ hp
end
section
variable {Fr st:Sto} {h:Hd} {Pd:VD} {g:GS} {hd ru dn la:Nat} {to:List Int} {en:Option Str} {et:List Dt} {m:Int}
theorem qOp {a2:Option Dt} (a:RA Fr st h (mkR g hd ru to dn en et la) dn) (ho:h.Ok) (ok:Ok2 g) (hl:g.rs.length≤100) (ht:to.length≤5000) (hP:∀ st',RA Fr st' h (qJb h (mkR g hd ru to dn en et la)) (qJb h (mkR g hd ru to dn en et la)).done→Kp Fr st st'→Pd .non st'):go2 (Ed Pd) [some (.ins Fr.length),some (.int m),a2] st:=by
  have ep:Ev (qE qL (qAG "Runner" (qB 0) "now") (qD (Dt.int 0))) [some (.ins Fr.length),some (.int m),a2] st (.int g.p):=qAA (j:=0) (qW (qC (i:=0) rfl) a.o rfl) rfl
  have ek:Ev (qAn "Keeper" "host_at" K76.qBC (qAG "Runner" (qB 0) "keeper") (qA (qE qL (qAG "Runner" (qB 0) "now") (qD (Dt.int 0))) qG)) [some (.ins Fr.length),some (.int m),a2] st .non:=fun P hp=>qA6 (qW (qC (i:=0) rfl) a.o rfl) a.k rfl (ep _ ⟨_,_,rfl,a.ka,hp⟩)
  have er:Ev (qAn "Keeper" "rows_at" K76.qBC (qAG "Runner" (qB 0) "keeper") (qA (qE qL (qAG "Runner" (qB 0) "now") (qD (Dt.int 0))) qG)) [some (.ins Fr.length),some (.int m),a2] st .non:=fun P hp=>qA6 (qW (qC (i:=0) rfl) a.o rfl) a.k rfl (ep _ ⟨_,_,rfl,a.ka,hp⟩)
  have fin:tseq (qR (qAn "Keeper" "rows_at" K76.qBC (qAG "Runner" (qB 0) "keeper") (qA (qE qL (qAG "Runner" (qB 0) "now") (qD (Dt.int 0))) qG)) (qP 2)) go4 (Ed Pd) [some (.ins Fr.length),some (.int m),a2] st:=by
    refine q8 (er _ ?_)
    refine seq1 (ifS (b:=false&&true) (qz (evb (qMW (qC (i:=2) rfl))) fun e=>nomatch e) (fun e=>nomatch e) fun _=>?_)
    exact qA6 (qC (i:=0) rfl) a.o rfl ⟨Fr,h,_,rfl,a,ho,ok,hl,ht,hP⟩
  refine qy (b:=true) (evb (qOz ek)) (fun _=>?_) fun e=>nomatch e
  exact qA6 (qC (i:=0) rfl) a.o rfl ⟨Fr,h,_,_,rfl,a,fin⟩
theorem qPH {a2:Option Dt} (a:RA Fr st h (mkR g hd ru to dn en et la) dn) (ho:h.Ok) (ok:Ok2 g) (hl:g.rs.length≤100) (ht:to.length≤5000)
    (hP:∀ st',RA Fr st' h (qJb h ⟨qAv h.bells h.ring dn ⟨g,hd,ru,to⟩,dn,en,et,la⟩) (qJb h ⟨qAv h.bells h.ring dn ⟨g,hd,ru,to⟩,dn,en,et,la⟩).done→Kp Fr st st'→Pd .non st'):go1 (Ed Pd) [some (.ins Fr.length),some (.int m),a2] st:=by
  have e0:Ev (qAG "Runner" (qB 0) "now") [some (.ins Fr.length),some (.int m),a2] st g.d:=qW (qC (i:=0) rfl) a.o rfl
  have ed:EvB (qM (qI K76.qJc (qA (qAG "Runner" (qB 0) "now") (qA (qAG "Runner" (qB 0) "bells") (qA (qAG "Runner" (qB 0) "rung") (qA (qAG "Runner" (qB 0) "done") qG)))))) [some (.ins Fr.length),some (.int m),a2] st (qPN h.bells g ru dn) :=
    evb (qh (qH e0 (qH (qW (qC (i:=0) rfl) a.o rfl) (qH (qW (qC (i:=0) rfl) a.o rfl) (qH (qW (qC (i:=0) rfl) a.o rfl) qT)))) fun P q=>⟨g,h.bells,ru,dn,rfl,q⟩)
  refine qy ed (fun hb=>?_) fun hb=>?_
  · have e:qAv h.bells h.ring dn ⟨g,hd,ru,to⟩=⟨qJp g h.ring,hd,ru+1,to⟩:=if_pos hb
    rw [e] at hP
    have ob:Ok2 (qAv h.bells h.ring dn ⟨g,hd,ru,to⟩).g:=qHY ok ho.r
    rw [e] at ob
    refine qPR (d:=(qJp g h.ring).d) a rfl (qh (qH e0 (qH (qW (d:=.int h.ring) (qC (i:=0) rfl) a.o rfl) qT)) fun P q=>⟨g,h.ring,rfl,q⟩) (qLl _) rfl rfl fun a1 k1=>?_
    k_dat 0"r42"
    refine qTn a1 rfl (k:=ru) rfl (qPF (ru+1)) rfl rfl fun a2 k2=>?_
    generalize s1.set _ _=s2 at a2 k2 ⊢
    refine qPR a2 rfl qF qG5 rfl rfl fun a3 k3=>?_
    generalize s2.set _ _=s3 at a3 k3 ⊢
    exact qOp a3 ho ob hl ht fun st' a4 k4=>hP st' a4 (((k1.trans k2).trans k3).trans k4)
  · have e:qAv h.bells h.ring dn ⟨g,hd,ru,to⟩=⟨g,hd,ru,to⟩:=if_neg (by rw [hb];exact Bool.false_ne_true)
    rw [e] at hP
    exact qOp a ho ok hl ht hP
theorem qF8 {ds:List Dt} (h:qIq ds st Pd):qDu (Ed Pd) (qU ["self", "most", "rows"] ds) st:=by
  obtain⟨Fr,h,⟨⟨g,hd,ru,to⟩,dn,en,et,la⟩,m,rfl,a,ho,ok,hen,hl,hd1,hP⟩:=h
  obtain⟨l,r,el⟩:=ok.e
  have el:et=l++[.tup (.int (la:Nat)::r)]:=el
  have hen:en=none:=hen
  subst hen
  have ht:to.length≤5000:=Nat.le_trans ok.tl (Nat.le_trans hd1 (by decide))
  have eg:goR h (mkR g hd ru to dn none et la)=qJb h ⟨qAv h.bells h.ring dn ⟨g,hd,ru,to⟩,dn,none,qHJ (mkR g hd ru to dn none et la),dn⟩:=rfl
  rw [eg] at hP
  have e1:Ev (qE qL (qE qL (qAG "Runner" (qB 0) "entries") (qQ2 (qD (Dt.int 1)))) (qD (Dt.int 0))) [some (.ins Fr.length),some (.int m),none] st (.int (la:Nat)):=qAA (j:=0) (qQH (qW (qC (i:=0) rfl) a.o rfl) (by rw [← el];exact a.e)) rfl
  refine qy (evb (qOW e1 (qW (d:=.int (dn:Nat)) (qC (i:=0) rfl) a.o rfl))) (fun hb=>?_) fun hb=>?_
  · have hn:la≠dn:=fun q=>by rw [q,decide_eq_true rfl] at hb;cases hb
    have ee:qHJ (mkR g hd ru to dn none et la)=et++[.tup [.int (dn:Nat),g.d,.int (hd:Nat),.int (ru:Nat)]]:=if_neg hn
    rw [ee] at hP
    refine qBt (d:=.tup [.int (dn:Nat),g.d,.int (hd:Nat),.int (ru:Nat)]) (qW (qC (i:=0) rfl) a.o rfl) (qe (qH (qW (qC (i:=0) rfl) a.o rfl) (qH (qW (qC (i:=0) rfl) a.o rfl) (qH (qW (qC (i:=0) rfl) a.o rfl) (qH (qW (qC (i:=0) rfl) a.o rfl) qT)))) (by show 4≤sizeLine;decide)) a.e (K40.line (Nat.le_trans ok.el (by show dn+1≤100000;have:dn≤1000:=hd1;lia))) ?_
    have a1:=a.qVX (et++[.tup [.int (dn:Nat),g.d,.int (hd:Nat),.int (ru:Nat)]]) dn
    have k1:Kp Fr st _:=qHQ (j:=Fr.length+6) (o:=.rw (et++[.tup [.int (dn:Nat),g.d,.int (hd:Nat),.int (ru:Nat)]])) (by lia)
    k_dat 0"r42"
    exact qPH (et:=et++[.tup [.int (dn:Nat),g.d,.int (hd:Nat),.int (ru:Nat)]]) (la:=dn) a1 ho ok.o hl ht fun st' a2 k2=>hP st' a2 (k1.trans k2)
  · have hn:la=dn:=by
      have:=of_decide_eq_true (show decide ((la:Int)=(dn:Nat))=true by simpa using hb)
      lia
    have ee:qHJ (mkR g hd ru to dn none et la)=et:=if_pos hn
    rw [ee] at hP
    subst hn
    exact qPH a ho ok.o hl ht hP
end
end K76
namespace K76
open PySem PySem.Spec PyProof.Rows L2 L3 KH KS K06 K17 KN
open KR (Ev EvB qC qF qAA seq1 q8 ifS qy evb qAQ qAK qz qAN qAm qAE qAe ql qh qT qH qe qAL rdR qV qAP qAC q9)
open K31 (EvX qBR qAl xb qAS qAY qBc qi qk)
open K40 (qW qBg qBt qBn qBa qBX qA6 qCG qAF)
abbrev ru1:TSD:=(tseq (qR (qCk (qM (qE (qBV false) (qAG "Runner" (qB 0) "ended") (qD Dt.non))) (qD (Dt.str "more")) (qAG "Runner" (qB 0) "ended")) (qP 2)) (tseq (qX (qAf (qA (qB 2) (qA (qAG "Runner" (qB 0) "now") (qA (qI qAa (qA (qAG "Runner" (qB 0) "told") qG)) (qA (qAG "Runner" (qB 0) "done") (qA (qAG "Runner" (qB 0) "heard") (qA (qAG "Runner" (qB 0) "rung") qG)))))))) qJ))
abbrev qEh:TSD:=(tseq (qIf (qAp (qM (qE (qBV false) (qAG "Runner" (qB 0) "ended") (qD Dt.non))) (qM (qE (qAO fun i j=>decide (i<j)) (qAG "Runner" (qB 0) "done") (qB 1)))) (tseq (qAo (qAn "Runner" "go_on" K76.qIq (qB 0) (qA (qB 1) qG))) qJ)) ru1)
abbrev qCl:TSD:=(tseq (qR (qB 1) (qBU "Runner" (qB 0) "now")) (tseq (qR (qI qAa (qA (qB 2) qG)) (qBU "Runner" (qB 0) "given")) (tseq (qR (qI qAa (qA (qB 3) qG)) (qBU "Runner" (qB 0) "bells")) (tseq (qR (qB 4) (qBU "Runner" (qB 0) "ring")) (tseq (qR (qI qAa (qA (qB 5) qG)) (qBU "Runner" (qB 0) "policy")) (tseq (qR (qD (Dt.int 0)) (qBU "Runner" (qB 0) "used")) (tseq (qR (qD9 "Keeper" K76.qEi qG) (qBU "Runner" (qB 0) "keeper")) (tseq (qR qHG (qBU "Runner" (qB 0) "binding")) (tseq (qR (qD Dt.non) (qBU "Runner" (qB 0) "behind")) (tseq (qR (qD Dt.non) (qBU "Runner" (qB 0) "ended")) (tseq (qR (qAc qG) (qBU "Runner" (qB 0) "told")) (tseq (qR (qD (Dt.int 0)) (qBU "Runner" (qB 0) "done")) (tseq (qR (qD (Dt.int 0)) (qBU "Runner" (qB 0) "heard")) (tseq (qR (qD (Dt.int 0)) (qBU "Runner" (qB 0) "rung")) (tseq (qR (qAc (qA (qAf (qA (qD (Dt.int 0)) (qA (qB 1) (qA (qD (Dt.int 0)) (qA (qD (Dt.int 0)) qG))))) qG)) (qBU "Runner" (qB 0) "entries")) (tseq (qR (qCg [(Sum.inr (Str.ofString "host rows"),(qD (Dt.int 0))),(Sum.inr (Str.ofString "single rows"),(qD (Dt.int 0))),(Sum.inr (Str.ofString "entries"),(qD (Dt.int 0))),(Sum.inr (Str.ofString "by bindings"),(qD (Dt.int 0))),(Sum.inr (Str.ofString "made"),(qD (Dt.int 0)))]) (qBU "Runner" (qB 0) "tally")) qJ))))))))))))))))
theorem qGr {h:Hd} {R:RSt} (e:R.ended≠none) (n:Nat):qAu h n R=R:=by
  cases n with
  | zero=>rfl
  | succ n =>
    unfold qAu
    split
    · rename_i q;exact absurd q e
    · rfl
theorem qOL {h:Hd} {R:RSt}:(goR h R).s.g.rs.length=R.s.g.rs.length:=by
  have b:(qAv h.bells h.ring R.done R.s).g.rs=R.s.g.rs:=by unfold qAv;split<;>rfl
  unfold goR
  split
  · show (doR _ _).2.1.rs.length=_
    rw [qOQ,b]
  · exact congrArg List.length b
section
variable {Fr st:Sto} {h:Hd} {R:RSt} {Pd:VD} {m:Nat}
theorem qN2 (a:RA Fr st h R R.done) {ρ:Rho} (hv:ρ[0]? = some (some (.ins Fr.length))):Ev (qE (qBV false) (qAG "Runner" (qB 0) "ended") (qD Dt.non)) ρ st (.bl R.ended.isNone):=by
  have e:Ev (qAG "Runner" (qB 0) "ended") ρ st (enD R.ended):=qW (qC hv) a.o rfl
  exact fun P hp=>e _ (by
    cases q:R.ended with
    | none=>rw [q] at hp;exact hp
    | some w=>rw [q] at hp;exact hp)
theorem qOn {a2:Option Dt} (a:RA Fr st h R R.done) (hP:Pd (qD6 R) st):ru1 (Ed Pd) [some (.ins Fr.length),some (.int (m:Nat)),a2] st:=by
  have e1:Ev (qCk (qM (qE (qBV false) (qAG "Runner" (qB 0) "ended") (qD Dt.non))) (qD (Dt.str "more")) (qAG "Runner" (qB 0) "ended")) [some (.ins Fr.length),some (.int (m:Nat)),a2] st (.str (R.ended.getD "more")):=by
    have:=qAm (d1:=.str "more") (d2:=enD R.ended) (evb (qN2 a (ρ:=[some (.ins Fr.length),some (.int (m:Nat)),a2]) rfl)) (fun _=>qF) fun _=>(qW (qC (i:=0) rfl) a.o rfl:Ev (qAG "Runner" (qB 0) "ended") _ _ _)
    cases q:R.ended with
    | none=>rw [q] at this;exact this
    | some w=>rw [q] at this;exact this
  refine q8 (e1 _ ?_)
  have es:qd st (.lst (Fr.length+5))=some (R.s.told.map .int):=by show (st[Fr.length+5]?).map SO.items=_;rw [a.t];rfl
  exact rdR (qe (qH (qC (i:=2) rfl) (qH (qW (qC (i:=0) rfl) a.o rfl) (qH (qAF (qW (d:=.lst (Fr.length+5)) (qC (i:=0) rfl) a.o rfl) es) (qH (qW (qC (i:=0) rfl) a.o rfl) (qH (qW (qC (i:=0) rfl) a.o rfl) (qH (qW (qC (i:=0) rfl) a.o rfl) qT)))))) (by show 6≤sizeLine;decide)) hP
theorem qHi {ds:List Dt} (h:qFr ds st Pd):qEh (Ed Pd) (qU ["self", "most", "how"] ds) st:=by
  obtain⟨Fr,h,R,m,rfl,a,ho,ok,hl,hm,hP⟩:=h
  refine seq1 ⟨fun w ρ s=>∃ R':RSt,ρ=[some (.ins Fr.length),some (.int (m:Nat)),none]∧RA Fr s h R' R'.done∧R'.Ok∧R'.s.g.rs.length≤100∧Kp Fr st s∧qAu h (m - R'.done) R'=qAu h (m - R.done) R∧w=(match R'.ended with | none=>m - R'.done+1 | some _=>0),⟨_,R,rfl,a,ok,hl,.refl,rfl,rfl⟩,?_⟩
  rintro w ρ s ⟨R',rfl,a',ok',hl',kp,er,rfl⟩
  have ed:decide ((R'.done:Int)<(m:Nat))=decide (R'.done<m):=decide_eq_decide.mpr ⟨fun h=>by lia,fun h=>by lia⟩
  refine qz (b2:=decide (R'.done<m)) (evb (qN2 a' rfl)) (fun _=>by rw [← ed];exact evb (qAS (qW (qC (i:=0) rfl) a'.o rfl) (qC (i:=1) rfl))) _ ?_
  cases en:R'.ended with
  | some w =>
    refine qJf rfl ?_
    have e2:=qGr (h:=h) (R:=R') (by rw [en];exact nofun) (m - R'.done)
    rw [e2] at er
    rw [← er] at hP
    exact qOn a' (hP s a' kp)
  | none =>
    by_cases hb:R'.done<m
    · refine KH.qGl (decide_eq_true hb) ?_
      refine qA6 (qC (i:=0) rfl) a'.o rfl (qC (i:=1) rfl _ ⟨Fr,h,R',_,rfl,a',ho,ok',en,hl',by lia,fun s2 a2 k2=>?_⟩)
      have ek:m - R'.done=(m - R'.done - 1)+1:=by lia
      have eu:qAu h (m - R'.done) R'=qAu h (m - R'.done - 1) (goR h R'):=by
        rw [ek]
        show (match R'.ended with | none=>_ | some _=>_)=_
        rw [en];rfl
      rw [eu] at er
      rcases qLt (h:=h) (R:=R') with ⟨d1,d2⟩ | ⟨d1,d2⟩
      · refine⟨_,?_,goR h R',rfl,a2,qPd ho ok',by rw [qOL];exact hl',kp.trans k2,?_,rfl⟩
        · rw [d2,d1]
          show m - (R'.done+1)+1<m - R'.done+1
          lia
        · rw [d1,← er,show m - (R'.done+1)=m - R'.done - 1 by lia]
      · refine⟨_,?_,goR h R',rfl,a2,qPd ho ok',by rw [qOL];exact hl',kp.trans k2,?_,rfl⟩
        · cases q:(goR h R').ended with
          | none=>exact absurd q d2
          | some w=>exact Nat.succ_pos _
        · rw [qGr d2,← er,qGr d2]
    · refine qJf (decide_eq_false hb) ?_
      rw [show m - R'.done=0 by lia] at er
      have er:R'=_:=er
      rw [← er] at hP
      exact qOn a' (hP s a' kp)
end
end K76
namespace K76
open PySem PySem.Spec PyProof.Rows L2 L3 KH KS K06 K17 KN
open KR (Ev EvB qC qF qAA seq1 q8 ifS qy evb qh qT qH qe rdR)
open K40 (qW qBg qBt qBn qBa qBX qA6 qCG qAF)
section
variable {Fr xs:Sto} {fs:List (Str×Dt)} {E:qA0} {N:TSD} {ρ:Rho} {f:Str} {te:TD}
theorem iX {d:Dt} {ys:Sto} (hv:ρ[0]? = some (some (.ins Fr.length))) (hl:fs.length<1000) (he:∀ P:VD,P d (Fr++(.ob "Runner" fs::(xs++ys)))→te ρ (Fr++(.ob "Runner" fs::xs)) P) (q:N E ρ (Fr++(.ob "Runner" (qCO f d fs)::(xs++ys)))):tseq (qR te (qBU "Runner" (qB 0) f)) N E ρ (Fr++(.ob "Runner" fs::xs)):=by
  refine qBg he (qC hv) (by simp) hl ?_
  rw [qBn];exact q
theorem iE {d:Dt} (hv:ρ[0]? = some (some (.ins Fr.length))) (hl:fs.length<1000) (he:Ev te ρ (Fr++(.ob "Runner" fs::xs)) d) (q:N E ρ (Fr++(.ob "Runner" (qCO f d fs)::xs))):tseq (qR te (qBU "Runner" (qB 0) f)) N E ρ (Fr++(.ob "Runner" fs::xs)):=by
  have:=iX (ys:=[]) (N:=N) (E:=E) (f:=f) hv hl (fun P hp=>he P (by rw [List.append_nil] at hp;exact hp)) (by rw [List.append_nil];exact q)
  exact this
theorem iL (hv:ρ[0]? = some (some (.ins Fr.length))) (hl:fs.length<1000) (q:N E ρ (Fr++(.ob "Runner" (qCO f (.lst (Fr.length+(xs.length+1))) fs)::(xs++[.rw []])))):tseq (qR (qAc qG) (qBU "Runner" (qB 0) f)) N E ρ (Fr++(.ob "Runner" fs::xs)):=by
  refine iX (d:=.lst (Fr.length+(xs.length+1))) hv hl (fun P hp=>⟨Nat.zero_le _,?_⟩) q
  rw [qBX,qBa];exact hp
theorem iL1 {d:Dt} (hv:ρ[0]? = some (some (.ins Fr.length))) (hl:fs.length<1000) (he:Ev te ρ (Fr++(.ob "Runner" fs::xs)) d) (q:N E ρ (Fr++(.ob "Runner" (qCO f (.lst (Fr.length+(xs.length+1))) fs)::(xs++[.rw [d]])))):tseq (qR (qAc (qA te qG)) (qBU "Runner" (qB 0) f)) N E ρ (Fr++(.ob "Runner" fs::xs)):=by
  refine iX (d:=.lst (Fr.length+(xs.length+1))) hv hl (fun P hp=>he _ ⟨by show 1≤sizeLine;decide,?_⟩) q
  rw [qBX,qBa];exact hp
theorem iD (hv:ρ[0]? = some (some (.ins Fr.length))) (hl:fs.length<1000) (q:N E ρ (Fr++(.ob "Runner" (qCO f (.dic (Fr.length+(xs.length+1))) fs)::(xs++[.dc []])))):tseq (qR qHG (qBU "Runner" (qB 0) f)) N E ρ (Fr++(.ob "Runner" fs::xs)):=by
  refine iX (d:=.dic (Fr.length+(xs.length+1))) hv hl (fun P hp=>?_) q
  show P (.dic (Fr++(SO.ob "Runner" fs::xs)).length) ((Fr++(SO.ob "Runner" fs::xs))++[.dc []])
  rw [qBX,qBa];exact hp
theorem qLm {st:Sto} {o o':SO}:(st++[o]).set st.length o'=st++[o']:=by
  rw [List.set_append_right _ _ (Nat.le_refl _),Nat.sub_self];rfl
theorem iT (hv:ρ[0]? = some (some (.ins Fr.length))) (hl:fs.length<1000) (q:N E ρ (Fr++(.ob "Runner" (qCO f (.dic (Fr.length+(xs.length+1))) fs)::(xs++[.dc (qFR 0)])))):tseq (qR (qCg [(Sum.inr (Str.ofString "host rows"),(qD (Dt.int 0))),(Sum.inr (Str.ofString "single rows"),(qD (Dt.int 0))),(Sum.inr (Str.ofString "entries"),(qD (Dt.int 0))),(Sum.inr (Str.ofString "by bindings"),(qD (Dt.int 0))),(Sum.inr (Str.ofString "made"),(qD (Dt.int 0)))]) (qBU "Runner" (qB 0) f)) N E ρ (Fr++(.ob "Runner" fs::xs)):=by
  refine iX (d:=.dic (Fr.length+(xs.length+1))) hv hl (fun P hp=>⟨qj,?_⟩) q
  show P (.dic (Fr++(SO.ob "Runner" fs::xs)).length) (((Fr++(SO.ob "Runner" fs::xs))++[SO.dc []]).set (Fr++(SO.ob "Runner" fs::xs)).length (SO.dc (qFR 0)))
  rw [qLm,qBX,qBa];exact hp
theorem iK (hv:ρ[0]? = some (some (.ins Fr.length))) (hl:fs.length<1000) (q:N E ρ (Fr++(.ob "Runner" (qCO f (.ins (Fr.length+1)) fs)::[.ob "Keeper" (kpF Fr.length),.dc [],.dc []]))):tseq (qR (qD9 "Keeper" K76.qEi qG) (qBU "Runner" (qB 0) f)) N E ρ (Fr++(.ob "Runner" fs::[])):=by
  refine iX (d:=.ins (Fr.length+1)) (ys:=[.ob "Keeper" (kpF Fr.length),.dc [],.dc []]) hv hl (fun P hp=>⟨_,rfl,rfl,rfl,?_⟩) q
  rw [qBX]
  show P (.ins (Fr.length+1)) _
  have e:∀ (o a b c:SO),(Fr++[o])++[a,b,c]=Fr++(o::([]++[a,b,c])):=fun o a b c=>by simp
  rw [e];exact hp
theorem qJD {n:Nat} {zs:List Int} {l:Sto} (h:qD4 Fr n zs):qd (Fr++l) (.lst n)=some (zs.map .int):=by
  obtain⟨o,e1,e2⟩:=h
  show ((Fr++l)[n]?).map SO.items=_
  rw [List.getElem?_append_left (L3.qq e1),e1,← e2];rfl
end
theorem qEX {ds:List Dt} {st:Sto} {Pd:VD} (h:qEf ds st Pd):qCl (Ed Pd) (qU ["self", "state", "given", "bells", "ring", "policy"] ds) st:=by
  obtain⟨Fr,g,gi,be,po,h,rfl,rfl,h1,h2,h3,hP⟩:=h
  refine iE rfl (by decide) (qC (i:=1) rfl) ?_
  refine iE rfl (by show 1<1000;decide) (qAF (qC (i:=2) rfl) (qJD h1)) ?_
  refine iE rfl (by show 2<1000;decide) (qAF (qC (i:=3) rfl) (qJD h2)) ?_
  refine iE rfl (by show 3<1000;decide) (qC (i:=4) rfl) ?_
  refine iE rfl (by show 4<1000;decide) (qAF (qC (i:=5) rfl) (qJD h3)) ?_
  refine iE rfl (by show 5<1000;decide) qF ?_
  refine iK rfl (by show 6<1000;decide) ?_
  refine iD rfl (by show 7<1000;decide) ?_
  refine iE rfl (by show 8<1000;decide) qF ?_
  refine iE rfl (by show 9<1000;decide) qF ?_
  refine iL rfl (by show 10<1000;decide) ?_
  refine iE rfl (by show 11<1000;decide) qF ?_
  refine iE rfl (by show 12<1000;decide) qF ?_
  refine iE rfl (by show 13<1000;decide) qF ?_
  refine iL1 rfl (by show 14<1000;decide) (qe (ds:=[.int 0,g.d,.int 0,.int 0]) (qH qF (qH (qC (i:=1) rfl) (qH qF (qH qF qT)))) (by show 4≤sizeLine;decide)) ?_
  refine iT rfl (by show 15<1000;decide) ?_
  have gt:∀ (k:Nat) (l:Sto),(Fr++l)[Fr.length+k]? = l[k]?:=fun k l=>by rw [List.getElem?_append_right (by lia),Nat.add_sub_cancel_left]
  refine hP _ ⟨fun j o e=>?_,?_,?_,?_,?_,?_,?_⟩
  · rw [List.getElem?_append_left (L3.qq e)];exact e
  · exact (gt 0 _)
  · exact (gt 1 _)
  · exact (gt 2 _)
  · exact (gt 5 _)
  · exact (gt 6 _)
  · exact (gt 7 _)
end K76
namespace K76
open PySem L2 L3 KS K06 K17 KN
structure LM (st:Sto) (n:Nat) (g:GS):Prop where
  b:st[n]? = some (.rw (g.bs.map .int))
  q:st[n+1]? = some (.rw (g.rs.map .int))
  c:st[n+2]? = some (.rw (g.cs.map .int))
  m:st[n+3]? = some (.rw [.int g.p,.lst n,msD g.m,svD g.sv,.lst (n+1),.lst (n+2)])
def Km (n:Nat) (st st':Sto):Prop:=∀ (j:Nat) o,(j<n∨n+4≤j)→st[j]? = some o→st'[j]? = some o
section
variable {st st' st'':Sto} {n:Nat} {g:GS}
theorem Km.refl:Km n st st:=fun _ _ _ h=>h
theorem Km.trans (a:Km n st st') (b:Km n st' st''):Km n st st'':=fun j o h e=>b j o h (a j o h e)
theorem Km.ext (x:qx st st'):Km n st st':=fun j o _ e=>x j o e
theorem qCj {k:Nat} {o:SO} (h:n≤k∧k<n+4):Km n st (st.set k o):=fun j o' hj e=>L3.qN e (by lia)
theorem LM.ext (h:LM st n g) (x:qx st st'):LM st' n g:=⟨x _ _ h.b,x _ _ h.q,x _ _ h.c,x _ _ h.m⟩
theorem LM.qOo (h:LM st n g) (l:List Int):LM (st.set n (.rw (l.map .int))) n { g with bs:=l }:=⟨L3.qAV h.b,L3.qN h.q (by lia),L3.qN h.c (by lia),L3.qN h.m (by lia)⟩
theorem LM.qTC (h:LM st n g) (l:List Int):LM (st.set (n+1) (.rw (l.map .int))) n { g with rs:=l }:=⟨L3.qN h.b (by lia),L3.qAV h.q,L3.qN h.c (by lia),L3.qN h.m (by lia)⟩
theorem LM.cells (h:LM st n g) (l:List Int):LM (st.set (n+2) (.rw (l.map .int))) n { g with cs:=l }:=⟨L3.qN h.b (by lia),L3.qN h.q (by lia),L3.qAV h.c,L3.qN h.m (by lia)⟩
theorem LM.own (h:LM st n g) (p:Int) (m:M3) (sv:Option (Int×M3)):LM (st.set (n+3) (.rw [.int p,.lst n,msD m,svD sv,.lst (n+1),.lst (n+2)])) n { g with p:=p,m:=m,sv:=sv }:=⟨L3.qN h.b (by lia),L3.qN h.q (by lia),L3.qN h.c (by lia),L3.qAV h.m⟩
theorem LM.seq (h:LM st n g):qd st (.lst (n+3))=some [.int g.p,.lst n,msD g.m,svD g.sv,.lst (n+1),.lst (n+2)]:=by show (st[n+3]?).map SO.items=_;rw [h.m];rfl
theorem LM.sb (h:LM st n g):qd st (.lst n)=some (g.bs.map .int):=by show (st[n]?).map SO.items=_;rw [h.b];rfl
theorem LM.sq (h:LM st n g):qd st (.lst (n+1))=some (g.rs.map .int):=by show (st[n+1]?).map SO.items=_;rw [h.q];rfl
theorem LM.sc (h:LM st n g):qd st (.lst (n+2))=some (g.cs.map .int):=by show (st[n+2]?).map SO.items=_;rw [h.c];rfl
end
def qBY:RDL:=fun ds st P=>∃ (s k:Nat) (ns:List Int),ds=[.lst s,.int (k:Nat)]∧qD4 st s ns∧P (.int (ns.getD k 0)) st
noncomputable def turnF (x k:Int):Int:=((x%1999999861+307 * k+7) * 39916801%2147483549) * ((x%1999999861+307 * k+7) * 39916801%2147483549)%2147483497 / 11
def qAW:RDL:=fun ds st P=>∃ (x:Int) (k:Nat),ds=[.int x,.int (k:Nat)]∧k≤1000∧P (.int (turnF x k)) st
def qI5:RDL:=fun ds st P=>∃ g:GS,ds=[g.d]∧g.Ok∧∀ st',qx st st'→LM st' st.length g→P (.lst (st.length+3)) st'
def qBd:RDL:=fun ds st P=>∃ (n:Nat) (g:GS),ds=[.lst (n+3)]∧LM st n g∧P g.d st
def qA3:RDL:=fun ds st P=>∃ (n:Nat) (g:GS) (a r:Int),ds=[.lst (n+3),.int a,.int r]∧LM st n g∧g.Ok∧0≤a∧(r=1∨r=2∨r=4)∧P (.bl (may r g a)) st
noncomputable def qCz (w:Str) (x y:Int):Int:=if w = "add" then x+y else if w = "sub" then x - y else if w = "mul" then x * y else x / max y 1
noncomputable def qKS (w:Str) (x y:Int):Bool:=if w = "div" then decide (0<x%max y 1) else decide (qCz w x y≠qCz w x y%65536)
def qHN:RDL:=fun ds st P=>∃ (w:Str) (x y:Int),ds=[.str w,.int x,.int y]∧(w = "add" ∨ w = "sub" ∨ w = "mul" ∨ w = "div")∧0≤x∧x<65536∧0≤y∧y<65536∧∀ n st',qx st st'→st'[n]? = some (.rw [.int (qCz w x y%65536),msD (decide (qCz w x y%65536=0),decide (32768≤qCz w x y%65536),qKS w x y)])→P (.lst n) st'
def qIs:RDL:=fun ds st P=>∃ (n:Nat) (g:GS) (w:Str) (a c:Int),ds=[.lst (n+3),.str w,.int a,.int c]∧LM st n g∧g.Ok∧0≤a∧a<8∧(w = "go" ∨ w = "jump" ∨ w = "when")∧∀ st',qx st st'→P (.int (if w = "go" then bx g a else if w = "jump" ∨ qCn a g.m=true then (g.p+c - 31)%65536 else g.p+1)) st'
noncomputable def qDL (g:GS) (w:Str) (a q c:Int):Option GS:=if w = "right" then (if bx g a<g.rs.length then some { g with rs:=g.rs.set (bx g a).toNat (c%8) } else none) else if w = "get" then (if may 1 g q=true then some { g with bs:=g.bs.set a.toNat (g.cs.getD q.toNat 0) } else none) else (if may 2 g q=true then some { g with cs:=g.cs.set q.toNat (bx g a) } else none)
def qE8:RDL:=fun ds st P=>∃ (n:Nat) (g:GS) (w:Str) (a q c:Int),ds=[.lst (n+3),.str w,.int a,.int q,.int c]∧LM st n g∧g.Ok∧0≤a∧a<8∧0≤q∧(w = "right" ∨ w = "get" ∨ w = "set")∧∀ st',Km n st st'→LM st' n ((qDL g w a q c).getD g)→P (.str (if (qDL g w a q c).isSome then "on" else "closed")) st'
end K76
namespace K76
open PySem PySem.Spec PyProof.Rows L2 L3 KH KS K06 K17 KN
open KR (Ev EvB qC qF qAA seq1 q8 ifS qy evb qAQ qAK qz qAN qAm qAE qAe ql qh qT qH qe qAL rdR qV qAP qAC q9)
open K31 (EvX qBR qAl xb qAS qAY qBc qi qk)
open K40 (qW qBg qBt qBn qBa qBX qA6 qCG qAF)
abbrev qDW:TSD:=(tseq (qo (qM (qE (qAO fun i j=>decide (i<j)) (qB 1) (qI qBE (qA (qB 0) qG)))) (tseq (qX (qE qL (qB 0) (qB 1))) qJ) qJ) (tseq (qX (qD (Dt.int 0))) qJ))
abbrev qFs:TSD:=(tseq (qR (qE qAB (qE qBu (qE L3.qAT (qE L3.qAT (qE qAB (qB 0) (qD (Dt.int 1999999861))) (qE qBu (qD (Dt.int 307)) (qB 1))) (qD (Dt.int 7))) (qD (Dt.int 39916801))) (qD (Dt.int 2147483549))) (qP 0)) (tseq (qX (qE qAk (qE qAB (qE qBu (qB 0) (qB 0)) (qD (Dt.int 2147483497))) (qD (Dt.int 11)))) qJ))
abbrev qFl:TSD:=(tseq (qX (qAc (qA (qE qL (qB 0) (qD (Dt.int 0))) (qA (qI qEy (qA (qE qL (qB 0) (qD (Dt.int 1))) qG)) (qA (qE qL (qB 0) (qD (Dt.int 2))) (qA (qE qL (qB 0) (qD (Dt.int 3))) (qA (qI qEy (qA (qE qL (qB 0) (qD (Dt.int 4))) qG)) (qA (qI qEy (qA (qE qL (qB 0) (qD (Dt.int 5))) qG)) qG)))))))) qJ)
abbrev qEF:TSD:=(tseq (qX (qAf (qA (qE qL (qB 0) (qD (Dt.int 0))) (qA (qI qAa (qA (qE qL (qB 0) (qD (Dt.int 1))) qG)) (qA (qE qL (qB 0) (qD (Dt.int 2))) (qA (qE qL (qB 0) (qD (Dt.int 3))) (qA (qI qAa (qA (qE qL (qB 0) (qD (Dt.int 4))) qG)) (qA (qI qAa (qA (qE qL (qB 0) (qD (Dt.int 5))) qG)) qG)))))))) qJ)
abbrev qDg:TSD:=(tseq (qX (qBw (qE (qAO fun i j=>decide (i<j)) (qB 1) (qI qBE (qA (qE qL (qB 0) (qD (Dt.int 5))) qG))) (qE (qZ false) (qE qAB (qE qAk (qE qL (qE qL (qB 0) (qD (Dt.int 4))) (qE qAk (qB 1) (qD (Dt.int 8)))) (qB 2)) (qD (Dt.int 2))) (qD (Dt.int 1))))) qJ)
section
variable {ρ:Rho} {st:Sto} {te ta tb:TD} {n:Nat} {d:Dt}
theorem qY {x y:Int} (h:Ev ta ρ st (.int x)) (h2:Ev tb ρ st (.int y)) (h0:0<y):Ev (qE qAB ta tb) ρ st (.int (x%y)):=fun P hp=>h _ (h2 _ ⟨h0,hp⟩)
theorem qCM {x y:Int} (h:Ev ta ρ st (.int x)) (h2:Ev tb ρ st (.int y)) (hc:qMS x y):Ev (qE qBu ta tb) ρ st (.int (x * y)):=fun P hp=>h _ (h2 _ ⟨hc,hp⟩)
theorem qBz {xs:List Int} {i:Nat} (h:Ev ta ρ st d) (hs:qd st d=some (xs.map .int)) (h2:Ev tb ρ st (.int (i:Nat))) (hi:i<xs.length):Ev (qE qL ta tb) ρ st (.int (xs.getD i 0)):=by
  refine qAC h hs h2 ?_
  k_dat 0"r75"
theorem qC9 {xs:List Int} (h:Ev te ρ st d) (hs:qd st d=some (xs.map .int)):Ev (qI qBE (qA te qG)) ρ st (.int (xs.length:Nat)):=by
  have:=q9 h hs
  rw [List.length_map] at this
  exact this
theorem LM.ev {g:GS} (l:LM st n g) (h:Ev te ρ st (.lst (n+3))) {j:Nat} {d:Dt} (e:[Dt.int g.p,.lst n,msD g.m,svD g.sv,.lst (n+1),.lst (n+2)][j]? = some d):Ev (qE qL te (qD (Dt.int (j:Int)))) ρ st d:=qAC h l.seq qF e
end
theorem qF7 {ds:List Dt} {st:Sto} {Pd:VD} (h:qBY ds st Pd):qDW (Ed Pd) (qU ["script", "k"] ds) st:=by
  obtain⟨s,k,ns,rfl,⟨o,e1,e2⟩,hP⟩:=h
  have hs:qd st (.lst s)=some (ns.map .int):=by show (st[s]?).map SO.items=_;rw [e1,← e2];rfl
  refine qy (evb (qAS (qC (i:=1) rfl) (qC9 (qC (i:=0) rfl) hs))) (fun hb=>?_) fun hb=>?_
  · exact rdR (qBz (qC (i:=0) rfl) hs (qC (i:=1) rfl) (by have:=of_decide_eq_true hb;lia)) hP
  · have hk:¬ (k:Int)<(ns.length:Nat):=of_decide_eq_false hb
    rw [List.getD_eq_getElem?_getD,List.getElem?_eq_none (by lia)] at hP
    exact rdR qF hP
theorem qAM {ρ:Rho} {st:Sto} {te:TD} {t:TAD} {d:Dt} {P:List Dt→Sto→Prop} (h:Ev te ρ st d) (q:t ρ st fun ds s2=>P (d::ds) s2):qA te t ρ st P:=h _ q
theorem qJG {ρ:Rho} {st:Sto} {te:TD} {t:TAD} {xs:List Dt} {P:List Dt→Sto→Prop} (h:Ev te ρ st (.tup xs)) (q:t ρ (st++[.rw xs]) fun ds s2=>P (.lst st.length::ds) s2):qA (qI qEy (qA te qG)) t ρ st P:=h _ q
theorem qR5 {E:qA0} {N:TSD} {ρ:Rho} {st:Sto} {t:TAD} (q:t ρ st fun ds s1=>ds.length≤sizeLine∧E.rt (.lst s1.length) (s1++[.rw ds])):tseq (qX (qAc t)) N E ρ st:=q
theorem qIa {ds:List Dt} {st:Sto} {Pd:VD} (h:qI5 ds st Pd):qFl (Ed Pd) (qU ["state"] ds) st:=by
  obtain⟨g,rfl,ok,hP⟩:=h
  have e0:∀ s (j:Nat) d,[Dt.int g.p,.tup (g.bs.map .int),msD g.m,svD g.sv,.tup (g.rs.map .int),.tup (g.cs.map .int)][j]? = some d→Ev (qE qL (qB 0) (qD (Dt.int (j:Int)))) [some g.d] s d:=fun s j d e=>qAA (j:=j) (qC (i:=0) rfl) e
  refine qR5 (qAM (e0 _ 0 _ rfl) (qJG (e0 _ 1 _ rfl) (qAM (e0 _ 2 _ rfl) (qAM (e0 _ 3 _ rfl) (qJG (e0 _ 4 _ rfl) (qJG (e0 _ 5 _ rfl) ?_))))))
  refine⟨by show 6≤sizeLine;decide,?_⟩
  have e1:((st++[SO.rw (g.bs.map .int)])++[SO.rw (g.rs.map .int)]++[SO.rw (g.cs.map .int)]).length=st.length+3:=by simp
  have e2:((st++[SO.rw (g.bs.map .int)])++[SO.rw (g.rs.map .int)]).length=st.length+2:=by simp
  have e3:(st++[SO.rw (g.bs.map .int)]).length=st.length+1:=by simp
  rw [e1,e2,e3]
  refine hP _ (((qx.app _ _).trans (.app _ _)).trans ((qx.app _ _).trans (.app _ _))) ⟨?_,?_,?_,?_⟩<;>simp
theorem qGP {ds:List Dt} {st:Sto} {Pd:VD} (h:qBd ds st Pd):qEF (Ed Pd) (qU ["state"] ds) st:=by
  obtain⟨n,g,rfl,l,hP⟩:=h
  have v:Ev (qB 0) [some (.lst (n+3))] st (.lst (n+3)):=qC rfl
  exact rdR (d:=g.d) (qe (qH (l.ev v (j:=0) rfl) (qH (qAF (l.ev v (j:=1) rfl) l.sb) (qH (l.ev v (j:=2) rfl) (qH (l.ev v (j:=3) rfl) (qH (qAF (l.ev v (j:=4) rfl) l.sq) (qH (qAF (l.ev v (j:=5) rfl) l.sc) qT)))))) (by show 6≤sizeLine;decide)) hP
theorem qFt {ds:List Dt} {st:Sto} {Pd:VD} (h:qA3 ds st Pd):qDg (Ed Pd) (qU ["state", "at", "bit"] ds) st:=by
  obtain⟨n,g,a,r,rfl,l,ok,a0,hr,hP⟩:=h
  have v:Ev (qB 0) [some (.lst (n+3)),some (.int a),some (.int r)] st (.lst (n+3)):=qC rfl
  have hr0:0<r∧r<1073741824:=by rcases hr with rfl | rfl | rfl<;>decide
  k_dat 0"r54"
  have em:may r g (k:Nat)=(decide ((k:Int)<(g.cs.length:Nat))&&decide (g.rs.getD (k / 8) 0 / r%2=1)):=by
    unfold may
    rw [decide_eq_true a0,Bool.true_and,show ((k:Int) / 8).toNat=k / 8 by lia]
  rw [em] at hP
  refine rdR (qAN (qAS (qC (i:=1) rfl) (qC9 (l.ev v (j:=5) rfl) l.sc)) fun hb=>?_) hP
  have hk:(k:Int)<(g.cs.length:Nat):=of_decide_eq_true hb
  have h8:=ok.c8
  refine ql (qY (qi (qBz (i:=k / 8) (l.ev v (j:=4) rfl) l.sq ?_ (by lia)) (qC (i:=2) rfl) hr0.1 hr0.2) qF (by decide)) qF
  rw [show ((k / 8:Nat):Int)=(k:Int) / 8 from rfl]
  exact qi (qC (i:=1) rfl) qF (by decide) (by decide)
theorem qI0 {ds:List Dt} {st:Sto} {Pd:VD} (h:qAW ds st Pd):qFs (Ed Pd) (qU ["number", "k"] ds) st:=by
  obtain⟨x,k,rfl,hk,hP⟩:=h
  have m0:=Int.emod_nonneg x (show (1999999861:Int)≠0 by decide)
  have m1:=Int.emod_lt_of_pos x (show (0:Int)<1999999861 by decide)
  refine q8 (qY (qCM (qV (qV (qY (qC (i:=0) rfl) qF (by decide)) (qCM qF (qC (i:=1) rfl) (.inl (by decide)))) qF) qF (.inr (by decide))) qF (by decide) _ ?_)
  have n0:=Int.emod_nonneg ((x%1999999861+307 * k+7) * 39916801) (show (2147483549:Int)≠0 by decide)
  have n1:=Int.emod_lt_of_pos ((x%1999999861+307 * k+7) * 39916801) (show (0:Int)<2147483549 by decide)
  exact rdR (qi (qY (qCM (qC (i:=0) rfl) (qC (i:=0) rfl) (.inl ⟨by lia,by lia⟩)) qF (by decide)) qF (by decide) (by decide)) hP
end K76
namespace K76
open PySem PySem.Spec PyProof.Rows L2 L3 KH KS K06 K17 KN
open KR (Ev EvB qC qF qAA seq1 q8 ifS qy evb qAQ qAK qz qAN qAy qAm qAE qAe ql qAd qh qT qH qe qAL rdR qV qAP qAC q9)
open K31 (EvX qBR qAl xb qAS qAY qBc qi qk)
open K40 (qW qBg qBt qBn qBa qBX qA6 qCG qAF)
abbrev rk1:TSD:=(tseq (qR (qE qAB (qB 3) (qD (Dt.int 65536))) (qP 4)) (tseq (qR (qE (qZ true) (qB 3) (qB 4)) (qP 5)) (tseq (qo (qM (qE (qZ false) (qB 0) (qD (Dt.str "div")))) (tseq (qR (qE (qAO fun i j=>decide (j<i)) (qE qAB (qB 1) (qI qG2 (qA (qB 2) (qA (qD (Dt.int 1)) qG)))) (qD (Dt.int 0))) (qP 5)) qJ) qJ) (tseq (qX (qAc (qA (qB 4) (qA (qAf (qA (qE (qZ false) (qB 4) (qD (Dt.int 0))) (qA (qE (qAO fun i j=>decide (j≤i)) (qB 4) (qD (Dt.int 32768))) (qA (qB 5) qG)))) qG)))) qJ))))
abbrev qDO:TSD:=(tseq (qR (qE qC7 (qCg [(Sum.inr (Str.ofString "add"),(qE L3.qAT (qB 1) (qB 2))),(Sum.inr (Str.ofString "sub"),(qE L3.qC2 (qB 1) (qB 2))),(Sum.inr (Str.ofString "mul"),(qE qBu (qB 1) (qB 2))),(Sum.inr (Str.ofString "div"),(qE qAk (qB 1) (qI qG2 (qA (qB 2) (qA (qD (Dt.int 1)) qG)))))]) (qB 0)) (qP 3)) rk1)
abbrev jp2:TSD:=(tseq (qR (qAc (qA (qE qL (qB 4) (qD (Dt.int 0))) (qA (qCA (qE qL (qB 4) (qD (Dt.int 0)))) (qA (qE qL (qB 4) (qD (Dt.int 1))) (qA (qCA (qE qL (qB 4) (qD (Dt.int 1)))) (qA (qE qL (qB 4) (qD (Dt.int 2))) (qA (qCA (qE qL (qB 4) (qD (Dt.int 2)))) (qA (qD (Dt.bl true)) (qA (qD (Dt.bl false)) qG))))))))) (qP 5)) (tseq (qo (qBl (qM (qE (qZ false) (qB 1) (qD (Dt.str "jump")))) (qM (qE qL (qB 5) (qB 2)))) (tseq (qX (qE qAB (qE L3.qC2 (qE L3.qAT (qE qL (qB 0) (qD (Dt.int 0))) (qB 3)) (qD (Dt.int 31))) (qD (Dt.int 65536)))) qJ) qJ) (tseq (qX (qE L3.qAT (qE qL (qB 0) (qD (Dt.int 0))) (qD (Dt.int 1)))) qJ)))
abbrev qFm:TSD:=(tseq (qR (qE qL (qB 0) (qD (Dt.int 2))) (qP 4)) (tseq (qo (qM (qE (qZ false) (qB 1) (qD (Dt.str "go")))) (tseq (qX (qE qL (qE qL (qB 0) (qD (Dt.int 1))) (qB 2))) qJ) qJ) jp2))
section
variable {ρ:Rho} {st:Sto} {te ta tb tk:TD} {n:Nat} {d:Dt}
theorem qKu {x y:Int} (h:Ev ta ρ st (.int x)) (h2:Ev tb ρ st (.int y)):Ev (qE (qAO fun i j=>decide (j≤i)) ta tb) ρ st (.bl (decide (y≤x))):=fun P hp=>h _ (h2 _ hp)
theorem qPV {x y:Int} (h:Ev ta ρ st (.int x)) (h2:Ev tb ρ st (.int y)):Ev (qI qG2 (qA ta (qA tb qG))) ρ st (.int (max x y)):=fun P hp=>h _ (h2 _ (by
  show P (.int (if y > x then y else x)) st
  have e:(if y > x then y else x)=max x y:=by
    split
    · rw [Int.max_eq_right (by lia)]
    · rw [Int.max_eq_left (by lia)]
  rw [e];exact hp))
theorem qJU {kts:List (Key×TD)} {ds:List Dt} {kd:Dt} {k:Key} (h:∀ s (P:List Dt→Sto→Prop),P ds s→tvK kts ρ s P) (hk:∀ s,Ev tk ρ s kd) (ek:qI2 kd=some k) (hv:qFA ((kts.map (·.1)).zip ds) k=some d):EvX (qE qC7 (qCg kts) tk) ρ st d:=fun P hp=>h _ _ ⟨qj,hk _ _ (by
  rw [qLm]
  show (match (st++[SO.dc ((kts.map (·.1)).zip ds)])[st.length]?,qI2 kd with | some (.dc kvs),some k=>_ | _,_=>_)
  rw [qj,ek]
  show (match qFA ((kts.map (·.1)).zip ds) k with | some d=>_ | none=>_)
  rw [hv];exact hp _ (.app _ _))⟩
theorem qJR:∀ s (P:List Dt→Sto→Prop),P [] s→tvK [] ρ s P:=fun s P hp=>hp
theorem qBk {k:Key} {kts:List (Key×TD)} {ds:List Dt} (h:∀ s,Ev te ρ s d) (q:∀ s (P:List Dt→Sto→Prop),P ds s→tvK kts ρ s P):∀ s (P:List Dt→Sto→Prop),P (d::ds) s→tvK ((k,te)::kts) ρ s P:=fun s P hp=>h s _ (q s _ hp)
end
theorem qSH {st:Sto} {Pd:VD} {w:Str} {x y:Int} (hw:w = "add" ∨ w = "sub" ∨ w = "mul" ∨ w = "div") (hP:∀ n st',qx st st'→st'[n]? = some (.rw [.int (qCz w x y%65536),msD (decide (qCz w x y%65536=0),decide (32768≤qCz w x y%65536),qKS w x y)])→Pd (.lst n) st'):rk1 (Ed Pd) [some (.str w),some (.int x),some (.int y),some (.int (qCz w x y)),none,none] st:=by
  refine q8 (qY (qC (i:=3) rfl) qF (by decide) _ ?_)
  refine q8 (qOW (qC (i:=3) rfl) (qC (i:=4) rfl) _ ?_)
  have fin:∀ c:Bool,c=qKS w x y→tseq (qX (qAc (qA (qB 4) (qA (qAf (qA (qE (qZ false) (qB 4) (qD (Dt.int 0))) (qA (qE (qAO fun i j=>decide (j≤i)) (qB 4) (qD (Dt.int 32768))) (qA (qB 5) qG)))) qG)))) qJ (Ed Pd) [some (.str w),some (.int x),some (.int y),some (.int (qCz w x y)),some (.int (qCz w x y%65536)),some (.bl c)] st:=fun c hc=>by
    refine qR5 (qAM (qC (i:=4) rfl) (qAM (qe (qH (ql (qC (i:=4) rfl) qF) (qH (qKu (qC (i:=4) rfl) qF) (qH (qC (i:=5) rfl) qT))) (by show 3≤sizeLine;decide)) ?_))
    refine⟨by show 2≤sizeLine;decide,?_⟩
    subst hc
    exact hP _ _ (.app _ _) qj
  refine qy (evb (qAE (a:=w) (qC (i:=0) rfl))) (fun hb=>?_) fun hb=>?_
  · have e:w = "div":=eq_of_beq hb
    refine q8 (qAd (qY (qC (i:=1) rfl) (qPV (qC (i:=2) rfl) qF) (by have:=Int.le_max_right y 1;lia)) qF _ ?_)
    exact fin _ (by unfold qKS;rw [if_pos e])
  · have e:w ≠ "div":=fun q=>by rw [q] at hb;cases hb
    refine fin _ ?_
    unfold qKS
    rw [if_neg e]
    exact (decide_not).symm
theorem qFM {ds:List Dt} {st:Sto} {Pd:VD} (h:qHN ds st Pd):qDO (Ed Pd) (qU ["word", "x", "y", "plain", "number", "carry"] ds) st:=by
  obtain⟨w,x,y,rfl,hw,x0,x1,y0,y1,hP⟩:=h
  have hm:0<max y 1∧max y 1<1073741824:=by
    have:=Int.le_max_right y 1
    refine⟨by lia,?_⟩
    rcases Int.le_total y 1 with h | h
    · rw [Int.max_eq_right h];decide
    · rw [Int.max_eq_left h];lia
  have go:EvX (qE qC7 (qCg [(Sum.inr (Str.ofString "add"),(qE L3.qAT (qB 1) (qB 2))),(Sum.inr (Str.ofString "sub"),(qE L3.qC2 (qB 1) (qB 2))),(Sum.inr (Str.ofString "mul"),(qE qBu (qB 1) (qB 2))),(Sum.inr (Str.ofString "div"),(qE qAk (qB 1) (qI qG2 (qA (qB 2) (qA (qD (Dt.int 1)) qG)))))]) (qB 0)) [some (.str w),some (.int x),some (.int y),none,none,none] st (.int (qCz w x y)):=by
    refine qJU (ds:=[.int (x+y),.int (x - y),.int (x * y),.int (x / max y 1)]) (k:=.inr w) (qBk (fun s=>qV (qC (i:=1) rfl) (qC (i:=2) rfl)) (qBk (fun s=>qAP (qC (i:=1) rfl) (qC (i:=2) rfl)) (qBk (fun s=>qCM (qC (i:=1) rfl) (qC (i:=2) rfl) (.inl ⟨by lia,by lia⟩)) (qBk (fun s=>qi (qC (i:=1) rfl) (qPV (qC (i:=2) rfl) qF) hm.1 hm.2) qJR)))) (fun s=>qC (i:=0) rfl) rfl ?_
    rcases hw with rfl | rfl | rfl | rfl<;>rfl
  refine q8 (go _ fun s1 x1'=>?_)
  exact qSH hw fun n st' x' e=>hP n st' (x1'.trans x') e
theorem qMJ {E:qA0} {N:TSD} {ρ:Rho} {st:Sto} {t:TAD} {i:Nat} (q:t ρ st fun ds s1=>ds.length≤sizeLine∧N E (ρ.set i (some (.lst s1.length))) (s1++[.rw ds])):tseq (qR (qAc t) (qP i)) N E ρ st:=q
theorem qBQ {l:List Dt} {i:Nat} {d:Dt} (h:l[i]? = some d):atI l (i:Int)=some d:=by
  have hi:=L3.qq h
  unfold L2.atI L2.ixN
  rw [if_pos (by lia),if_pos (by lia)]
  show l[((i:Nat):Int).toNat]? = some d
  rw [Int.toNat_natCast];exact h
theorem qJL {ds:List Dt} {st:Sto} {Pd:VD} (h:qIs ds st Pd):qFm (Ed Pd) (qU ["state", "word", "a", "c", "marks", "turns"] ds) st:=by
  obtain⟨n,g,w,a,c,rfl,l,ok,a0,a8,hw,hP⟩:=h
  k_dat 0"r54"
  have hb8:=ok.b8
  refine q8 (l.ev (qC (i:=0) rfl) (j:=2) rfl _ ?_)
  refine qy (evb (qAE (a:=w) (qC (i:=1) rfl))) (fun hb=>?_) fun hb=>?_
  · have e:w = "go":=eq_of_beq hb
    rw [if_pos e] at hP
    exact rdR (qBz (i:=k) (l.ev (qC (i:=0) rfl) (j:=1) rfl) l.sb (qC (i:=2) rfl) (by lia)) (hP st (.refl _))
  · have e:w ≠ "go":=fun q=>by rw [q] at hb;cases hb
    rw [if_neg e] at hP
    obtain⟨m1,m2,m3,hm⟩:∃ m1 m2 m3,g.m=(m1,m2,m3):=⟨_,_,_,rfl⟩
    have e4:∀ s (j:Nat) d,[Dt.bl m1,.bl m2,.bl m3][j]? = some d→Ev (qE qL (qB 4) (qD (Dt.int (j:Int)))) [some (.lst (n+3)),some (.str w),some (.int (k:Nat)),some (.int c),some (msD g.m),none] s d:=fun s j d e=>qAA (j:=j) (xs:=[.bl m1,.bl m2,.bl m3]) (by rw [hm];exact qC (i:=4) rfl) e
    refine qMJ (qAM (e4 _ 0 _ rfl) (qAM (qAy (e4 _ 0 _ rfl)) (qAM (e4 _ 1 _ rfl) (qAM (qAy (e4 _ 1 _ rfl)) (qAM (e4 _ 2 _ rfl) (qAM (qAy (e4 _ 2 _ rfl)) (qAM qF (qAM qF ?_))))))))
    refine⟨by show 8≤sizeLine;decide,?_⟩
    have et:[Dt.bl m1,.bl (!m1),.bl m2,.bl (!m2),.bl m3,.bl (!m3),.bl true,.bl false][k]? = some (.bl (qCn (k:Nat) g.m)):=by
      rw [hm]
      have h8:k<8:=by lia
      rcases (by decide:∀ k:Nat,k<8→k=0∨k=1∨k=2∨k=3∨k=4∨k=5∨k=6∨k=7) k h8 with rfl | rfl | rfl | rfl | rfl | rfl | rfl | rfl<;>rfl
    have l2:=l.ext (qx.app st (.rw [Dt.bl m1,.bl (!m1),.bl m2,.bl (!m2),.bl m3,.bl (!m3),.bl true,.bl false]))
    have es:qd (st++[.rw [Dt.bl m1,.bl (!m1),.bl m2,.bl (!m2),.bl m3,.bl (!m3),.bl true,.bl false]]) (.lst st.length)=some [Dt.bl m1,.bl (!m1),.bl m2,.bl (!m2),.bl m3,.bl (!m3),.bl true,.bl false]:=by
      show ((st++[SO.rw _])[st.length]?).map SO.items=_
      rw [qj];rfl
    have hP2:=hP _ (qx.app st (.rw [Dt.bl m1,.bl (!m1),.bl m2,.bl (!m2),.bl m3,.bl (!m3),.bl true,.bl false]))
    generalize st++[SO.rw [Dt.bl m1,.bl (!m1),.bl m2,.bl (!m2),.bl m3,.bl (!m3),.bl true,.bl false]]=s2 at l2 es hP2 ⊢
    refine qy (qAK (evb (qAE (a:=w) (qC (i:=1) rfl))) fun _=>evb (qAC (qC (i:=5) rfl) es (qC (i:=2) rfl) et)) (fun hb2=>?_) fun hb2=>?_
    · have e2:w = "jump" ∨ qCn (k:Nat) g.m=true:=by
        rcases Bool.or_eq_true_iff.mp hb2 with q | q
        · exact .inl (eq_of_beq q)
        · exact .inr q
      rw [if_pos e2] at hP2
      exact rdR (qY (qAP (qV (l2.ev (qC (i:=0) rfl) (j:=0) rfl) (qC (i:=3) rfl)) qF) qF (by decide)) hP2
    · have e2:¬ (w = "jump" ∨ qCn (k:Nat) g.m=true):=fun q=>by
        rcases q with q | q
        · rw [q] at hb2;cases hb2
        · rw [q,Bool.or_true] at hb2;cases hb2
      rw [if_neg e2] at hP2
      exact rdR (qV (l2.ev (qC (i:=0) rfl) (j:=0) rfl) qF) hP2
end K76
namespace K76
open PySem PySem.Spec PyProof.Rows L2 L3 KH KS K06 K17 KN
open KR (Ev EvB qC qF qAA seq1 q8 ifS qy evb qAQ qAK qz qAN qAy qAm qAE qAe ql qAd qh qT qH qe qAL rdR qV qAP qAC q9)
open K31 (EvX qBR qAl xb qAS qAY qBc qi qk)
open K40 (qW qBg qBt qBn qBa qBX qA6 qCG qAF)
abbrev qEv:TSD:=(tseq (qo (qM (qE (qZ false) (qB 1) (qD (Dt.str "right")))) (tseq (qo (qM (qE (qAO fun i j=>decide (j≤i)) (qE qL (qE qL (qB 0) (qD (Dt.int 1))) (qB 2)) (qI qBE (qA (qE qL (qB 0) (qD (Dt.int 4))) qG)))) (tseq (qX (qD (Dt.str "closed"))) qJ) qJ) (tseq (qR (qE qAB (qB 4) (qD (Dt.int 8))) (qCX (qE qL (qB 0) (qD (Dt.int 4))) (qE qL (qE qL (qB 0) (qD (Dt.int 1))) (qB 2)))) qJ)) (tseq (qo (qBG (qM (qI K76.qA3 (qA (qB 0) (qA (qB 3) (qA (qE qC7 (qCg [(Sum.inr (Str.ofString "get"),(qD (Dt.int 1))),(Sum.inr (Str.ofString "set"),(qD (Dt.int 2)))]) (qB 1)) qG)))))) (tseq (qX (qD (Dt.str "closed"))) qJ) (tseq (qo (qM (qE (qZ false) (qB 1) (qD (Dt.str "get")))) (tseq (qR (qE qL (qE qL (qB 0) (qD (Dt.int 5))) (qB 3)) (qCX (qE qL (qB 0) (qD (Dt.int 1))) (qB 2))) qJ) (tseq (qR (qE qL (qE qL (qB 0) (qD (Dt.int 1))) (qB 2)) (qCX (qE qL (qB 0) (qD (Dt.int 5))) (qB 3))) qJ)) qJ)) qJ)) (tseq (qX (qD (Dt.str "on"))) qJ))
theorem qSt {E:qA0} {N:TSD} {ρ:Rho} {st:Sto} {te ta tb:TD} {m i:Nat} {xs:List Int} {v:Int} (he:Ev te ρ st (.int v)) (ha:Ev ta ρ st (.lst m)) (hb:Ev tb ρ st (.int (i:Nat))) (hs:st[m]? = some (.rw (xs.map .int))) (hi:i<xs.length) (q:N E ρ (st.set m (.rw ((xs.set i v).map .int)))):tseq (qR te (qCX ta tb)) N E ρ st:=he _ (ha _ (hb _ (by
  show (match st[m]? with | some (.rw xs)=>_ | _=>_)
  rw [hs]
  show (match ixN (xs.map Dt.int).length ((i:Nat):Int) with | some j=>_ | none=>_)
  have e:ixN (xs.map Dt.int).length ((i:Nat):Int)=some i:=by
    unfold L2.ixN
    rw [List.length_map,if_pos (by lia),if_pos (by lia),Int.toNat_natCast]
  rw [e]
  show N E ρ (st.set m (.rw ((xs.map Dt.int).set i (.int v))))
  rw [← List.map_set];exact q)))
theorem qVl {ρ:Rho} {st:Sto} {c:TBD} {b:Bool} (h:qBR c ρ st b):qBR (qBG c) ρ st (!b):=fun P hp=>h _ hp
theorem qQI {ρ:Rho} {st:Sto} {sp:RDL} {t0 t1 t2:TD} {a b c d:Dt} (h0:Ev t0 ρ st a) (h1:Ev t1 ρ st b) (h2:EvX t2 ρ st c) (hs:∀ s,qx st s→∀ P:VD,P d s→sp [a,b,c] s P):EvX (qI sp (qA t0 (qA t1 (qA t2 qG)))) ρ st d:=fun P hp=>h0 _ (h1 _ (h2 _ fun s x=>hs s x P (hp s x)))
theorem qGm {g:GS} {k:Nat}:bx g (k:Nat)=g.bs.getD k 0:=by unfold bx;rw [Int.toNat_natCast]
theorem qHt {ds:List Dt} {st:Sto} {Pd:VD} (h:qE8 ds st Pd):qEv (Ed Pd) (qU ["state", "word", "a", "at", "c"] ds) st:=by
  obtain⟨n,g,w,a,q,c,rfl,l,ok,a0,a8,q0,hw,hP⟩:=h
  k_dat 0"r54"
  obtain⟨j,rfl⟩:∃ j:Nat,q=(j:Nat):=⟨q.toNat,by lia⟩
  have hb8:=ok.b8
  have bk:=qEn ok (k:Nat)
  have eb:∀ s,LM s n g→Ev (qE qL (qE qL (qB 0) (qD (Dt.int 1))) (qB 2)) [some (.lst (n+3)),some (.str w),some (.int (k:Nat)),some (.int (j:Nat)),some (.int c)] s (.int (bx g (k:Nat))):=fun s l=>by
    rw [qGm]
    exact qBz (i:=k) (l.ev (qC (i:=0) rfl) (j:=1) rfl) l.sb (qC (i:=2) rfl) (by lia)
  refine seq1 (ifS (evb (qAE (a:=w) (qC (i:=1) rfl))) (fun hb=>?_) fun hb=>?_)
  · have e:w = "right":=eq_of_beq hb
    have ef:qDL g w (k:Nat) (j:Nat) c=if bx g (k:Nat)<g.rs.length then some { g with rs:=g.rs.set (bx g (k:Nat)).toNat (c%8) } else none:=if_pos e
    rw [ef] at hP
    refine qy (evb (qKu (eb st l) (qC9 (l.ev (qC (i:=0) rfl) (j:=4) rfl) l.sq))) (fun hc=>?_) fun hc=>?_
    · have hc:=of_decide_eq_true hc
      rw [if_neg (by lia)] at hP
      exact rdR qF (hP st .refl l)
    · have hc:=of_decide_eq_false hc
      rw [if_pos (by lia)] at hP
      refine qSt (i:=(bx g (k:Nat)).toNat) (xs:=g.rs) (v:=c%8) (qY (qC (i:=4) rfl) qF (by decide)) (l.ev (qC (i:=0) rfl) (j:=4) rfl) (by rw [show (((bx g (k:Nat)).toNat:Nat):Int)=bx g (k:Nat) by lia];exact eb st l) l.q (by lia) ?_
      exact hP _ (qCj (by lia)) (l.qTC _)
  · have e:w ≠ "right":=fun q=>by rw [q] at hb;cases hb
    have hw2:w = "get" ∨ w = "set":=hw.resolve_left e
    have em:EvX (qE qC7 (qCg [(Sum.inr (Str.ofString "get"),(qD (Dt.int 1))),(Sum.inr (Str.ofString "set"),(qD (Dt.int 2)))]) (qB 1)) [some (.lst (n+3)),some (.str w),some (.int (k:Nat)),some (.int (j:Nat)),some (.int c)] st (.int (if w = "get" then 1 else 2)):=by
      refine qJU (ds:=[.int 1,.int 2]) (k:=.inr w) (qBk (fun s=>qF) (qBk (fun s=>qF) qJR)) (fun s=>qC (i:=1) rfl) rfl ?_
      rcases hw2 with rfl | rfl<;>rfl
    have hr:qBR (qBG (qM (qI K76.qA3 (qA (qB 0) (qA (qB 3) (qA (qE qC7 (qCg [(Sum.inr (Str.ofString "get"),(qD (Dt.int 1))),(Sum.inr (Str.ofString "set"),(qD (Dt.int 2)))]) (qB 1)) qG)))))) [some (.lst (n+3)),some (.str w),some (.int (k:Nat)),some (.int (j:Nat)),some (.int c)] st (!(may (if w = "get" then 1 else 2) g (j:Nat))) :=
      qVl (xb (qQI (qC (i:=0) rfl) (qC (i:=3) rfl) em fun s1 x1 P hp=>⟨n,g,(j:Nat),if w = "get" then 1 else 2,rfl,l.ext x1,ok,by lia,by split<;>simp,hp⟩))
    refine seq1 (hr _ fun s1 x1=>?_)
    have l1:=l.ext x1
    by_cases hm:may (if w = "get" then 1 else 2) g (j:Nat)=true
    · refine qJf (by rw [hm];rfl) ?_
      have hj:(j:Int)<g.cs.length:=by
        unfold may at hm
        k_dat 0"r40"
        exact hm.1.2
      refine seq1 (ifS (evb (qAE (a:=w) (qC (i:=1) rfl))) (fun hg=>?_) fun hg=>?_)
      · have eg:w = "get":=eq_of_beq hg
        rw [if_pos eg] at hm
        have ef:qDL g w (k:Nat) (j:Nat) c=some { g with bs:=g.bs.set k (g.cs.getD j 0) }:=by
          unfold qDL
          rw [if_neg e,if_pos eg,if_pos hm,Int.toNat_natCast,Int.toNat_natCast]
        rw [ef] at hP
        refine qSt (i:=k) (xs:=g.bs) (v:=g.cs.getD j 0) (qBz (i:=j) (l1.ev (qC (i:=0) rfl) (j:=5) rfl) l1.sc (qC (i:=3) rfl) (by lia)) (l1.ev (qC (i:=0) rfl) (j:=1) rfl) (qC (i:=2) rfl) l1.b (by lia) ?_
        exact hP _ ((Km.ext x1).trans (qCj (by lia))) (l1.qOo _)
      · have eg:w ≠ "get":=fun q=>by rw [q] at hg;cases hg
        rw [if_neg eg] at hm
        have ef:qDL g w (k:Nat) (j:Nat) c=some { g with cs:=g.cs.set j (bx g (k:Nat)) }:=by
          unfold qDL
          rw [if_neg e,if_neg eg,if_pos hm,Int.toNat_natCast]
        rw [ef] at hP
        refine qSt (i:=j) (xs:=g.cs) (v:=bx g (k:Nat)) (eb s1 l1) (l1.ev (qC (i:=0) rfl) (j:=5) rfl) (qC (i:=3) rfl) l1.c (by lia) ?_
        exact hP _ ((Km.ext x1).trans (qCj (by lia))) (l1.cells _)
    · refine KH.qGl (by rw [Bool.not_eq_true] at hm;rw [hm];rfl) ?_
      have ef:qDL g w (k:Nat) (j:Nat) c=none:=by
        unfold qDL
        rw [if_neg e]
        split
        · rename_i eg;rw [if_pos eg] at hm;exact if_neg hm
        · rename_i eg;rw [if_neg eg] at hm;exact if_neg hm
      rw [ef] at hP
      exact hP s1 (.ext x1) l1
end K76
namespace K76
open PySem PySem.Spec PyProof.Rows L2 L3 KH KS K06 K17 KN
open KR (Ev EvB qC qF qAA seq1 q8 ifS qy evb qAQ qAK qz qAN qAy qAm qAE qAe ql qAd qA2 qh qT qH qe qAL rdR qV qAP qAC q9)
open K31 (EvX qBR qAl xb qAS qAY qBc qi qk)
open K40 (qW qBg qBt qBn qBa qBX qA6 qCG qAF)
abbrev qJz:TSD:=(tseq (qo (qM (qE (qCJ false) (qB 5) (qAf (qA (qD (Dt.str "jump")) (qA (qD (Dt.str "when")) (qA (qD (Dt.str "go")) qG)))))) (tseq (qR (qI K76.qIs (qA (qB 0) (qA (qB 5) (qA (qB 6) (qA (qB 7) qG))))) (qCX (qB 0) (qD (Dt.int 0)))) qJ) (tseq (qR (qE L3.qAT (qE qL (qB 0) (qD (Dt.int 0))) (qD (Dt.int 1))) (qCX (qB 0) (qD (Dt.int 0)))) qJ)) (tseq (qX (qD (Dt.str "on"))) qJ))
abbrev qHF:TSD:=(tseq (qo (qBG (qM (qI K76.qA3 (qA (qB 0) (qA (qE qL (qB 0) (qD (Dt.int 0))) (qA (qD (Dt.int 4)) qG)))))) (tseq (qX (qD (Dt.str "closed"))) qJ) qJ) (tseq (qR (qAc (qA (qD (Dt.str "halt")) (qA (qD (Dt.str "put")) (qA (qD (Dt.str "add")) (qA (qD (Dt.str "sub")) (qA (qD (Dt.str "mul")) (qA (qD (Dt.str "bad")) (qA (qD (Dt.str "div")) (qA (qD (Dt.str "get")) (qA (qD (Dt.str "set")) (qA (qD (Dt.str "jump")) (qA (qD (Dt.str "when")) (qA (qD (Dt.str "go")) (qA (qD (Dt.str "tell")) (qA (qD (Dt.str "hear")) qG))))))))))))))) (qP 3)) (tseq (qR (qE L3.qAT (qB 3) (qAc (qA (qD (Dt.str "right")) (qA (qD (Dt.str "back")) qG)))) (qP 3)) (tseq (qR (qE qL (qE qL (qB 0) (qD (Dt.int 5))) (qE qL (qB 0) (qD (Dt.int 0)))) (qP 4)) (tseq (qR (qE qL (qB 3) (qE qAk (qB 4) (qD (Dt.int 4096)))) (qP 5)) (tseq (qR (qE qAB (qE qAk (qB 4) (qD (Dt.int 512))) (qD (Dt.int 8))) (qP 6)) (tseq (qR (qE qAB (qB 4) (qD (Dt.int 64))) (qP 7)) (tseq (qR (qE qL (qE qL (qB 0) (qD (Dt.int 1))) (qE qAB (qE qAk (qB 4) (qD (Dt.int 64))) (qD (Dt.int 8)))) (qP 8)) (tseq (qo (qBl (qM (qE (qZ false) (qB 5) (qD (Dt.str "halt")))) (qBl (qM (qE (qZ false) (qB 5) (qD (Dt.str "bad")))) (qAp (qM (qE (qZ false) (qB 5) (qD (Dt.str "back")))) (qM (qE (qBV false) (qE qL (qB 0) (qD (Dt.int 3))) (qD Dt.non)))))) (tseq (qX (qE qC7 (qCg [(Sum.inr (Str.ofString "halt"),(qD (Dt.str "halt"))),(Sum.inr (Str.ofString "bad"),(qD (Dt.str "bad"))),(Sum.inr (Str.ofString "back"),(qD (Dt.str "bad")))]) (qB 5))) qJ) qJ) (tseq (qo (qM (qE (qZ false) (qB 5) (qD (Dt.str "back")))) (tseq (qR (qE qL (qE qL (qB 0) (qD (Dt.int 3))) (qD (Dt.int 0))) (qCX (qB 0) (qD (Dt.int 0)))) (tseq (qR (qE qL (qE qL (qB 0) (qD (Dt.int 3))) (qD (Dt.int 1))) (qCX (qB 0) (qD (Dt.int 2)))) (tseq (qR (qD Dt.non) (qCX (qB 0) (qD (Dt.int 3)))) (tseq (qX (qD (Dt.str "on"))) qJ)))) qJ) (tseq (qo (qAp (qM (qE (qZ false) (qB 5) (qD (Dt.str "div")))) (qM (qE (qZ false) (qE qL (qE qL (qB 0) (qD (Dt.int 1))) (qE qAB (qB 7) (qD (Dt.int 8)))) (qD (Dt.int 0))))) (tseq (qX (qD (Dt.str "nought"))) qJ) qJ) (tseq (qo (qAp (qM (qE (qCJ false) (qB 5) (qAf (qA (qD (Dt.str "get")) (qA (qD (Dt.str "set")) (qA (qD (Dt.str "right")) qG)))))) (qM (qE (qZ false) (qI K76.qE8 (qA (qB 0) (qA (qB 5) (qA (qB 6) (qA (qE L3.qAT (qB 8) (qB 7)) (qA (qB 7) qG)))))) (qD (Dt.str "closed"))))) (tseq (qX (qD (Dt.str "closed"))) qJ) qJ) (tseq (qo (qM (qE (qCJ false) (qB 5) (qAf (qA (qD (Dt.str "add")) (qA (qD (Dt.str "sub")) (qA (qD (Dt.str "mul")) (qA (qD (Dt.str "div")) qG))))))) (tseq (qR (qI K76.qHN (qA (qB 5) (qA (qB 8) (qA (qE qL (qE qL (qB 0) (qD (Dt.int 1))) (qE qAB (qB 7) (qD (Dt.int 8)))) qG)))) (qAj 2 (qAq (qCX (qE qL (qB 0) (qD (Dt.int 1))) (qB 6)) (qAq (qCX (qB 0) (qD (Dt.int 2))) qB6)))) qJ) (tseq (qo (qM (qE (qCJ false) (qB 5) (qAf (qA (qD (Dt.str "put")) (qA (qD (Dt.str "hear")) qG))))) (tseq (qR (qE qC7 (qCg [(Sum.inr (Str.ofString "put"),(qB 7)),(Sum.inr (Str.ofString "hear"),(qB 1))]) (qB 5)) (qCX (qE qL (qB 0) (qD (Dt.int 1))) (qB 6))) qJ) (tseq (qo (qM (qE (qZ false) (qB 5) (qD (Dt.str "tell")))) (tseq (qAo (qAU (qB 2) (qE qL (qE qL (qB 0) (qD (Dt.int 1))) (qB 6)))) qJ) qJ) qJ)) qJ)) qJz)))))))))))))
abbrev qLW:TSD:=(tseq (qo (qM (qE (qCJ false) (qB 5) (qAf (qA (qD (Dt.str "add")) (qA (qD (Dt.str "sub")) (qA (qD (Dt.str "mul")) (qA (qD (Dt.str "div")) qG))))))) (tseq (qR (qI K76.qHN (qA (qB 5) (qA (qB 8) (qA (qE qL (qE qL (qB 0) (qD (Dt.int 1))) (qE qAB (qB 7) (qD (Dt.int 8)))) qG)))) (qAj 2 (qAq (qCX (qE qL (qB 0) (qD (Dt.int 1))) (qB 6)) (qAq (qCX (qB 0) (qD (Dt.int 2))) qB6)))) qJ) (tseq (qo (qM (qE (qCJ false) (qB 5) (qAf (qA (qD (Dt.str "put")) (qA (qD (Dt.str "hear")) qG))))) (tseq (qR (qE qC7 (qCg [(Sum.inr (Str.ofString "put"),(qB 7)),(Sum.inr (Str.ofString "hear"),(qB 1))]) (qB 5)) (qCX (qE qL (qB 0) (qD (Dt.int 1))) (qB 6))) qJ) (tseq (qo (qM (qE (qZ false) (qB 5) (qD (Dt.str "tell")))) (tseq (qAo (qAU (qB 2) (qE qL (qE qL (qB 0) (qD (Dt.int 1))) (qB 6)))) qJ) qJ) qJ)) qJ)) qJz)
abbrev qQC:TSD:=(tseq (qo (qAp (qM (qE (qCJ false) (qB 5) (qAf (qA (qD (Dt.str "get")) (qA (qD (Dt.str "set")) (qA (qD (Dt.str "right")) qG)))))) (qM (qE (qZ false) (qI K76.qE8 (qA (qB 0) (qA (qB 5) (qA (qB 6) (qA (qE L3.qAT (qB 8) (qB 7)) (qA (qB 7) qG)))))) (qD (Dt.str "closed"))))) (tseq (qX (qD (Dt.str "closed"))) qJ) qJ) qLW)
abbrev qRs:TSD:=(tseq (qo (qAp (qM (qE (qZ false) (qB 5) (qD (Dt.str "div")))) (qM (qE (qZ false) (qE qL (qE qL (qB 0) (qD (Dt.int 1))) (qE qAB (qB 7) (qD (Dt.int 8)))) (qD (Dt.int 0))))) (tseq (qX (qD (Dt.str "nought"))) qJ) qJ) qQC)
abbrev lr9:TSD:=(tseq (qo (qM (qE (qZ false) (qB 5) (qD (Dt.str "back")))) (tseq (qR (qE qL (qE qL (qB 0) (qD (Dt.int 3))) (qD (Dt.int 0))) (qCX (qB 0) (qD (Dt.int 0)))) (tseq (qR (qE qL (qE qL (qB 0) (qD (Dt.int 3))) (qD (Dt.int 1))) (qCX (qB 0) (qD (Dt.int 2)))) (tseq (qR (qD Dt.non) (qCX (qB 0) (qD (Dt.int 3)))) (tseq (qX (qD (Dt.str "on"))) qJ)))) qJ) qRs)
abbrev lr8:TSD:=(tseq (qo (qBl (qM (qE (qZ false) (qB 5) (qD (Dt.str "halt")))) (qBl (qM (qE (qZ false) (qB 5) (qD (Dt.str "bad")))) (qAp (qM (qE (qZ false) (qB 5) (qD (Dt.str "back")))) (qM (qE (qBV false) (qE qL (qB 0) (qD (Dt.int 3))) (qD Dt.non)))))) (tseq (qX (qE qC7 (qCg [(Sum.inr (Str.ofString "halt"),(qD (Dt.str "halt"))),(Sum.inr (Str.ofString "bad"),(qD (Dt.str "bad"))),(Sum.inr (Str.ofString "back"),(qD (Dt.str "bad")))]) (qB 5))) qJ) qJ) lr9)
def lr1:TSD:=(tseq (qR (qAc (qA (qD (Dt.str "halt")) (qA (qD (Dt.str "put")) (qA (qD (Dt.str "add")) (qA (qD (Dt.str "sub")) (qA (qD (Dt.str "mul")) (qA (qD (Dt.str "bad")) (qA (qD (Dt.str "div")) (qA (qD (Dt.str "get")) (qA (qD (Dt.str "set")) (qA (qD (Dt.str "jump")) (qA (qD (Dt.str "when")) (qA (qD (Dt.str "go")) (qA (qD (Dt.str "tell")) (qA (qD (Dt.str "hear")) qG))))))))))))))) (qP 3)) (tseq (qR (qE L3.qAT (qB 3) (qAc (qA (qD (Dt.str "right")) (qA (qD (Dt.str "back")) qG)))) (qP 3)) (tseq (qR (qE qL (qE qL (qB 0) (qD (Dt.int 5))) (qE qL (qB 0) (qD (Dt.int 0)))) (qP 4)) (tseq (qR (qE qL (qB 3) (qE qAk (qB 4) (qD (Dt.int 4096)))) (qP 5)) (tseq (qR (qE qAB (qE qAk (qB 4) (qD (Dt.int 512))) (qD (Dt.int 8))) (qP 6)) (tseq (qR (qE qAB (qB 4) (qD (Dt.int 64))) (qP 7)) (tseq (qR (qE qL (qE qL (qB 0) (qD (Dt.int 1))) (qE qAB (qE qAk (qB 4) (qD (Dt.int 64))) (qD (Dt.int 8)))) (qP 8)) lr8)))))))
theorem qKR {E:qA0} {N:TSD} {ρ:Rho} {st:Sto} {te ta tb:TD} {m i:Nat} {xs:List Dt} {d:Dt} (he:EvX te ρ st d) (ha:∀ s,qx st s→Ev ta ρ s (.lst m)) (hb:∀ s,qx st s→Ev tb ρ s (.int (i:Nat))) (hs:st[m]? = some (.rw xs)) (hi:i<xs.length) (q:∀ s,qx st s→N E ρ (s.set m (.rw (xs.set i d)))):tseq (qR te (qCX ta tb)) N E ρ st:=he _ fun s x=>ha s x _ (hb s x _ (by
  show (match s[m]? with | some (.rw xs)=>_ | _=>_)
  rw [x _ _ hs]
  show (match ixN xs.length ((i:Nat):Int) with | some j=>_ | none=>_)
  have e:ixN xs.length ((i:Nat):Int)=some i:=by
    unfold L2.ixN
    rw [if_pos (by lia),if_pos (by lia),Int.toNat_natCast]
  rw [e];exact q s x))
theorem qRe {ρ:Rho} {st:Sto} {ta tb:TD} {m i:Nat} {xs:List Dt} {d:Dt} {P:Rho→Sto→Prop} (ha:Ev ta ρ st (.lst m)) (hb:Ev tb ρ st (.int (i:Nat))) (hs:st[m]? = some (.rw xs)) (hi:i<xs.length) (q:P ρ (st.set m (.rw (xs.set i d)))):qCX ta tb d ρ st P:=ha _ (hb _ (by
  show (match st[m]? with | some (.rw xs)=>_ | _=>_)
  rw [hs]
  show (match ixN xs.length ((i:Nat):Int) with | some j=>_ | none=>_)
  have e:ixN xs.length ((i:Nat):Int)=some i:=by
    unfold L2.ixN
    rw [if_pos (by lia),if_pos (by lia),Int.toNat_natCast]
  rw [e];exact q))
theorem gs2 {g1 g2:TGD} {x y:Dt} {ρ:Rho} {st:Sto} {P:Rho→Sto→Prop} (h:g1 x ρ st fun ρ1 st1=>g2 y ρ1 st1 P):qAq g1 (qAq g2 qB6) [x,y] ρ st P:=h
noncomputable abbrev RL (n:Nat) (h:Int) (T:Nat) (W:Dt) (num:Int) (w:Str) (a:Nat) (c x:Int):Rho:=[some (.lst (n+3)),some (.int h),some (.lst T),some W,some (.int num),some (.str w),some (.int (a:Nat)),some (.int c),some (.int x)]
section
variable {st:Sto} {Pd:VD} {n T:Nat} {h num c x:Int} {W:Dt} {w:Str} {a:Nat} {g:GS}
theorem qB5 (l:LM st n g) (hw:(["jump", "when", "go"]:List Str).contains w=false) (hP:∀ st',Km n st st'→LM st' n { g with p:=g.p+1 }→Pd (.str "on") st'):qJz (Ed Pd) (RL n h T W num w a c x) st:=by
  refine seq1 (ifS (b:=(["jump", "when", "go"]:List Str).contains w != false) (evb (qA2 (qC (i:=5) rfl) (qe (fun _ h=>h) (by show 3≤sizeLine;decide)))) (fun hb=>by rw [hw] at hb;cases hb) fun _=>?_)
  refine qKR (i:=0) (qAl (qV (l.ev (qC (i:=0) rfl) (j:=0) rfl) qF)) (fun s x=>qC (i:=0) rfl) (fun s x=>qF) l.m (by show 0<6;decide) fun s x=>?_
  exact hP _ ((Km.ext x).trans (qCj (by lia))) ((l.ext x).own _ _ _)
theorem qGv (l:LM st n g) (ok:g.Ok) (ha:a<8) (hw:w = "go" ∨ w = "jump" ∨ w = "when") (hP:∀ st',Km n st st'→LM st' n { g with p:=if w = "go" then bx g (a:Nat) else if w = "jump" ∨ qCn (a:Nat) g.m=true then (g.p+c - 31)%65536 else g.p+1 }→Pd (.str "on") st'):qJz (Ed Pd) (RL n h T W num w a c x) st:=by
  have hc:(["jump", "when", "go"]:List Str).contains w=true:=by rcases hw with rfl | rfl | rfl<;>decide +kernel
  refine seq1 (ifS (b:=(["jump", "when", "go"]:List Str).contains w != false) (evb (qA2 (qC (i:=5) rfl) (qe (fun _ h=>h) (by show 3≤sizeLine;decide)))) (fun _=>?_) fun hb=>by rw [hc] at hb;cases hb)
  refine qKR (i:=0) (fun P hp=>qAY (qH (qC (i:=0) rfl) (qH (qC (i:=5) rfl) (qH (qC (i:=6) rfl) (qH (qC (i:=7) rfl) qT)))) ⟨n,g,w,(a:Nat),c,rfl,l,ok,by lia,by lia,hw,hp⟩) (fun s x=>qC (i:=0) rfl) (fun s x=>qF) l.m (by show 0<6;decide) fun s x=>?_
  exact hP _ ((Km.ext x).trans (qCj (by lia))) ((l.ext x).own _ _ _)
theorem inS {ρ:Rho} {st:Sto} {ta tb:TD} {w:Str} {ss:List Str} {b:Bool} (h:Ev ta ρ st (.str w)) (h2:Ev tb ρ st (.tup (ss.map .str))) (e:ss.contains w=b):EvB (qM (qE (qCJ false) ta tb)) ρ st b:=evb (by
  have:=qA2 (neg:=false) h h2
  rw [e,Bool.bne_false] at this
  exact this)
theorem qD0 (h1:(["add", "sub", "mul", "div"]:List Str).contains w=false) (h2:(["put", "hear"]:List Str).contains w=false) (h3:(w == "tell")=false) (q:qJz (Ed Pd) (RL n h T W num w a c x) st):qLW (Ed Pd) (RL n h T W num w a c x) st:=by
  k_dat 0"r55"
  k_dat 0"r77"
  have e:=qAE (te:=qB 5) (s:= "tell") (qC (ρ:=RL n h T W num w a c x) (st:=st) (i:=5) rfl)
  rw [h3] at e
  exact qy (evb e) (fun e=>nomatch e) fun _=>q
theorem qKf (l:LM st n g) (ok:g.Ok) (ha:a<8) (hw:w = "put" ∨ w = "hear") (q:∀ s,Km n st s→LM s n { g with bs:=g.bs.set a (if w = "put" then c else h) }→qJz (Ed Pd) (RL n h T W num w a c x) s):qLW (Ed Pd) (RL n h T W num w a c x) st:=by
  have h1:(["add", "sub", "mul", "div"]:List Str).contains w=false:=by rcases hw with rfl | rfl<;>decide +kernel
  have h2:(["put", "hear"]:List Str).contains w=true:=by rcases hw with rfl | rfl<;>decide +kernel
  have hb:=ok.b8
  k_dat 0"r55"
  refine seq1 (ifS (inS (ss:=["put", "hear"]) (qC (i:=5) rfl) (qe (fun _ h=>h) (by show 2≤sizeLine;decide)) h2) (fun _=>?_) fun e=>nomatch e)
  have ev:EvX (qE qC7 (qCg [(Sum.inr (Str.ofString "put"),(qB 7)),(Sum.inr (Str.ofString "hear"),(qB 1))]) (qB 5)) (RL n h T W num w a c x) st (.int (if w = "put" then c else h)):=by
    refine qJU (ds:=[.int c,.int h]) (k:=.inr w) (qBk (fun s=>qC (i:=7) rfl) (qBk (fun s=>qC (i:=1) rfl) qJR)) (fun s=>qC (i:=5) rfl) rfl ?_
    rcases hw with rfl | rfl<;>rfl
  refine qKR (i:=a) ev (fun s x=>(l.ext x).ev (qC (i:=0) rfl) (j:=1) rfl) (fun s x=>qC (i:=6) rfl) l.b (by rw [List.length_map];lia) fun s x=>?_
  rw [← List.map_set]
  exact q _ ((Km.ext x).trans (qCj (by lia))) ((l.ext x).qOo _)
theorem qNB {told:List Int} (l:LM st n g) (ok:g.Ok) (ha:a<8) (hw:w = "tell") (hT:st[T]? = some (.rw (told.map .int))) (hl:told.length≤5000) (q:qJz (Ed Pd) (RL n h T W num w a c x) (st.set T (.rw ((told++[bx g (a:Nat)]).map .int)))):qLW (Ed Pd) (RL n h T W num w a c x) st:=by
  have h1:(["add", "sub", "mul", "div"]:List Str).contains w=false:=by rw [hw];decide +kernel
  have h2:(["put", "hear"]:List Str).contains w=false:=by rw [hw];decide +kernel
  have hb:=ok.b8
  k_dat 0"r55"
  k_dat 0"r77"
  refine qy (b:=true) (evb (by have:=qAE (te:=qB 5) (s:= "tell") (qC (ρ:=RL n h T W num w a c x) (st:=st) (i:=5) rfl);rw [hw,beq_self_eq_true] at this;rw [hw];exact this)) (fun _=>?_) fun e=>nomatch e
  refine qBt (qC (i:=2) rfl) (d:=.int (bx g (a:Nat))) (by rw [qGm];exact qBz (i:=a) (l.ev (qC (i:=0) rfl) (j:=1) rfl) l.sb (qC (i:=6) rfl) (by lia)) hT (by rw [List.length_map];exact K40.line (by lia)) ?_
  have e:told.map Dt.int++[.int (bx g (a:Nat))]=(told++[bx g (a:Nat)]).map .int:=by rw [List.map_append];rfl
  rw [e];exact q
theorem qDx (l:LM st n g) (ok:g.Ok) (ha:a<8) (hc:0≤c) (hx:0≤x∧x<65536) (hw:w = "add" ∨ w = "sub" ∨ w = "mul" ∨ w = "div") (q:∀ s,Km n st s→LM s n { g with bs:=g.bs.set a (qCz w x (bx g (c%8))%65536),m:=(decide (qCz w x (bx g (c%8))%65536=0),decide (32768≤qCz w x (bx g (c%8))%65536),qKS w x (bx g (c%8))) }→qJz (Ed Pd) (RL n h T W num w a c x) s):qLW (Ed Pd) (RL n h T W num w a c x) st:=by
  have h1:(["add", "sub", "mul", "div"]:List Str).contains w=true:=by rcases hw with rfl | rfl | rfl | rfl<;>decide +kernel
  have hb:=ok.b8
  have hy:=qEn ok (c%8)
  obtain⟨k,hk,hk8⟩:=qk (v:=c) (n:=8) (by decide)
  refine seq1 (ifS (inS (ss:=["add", "sub", "mul", "div"]) (qC (i:=5) rfl) (qe (fun _ h=>h) (by show 4≤sizeLine;decide)) h1) (fun _=>?_) fun e=>nomatch e)
  have ey:Ev (qE qL (qE qL (qB 0) (qD (Dt.int 1))) (qE qAB (qB 7) (qD (Dt.int 8)))) (RL n h T W num w a c x) st (.int (bx g (c%8))):=by
    have hk:c%8=((k:Nat):Int):=hk
    rw [hk,qGm]
    refine qBz (i:=k) (l.ev (qC (i:=0) rfl) (j:=1) rfl) l.sb ?_ (by lia)
    rw [← hk]
    exact qY (qC (i:=7) rfl) qF (by decide)
  refine qAY (qH (qC (i:=5) rfl) (qH (qC (i:=8) rfl) (qH ey qT))) ⟨w,x,bx g (c%8),rfl,hw,hx.1,hx.2,hy.1,hy.2,fun m s x1 hm=>?_⟩
  have es:qd s (.lst m)=some [.int (qCz w x (bx g (c%8))%65536),msD (decide (qCz w x (bx g (c%8))%65536=0),decide (32768≤qCz w x (bx g (c%8))%65536),qKS w x (bx g (c%8)))]:=by
    show (s[m]?).map SO.items=_
    rw [hm];rfl
  show (match qd s (.lst m) with | some xs=>_ | none=>_)
  rw [es]
  refine⟨rfl,?_⟩
  have l1:=l.ext x1
  refine gs2 (qRe (i:=a) (l1.ev (qC (i:=0) rfl) (j:=1) rfl) (qC (i:=6) rfl) l1.b (by rw [List.length_map];lia) ?_)
  rw [← List.map_set]
  have l2:=l1.qOo (g.bs.set a (qCz w x (bx g (c%8))%65536))
  refine qRe (i:=2) (qC (i:=0) rfl) qF l2.m (by show 2<6;decide) ?_
  exact q _ (((Km.ext x1).trans (qCj (by lia))).trans (qCj (by lia))) (l2.own _ _ _)
end
end K76
namespace K76
open PySem PySem.Spec PyProof.Rows L2 L3 KH KS K06 K17 KN
open KR (Ev EvB qC qF qAA seq1 q8 ifS qy evb qAQ qAK qz qAN qAy qAm qAE qAe ql qAd qA2 qh qT qH qe qAL rdR qV qAP qAC q9)
open K31 (EvX qBR qAl xb qAS qAY qBc qi qk)
open K40 (qW qBg qBt qBn qBa qBX qA6 qCG qAF)
section
variable {st:Sto} {Pd:VD} {n T:Nat} {h num c x:Int} {W:Dt} {w:Str} {a:Nat} {g:GS}
theorem evS {z:Str} {b:Bool} (e:(w==z)=b):EvB (qM (qE (qZ false) (qB 5) (qD (Dt.str z)))) (RL n h T W num w a c x) st b:=evb (by
  have:=qAE (te:=qB 5) (s:=z) (qC (ρ:=RL n h T W num w a c x) (st:=st) (i:=5) rfl)
  rw [e] at this
  exact this)
theorem qUW {E:qA0} {ρ:Rho} {st:Sto} {c1 c2:TBD} {A C:TSD} (h1:EvB c1 ρ st true) (q:c2 ρ st fun k s=>if k=true then A E ρ s else C E ρ s):qo (qAp c1 c2) A C E ρ st:=h1 _ (qCD q)
theorem qB3 (h1:(["get", "set", "right"]:List Str).contains w=false) (q:qLW (Ed Pd) (RL n h T W num w a c x) st):qQC (Ed Pd) (RL n h T W num w a c x) st :=
  qy (b:=false&&true) (qz (inS (ss:=["get", "set", "right"]) (qC (i:=5) rfl) (qe (fun _ h=>h) (by show 3≤sizeLine;decide)) h1) fun e=>nomatch e) (fun e=>nomatch e) fun _=>q
theorem qEU (l:LM st n g) (ok:g.Ok) (ha:a<8) (hx:0≤x+c) (hw:w = "right" ∨ w = "get" ∨ w = "set") (hN:qDL g w (a:Nat) (x+c) c=none→∀ s,Km n st s→LM s n g→Pd (.str "closed") s) (hS:∀ g',qDL g w (a:Nat) (x+c) c=some g'→∀ s,Km n st s→LM s n g'→qLW (Ed Pd) (RL n h T W num w a c x) s):qQC (Ed Pd) (RL n h T W num w a c x) st:=by
  have h1:(["get", "set", "right"]:List Str).contains w=true:=by rcases hw with rfl | rfl | rfl<;>decide +kernel
  refine seq1 (qUW (inS (ss:=["get", "set", "right"]) (qC (i:=5) rfl) (qe (fun _ h=>h) (by show 3≤sizeLine;decide)) h1) ?_)
  refine qAY (qH (qC (i:=0) rfl) (qH (qC (i:=5) rfl) (qH (qC (i:=6) rfl) (qH (qV (qC (i:=8) rfl) (qC (i:=7) rfl)) (qH (qC (i:=7) rfl) qT))))) ⟨n,g,w,(a:Nat),x+c,c,rfl,l,ok,by lia,by lia,hx,hw,fun s k1 l1=>?_⟩
  cases e:qDL g w (a:Nat) (x+c) c with
  | none =>
    rw [e] at l1
    exact⟨rfl,rfl,KH.qGl (by decide +kernel) (hN e s k1 l1)⟩
  | some g' =>
    rw [e] at l1
    exact⟨rfl,rfl,qJf (show ((("on" : Str) == "closed") != false)=false by decide +kernel) (hS g' e s k1 l1)⟩
theorem qUs (l:LM st n g) (ok:g.Ok):Ev (qE qL (qE qL (qB 0) (qD (Dt.int 1))) (qE qAB (qB 7) (qD (Dt.int 8)))) (RL n h T W num w a c x) st (.int (bx g (c%8))):=by
  obtain⟨k,hk,hk8⟩:=qk (v:=c) (n:=8) (by decide)
  have hk:c%8=((k:Nat):Int):=hk
  have hb:=ok.b8
  rw [hk,qGm]
  refine qBz (i:=k) (l.ev (qC (i:=0) rfl) (j:=1) rfl) l.sb ?_ (by lia)
  rw [← hk]
  exact qY (qC (i:=7) rfl) qF (by decide)
theorem qBP (l:LM st n g) (ok:g.Ok) (h1:w = "div" → bx g (c%8)=0→Pd (.str "nought") st) (h2:¬ (w = "div" ∧ bx g (c%8)=0)→qQC (Ed Pd) (RL n h T W num w a c x) st):qRs (Ed Pd) (RL n h T W num w a c x) st:=by
  refine qy (qz (evS rfl) fun _=>evb (ql (qUs l ok) qF)) (fun hb=>?_) fun hb=>?_
  · obtain⟨q1,q2⟩:=Bool.and_eq_true_iff.mp hb
    exact h1 (eq_of_beq q1) (of_decide_eq_true q2)
  · refine h2 fun ⟨q1,q2⟩=>?_
    rw [q2] at hb
    subst q1
    cases hb
theorem qBy (h1:(w == "back")=false) (q:qRs (Ed Pd) (RL n h T W num w a c x) st):lr9 (Ed Pd) (RL n h T W num w a c x) st:=qy (evS h1) (fun e=>nomatch e) fun _=>q
theorem qOI {q:Int} {m:M3} (l:LM st n g) (h1:(w == "back")=true) (hs:g.sv=some (q,m)) (hP:∀ s,Km n st s→LM s n { g with p:=q,m:=m,sv:=none }→Pd (.str "on") s):lr9 (Ed Pd) (RL n h T W num w a c x) st:=by
  refine qy (evS h1) (fun _=>?_) fun e=>nomatch e
  have e3:∀ s (g':GS),LM s n g'→g'.sv=some (q,m)→Ev (qE qL (qB 0) (qD (Dt.int 3))) (RL n h T W num w a c x) s (.tup [.int q,msD m]):=fun s g' l' hs=>by
    have:=l'.ev (ρ:=RL n h T W num w a c x) (qC (i:=0) rfl) (j:=3) rfl
    rw [hs] at this
    exact this
  refine qKR (i:=0) (qAl (qAA (j:=0) (e3 st g l hs) rfl)) (fun s x=>qC (i:=0) rfl) (fun s x=>qF) l.m (by show 0<6;decide) fun s1 x1=>?_
  have l1:=(l.ext x1).own q g.m g.sv
  have k1:Km n st _:=(Km.ext x1).trans (qCj (k:=n+3) (o:=.rw [.int q,.lst n,msD g.m,svD g.sv,.lst (n+1),.lst (n+2)]) (by lia))
  generalize hs2:s1.set (n+3) (.rw [.int q,.lst n,msD g.m,svD g.sv,.lst (n+1),.lst (n+2)])=s2 at l1 k1
  show tseq _ _ _ _ (s1.set (n+3) (.rw [.int q,.lst n,msD g.m,svD g.sv,.lst (n+1),.lst (n+2)]))
  rw [hs2]
  refine qKR (i:=2) (qAl (qAA (j:=1) (e3 s2 _ l1 hs) rfl)) (fun s x=>qC (i:=0) rfl) (fun s x=>qF) l1.m (by show 2<6;decide) fun s3 x3=>?_
  have l3:=(l1.ext x3).own q m g.sv
  have k3:Km n st _:=(k1.trans (Km.ext x3)).trans (qCj (k:=n+3) (o:=.rw [.int q,.lst n,msD m,svD g.sv,.lst (n+1),.lst (n+2)]) (by lia))
  generalize hs4:s3.set (n+3) (.rw [.int q,.lst n,msD m,svD g.sv,.lst (n+1),.lst (n+2)])=s4 at l3 k3
  show tseq _ _ _ _ (s3.set (n+3) (.rw [.int q,.lst n,msD m,svD g.sv,.lst (n+1),.lst (n+2)]))
  rw [hs4]
  refine qKR (i:=3) (qAl qF) (fun s x=>qC (i:=0) rfl) (fun s x=>qF) l3.m (by show 3<6;decide) fun s5 x5=>?_
  exact hP _ ((k3.trans (Km.ext x5)).trans (qCj (by lia))) ((l3.ext x5).own q m none)
end
end K76
namespace K76
open PySem PySem.Spec PyProof.Rows L2 L3 KH KS K06 K17 KN
open KR (Ev EvB qC qF qAA seq1 q8 ifS qy evb qAQ qAK qz qAN qAy qAm qAE qAe ql qAd qA2 qh qT qH qe qAL rdR qV qAP qAC q9)
open K31 (EvX qBR qAl xb qAS qAY qBc qi qk)
open K40 (qW qBg qBt qBn qBa qBX qA6 qCG qAF)
section
variable {st:Sto} {Pd:VD} {n T:Nat} {h num c x:Int} {W:Dt} {w:Str} {a:Nat} {g:GS}
theorem qRj (l:LM st n g):EvB (qBl (qM (qE (qZ false) (qB 5) (qD (Dt.str "halt")))) (qBl (qM (qE (qZ false) (qB 5) (qD (Dt.str "bad")))) (qAp (qM (qE (qZ false) (qB 5) (qD (Dt.str "back")))) (qM (qE (qBV false) (qE qL (qB 0) (qD (Dt.int 3))) (qD Dt.non)))))) (RL n h T W num w a c x) st (w == "halt" || (w == "bad" || (w == "back" && g.sv.isNone))) :=
  qAK (evS rfl) fun _=>qAK (evS rfl) fun _=>qz (evS rfl) fun _=>evb (qRk (l.ev (qC (i:=0) rfl) (j:=3) rfl))
theorem qBj (l:LM st n g) (e:(w == "halt" || (w == "bad" || (w == "back" && g.sv.isNone)))=false) (q:lr9 (Ed Pd) (RL n h T W num w a c x) st):lr8 (Ed Pd) (RL n h T W num w a c x) st:=by
  have:=qRj (h:=h) (T:=T) (W:=W) (num:=num) (w:=w) (a:=a) (c:=c) (x:=x) l
  rw [e] at this
  exact qy this (fun e=>nomatch e) fun _=>q
theorem qI9 (l:LM st n g) (e:(w == "halt" || (w == "bad" || (w == "back" && g.sv.isNone)))=true) (hw:w = "halt" ∨ w = "bad" ∨ w = "back") (q:∀ s,qx st s→Pd (.str (if w = "halt" then "halt" else "bad")) s):lr8 (Ed Pd) (RL n h T W num w a c x) st:=by
  have:=qRj (h:=h) (T:=T) (W:=W) (num:=num) (w:=w) (a:=a) (c:=c) (x:=x) l
  rw [e] at this
  refine qy this (fun _=>?_) fun e=>nomatch e
  have ev:EvX (qE qC7 (qCg [(Sum.inr (Str.ofString "halt"),(qD (Dt.str "halt"))),(Sum.inr (Str.ofString "bad"),(qD (Dt.str "bad"))),(Sum.inr (Str.ofString "back"),(qD (Dt.str "bad")))]) (qB 5)) (RL n h T W num w a c x) st (.str (if w = "halt" then "halt" else "bad")):=by
    refine qJU (ds:=[.str "halt",.str "bad",.str "bad"]) (k:=.inr w) (qBk (fun s=>qF) (qBk (fun s=>qF) (qBk (fun s=>qF) qJR))) (fun s=>qC (i:=5) rfl) rfl ?_
    rcases hw with rfl | rfl | rfl<;>rfl
  exact ev _ q
end
def Kt (n T:Nat) (st st':Sto):Prop:=∀ (j:Nat) o,(j<n∨n+4≤j)→j≠T→st[j]? = some o→st'[j]? = some o
theorem Km.kt {n T:Nat} {st st':Sto} (h:Km n st st'):Kt n T st st':=fun j o hj _ e=>h j o hj e
def qIe:RDL:=fun ds st P=>∃ (n T:Nat) (g:GS) (h:Int) (told:List Int),ds=[.lst (n+3),.int h,.lst T]∧LM st n g∧Ok2 g∧0≤h∧h<65536∧(T<n∨n+4≤T)∧st[T]? = some (.rw (told.map .int))∧told.length≤5000 ∧
  ∀ st',Kt n T st st'→LM st' n (doR g h).2.1→st'[T]? = some (.rw ((told++(doR g h).2.2).map .int))→P (.str (doR g h).1) st'
theorem qLP {z:Int}:decide (z≠z%65536) = !(decide (0≤z)&&decide (z<65536)):=by
  have m0:=Int.emod_nonneg z (show (65536:Int)≠0 by decide)
  have m1:=Int.emod_lt_of_pos z (show (0:Int)<65536 by decide)
  by_cases h:0≤z∧z<65536
  · rw [decide_eq_true h.1,decide_eq_true h.2,decide_eq_false (by rw [Int.emod_eq_of_lt h.1 h.2];exact fun q=>q rfl)];rfl
  · rw [decide_eq_true (show z≠z%65536 from fun q=>h (by rw [q];exact⟨m0,m1⟩))]
    rw [← Bool.decide_and,decide_eq_false h];rfl
theorem qI4 {g:GS} {a:Nat} {v:Int} {k:Bool} (np:next g={ g with p:=g.p+1 }):qEg g (a:Nat) v k={ g with p:=g.p+1,bs:=g.bs.set a v,m:=(decide (v=0),decide (32768≤v),k) }:=by
  unfold qEg qDR
  rw [np,Int.toNat_natCast]
theorem qTa {st:Sto} {Pd:VD} {n T:Nat} {h num c:Int} {W:Dt} {k a:Nat} {b:Int} {g:GS} {told:List Int} (l:LM st n g) (o2:Ok2 g) (hp:g.p<g.cs.length) (hk:k<16) (ha:a<8) (c0:0≤c) (c1:c<64) (hT0:T<n∨n+4≤T) (hT:st[T]? = some (.rw (told.map .int))) (hl:told.length≤5000)
    (hP:∀ st',Kt n T st st'→LM st' n (doW g (k:Nat) (a:Nat) b c h).2.1→st'[T]? = some (.rw ((told++(doW g (k:Nat) (a:Nat) b c h).2.2).map .int))→Pd (.str (doW g (k:Nat) (a:Nat) b c h).1) st'):lr8 (Ed Pd) (RL n h T W num (K01.wordOf (k:Nat)) a c (bx g b)) st:=by
  have ok:=o2.ok
  have hcm:=ok.cm
  have hp0:=ok.p0
  have hx:=qEn ok b
  have np:next g={ g with p:=g.p+1 }:=by unfold next;rw [Int.emod_eq_of_lt (by lia) (by lia)]
  -- a word that tells nothing: what it comes to
  have plain:∀ (how:Str) (g':GS),doW g (k:Nat) (a:Nat) b c h=(how,g',[])→∀ s,Km n st s→LM s n g'→Pd (.str how) s:=fun how g' e s k1 l1=>by
    rw [e] at hP
    refine hP s k1.kt l1 ?_
    show s[T]? = some (.rw ((told++[]).map .int))
    rw [List.append_nil]
    exact k1 T _ hT0 hT
  rcases (by decide:∀ k:Nat,k<16→k=0∨k=1∨k=2∨k=3∨k=4∨k=5∨k=6∨k=7∨k=8∨k=9∨k=10∨k=11∨k=12∨k=13∨k=14∨k=15) k hk with rfl | rfl | rfl | rfl | rfl | rfl | rfl | rfl | rfl | rfl | rfl | rfl | rfl | rfl | rfl | rfl
  · -- halt
    exact qI9 (w:= "halt") l rfl (.inl rfl) fun s x=>plain "halt" g rfl s (.ext x) (l.ext x)
  · -- put
    refine qBj (w:= "put") l rfl (qBy rfl (qBP l ok (fun e=>absurd e (by decide +kernel)) fun _=>qB3 (by decide +kernel) (qKf l ok ha (.inl rfl) fun s k1 l1=>qB5 l1 (by decide +kernel) fun s2 k2 l2=>?_)))
    refine plain "on" (qDR g (a:Nat) c) rfl s2 (k1.trans k2) ?_
    unfold qDR
    rw [np,Int.toNat_natCast];exact l2
  · -- add
    refine qBj (w:= "add") l rfl (qBy rfl (qBP l ok (fun e=>absurd e (by decide +kernel)) fun _=>qB3 (by decide +kernel) (qDx l ok ha c0 hx (by simp) fun s k1 l1=>qB5 l1 (by decide +kernel) fun s2 k2 l2=>?_)))
    refine plain "on" (qEg g (a:Nat) (qBM 2 (bx g b) (bx g (c%8))%65536) (!(decide (0≤qBM 2 (bx g b) (bx g (c%8)))&&decide (qBM 2 (bx g b) (bx g (c%8))<65536)))) rfl s2 (k1.trans k2) ?_
    rw [qI4 np,← qLP];exact l2
  · -- sub
    refine qBj (w:= "sub") l rfl (qBy rfl (qBP l ok (fun e=>absurd e (by decide +kernel)) fun _=>qB3 (by decide +kernel) (qDx l ok ha c0 hx (by simp) fun s k1 l1=>qB5 l1 (by decide +kernel) fun s2 k2 l2=>?_)))
    refine plain "on" (qEg g (a:Nat) (qBM 3 (bx g b) (bx g (c%8))%65536) (!(decide (0≤qBM 3 (bx g b) (bx g (c%8)))&&decide (qBM 3 (bx g b) (bx g (c%8))<65536)))) rfl s2 (k1.trans k2) ?_
    rw [qI4 np,← qLP];exact l2
  · -- mul
    refine qBj (w:= "mul") l rfl (qBy rfl (qBP l ok (fun e=>absurd e (by decide +kernel)) fun _=>qB3 (by decide +kernel) (qDx l ok ha c0 hx (by simp) fun s k1 l1=>qB5 l1 (by decide +kernel) fun s2 k2 l2=>?_)))
    refine plain "on" (qEg g (a:Nat) (qBM 4 (bx g b) (bx g (c%8))%65536) (!(decide (0≤qBM 4 (bx g b) (bx g (c%8)))&&decide (qBM 4 (bx g b) (bx g (c%8))<65536)))) rfl s2 (k1.trans k2) ?_
    rw [qI4 np,← qLP];exact l2
  · -- bad
    exact qI9 (w:= "bad") l rfl (.inr (.inl rfl)) fun s x=>plain "bad" g rfl s (.ext x) (l.ext x)
  · -- div
    have hy:=qEn ok (c%8)
    refine qBj (w:= "div") l rfl (qBy rfl (qBP l ok (fun _ e=>?_) fun e=>?_))
    · exact plain "nought" g (by show qHh g (a:Nat) (bx g b) (bx g (c%8))=_;unfold qHh;rw [if_pos e];rfl) st .refl l
    · have e:bx g (c%8)≠0:=fun q=>e ⟨rfl,q⟩
      refine qB3 (by decide +kernel) (qDx l ok ha c0 hx (by simp) fun s k1 l1=>qB5 l1 (by decide +kernel) fun s2 k2 l2=>?_)
      refine plain "on" (qEg g (a:Nat) (bx g b / bx g (c%8)) (decide (bx g b%bx g (c%8)≠0))) (by show qHh g (a:Nat) (bx g b) (bx g (c%8))=_;unfold qHh;rw [if_neg e];rfl) s2 (k1.trans k2) ?_
      have em:max (bx g (c%8)) 1=bx g (c%8):=Int.max_eq_left (by lia)
      have e1:qCz "div" (bx g b) (bx g (c%8))=bx g b / bx g (c%8):=by
        show bx g b / max (bx g (c%8)) 1=_
        rw [em]
      have e2:bx g b / bx g (c%8)%65536=bx g b / bx g (c%8):=Int.emod_eq_of_lt (Int.ediv_nonneg hx.1 hy.1) (Int.lt_of_le_of_lt (Int.ediv_le_self _ hx.1) hx.2)
      have e3:qKS "div" (bx g b) (bx g (c%8))=decide (bx g b%bx g (c%8)≠0):=by
        show decide (0<bx g b%max (bx g (c%8)) 1)=_
        rw [em]
        have:=Int.emod_nonneg (bx g b) e
        exact decide_eq_decide.mpr ⟨fun h=>by lia,fun h=>by lia⟩
      rw [e1,e2,e3] at l2
      rw [qI4 np];exact l2
  · -- get
    refine qBj (w:= "get") l rfl (qBy rfl (qBP l ok (fun e=>absurd e (by decide +kernel)) fun _=>qEU l ok ha (by lia) (.inr (.inl rfl)) (fun e s k1 l1=>?_) fun g' e s k1 l1=>?_))
    · have e:(if may 1 g (bx g b+c)=true then some { g with bs:=g.bs.set ((a:Nat):Int).toNat (g.cs.getD (bx g b+c).toNat 0) } else none)=none:=e
      have hm:¬ may 1 g (bx g b+c)=true:=fun q=>by rw [if_pos q] at e;cases e
      exact plain "closed" g (by show qHg g (a:Nat) (bx g b+c)=_;unfold qHg;rw [if_neg hm];rfl) s k1 l1
    · have e:(if may 1 g (bx g b+c)=true then some { g with bs:=g.bs.set ((a:Nat):Int).toNat (g.cs.getD (bx g b+c).toNat 0) } else none)=some g':=e
      by_cases hm:may 1 g (bx g b+c)=true
      · rw [if_pos hm] at e
        cases e
        k_dat 0"r56"
        refine plain "on" (qDR g (a:Nat) (g.cs.getD (bx g b+c).toNat 0)) (by show qHg g (a:Nat) (bx g b+c)=_;unfold qHg;rw [if_pos hm];rfl) s2 (k1.trans k2) ?_
        unfold qDR
        rw [np];exact l2
      · rw [if_neg hm] at e;cases e
  · -- set
    refine qBj (w:= "set") l rfl (qBy rfl (qBP l ok (fun e=>absurd e (by decide +kernel)) fun _=>qEU l ok ha (by lia) (.inr (.inr rfl)) (fun e s k1 l1=>?_) fun g' e s k1 l1=>?_))
    · have e:(if may 2 g (bx g b+c)=true then some { g with cs:=g.cs.set (bx g b+c).toNat (bx g (a:Nat)) } else none)=none:=e
      have hm:¬ may 2 g (bx g b+c)=true:=fun q=>by rw [if_pos q] at e;cases e
      exact plain "closed" g (by show setG g (bx g (a:Nat)) (bx g b+c)=_;unfold setG;rw [if_neg hm];rfl) s k1 l1
    · have e:(if may 2 g (bx g b+c)=true then some { g with cs:=g.cs.set (bx g b+c).toNat (bx g (a:Nat)) } else none)=some g':=e
      by_cases hm:may 2 g (bx g b+c)=true
      · rw [if_pos hm] at e
        cases e
        k_dat 0"r56"
        refine plain "on" { next g with cs:=g.cs.set (bx g b+c).toNat (bx g (a:Nat)) } (by show setG g (bx g (a:Nat)) (bx g b+c)=_;unfold setG;rw [if_pos hm];rfl) s2 (k1.trans k2) ?_
        rw [np];exact l2
      · rw [if_neg hm] at e;cases e
  · -- jump
    refine qBj (w:= "jump") l rfl (qBy rfl (qBP l ok (fun e=>absurd e (by decide +kernel)) fun _=>qB3 (by decide +kernel) (qD0 (by decide +kernel) (by decide +kernel) (by decide +kernel) (qGv l ok ha (.inr (.inl rfl)) fun s k1 l1=>?_))))
    refine plain "on" (leap g c) rfl s k1 ?_
    unfold leap
    rw [show g.p+1+c - 32=g.p+c - 31 by lia];exact l1
  · -- when
    refine qBj (w:= "when") l rfl (qBy rfl (qBP l ok (fun e=>absurd e (by decide +kernel)) fun _=>qB3 (by decide +kernel) (qD0 (by decide +kernel) (by decide +kernel) (by decide +kernel) (qGv l ok ha (.inr (.inr rfl)) fun s k1 l1=>?_))))
    have l1:LM s n { g with p:=if ("when" : Str) = "jump" ∨ qCn (a:Nat) g.m=true then (g.p+c - 31)%65536 else g.p+1 }:=l1
    by_cases hm:qCn (a:Nat) g.m=true
    · rw [if_pos (.inr hm)] at l1
      refine plain "on" (leap g c) (by show (if qCn (a:Nat) g.m=true then onG (leap g c) else onG (next g))=_;rw [if_pos hm];rfl) s k1 ?_
      unfold leap
      rw [show g.p+1+c - 32=g.p+c - 31 by lia];exact l1
    · rw [if_neg (fun q=>q.elim (fun e=>absurd e (by decide +kernel)) hm)] at l1
      refine plain "on" (next g) (by show (if qCn (a:Nat) g.m=true then onG (leap g c) else onG (next g))=_;rw [if_neg hm];rfl) s k1 ?_
      rw [np];exact l1
  · -- go
    have hba:=qEn ok (a:Nat)
    refine qBj (w:= "go") l rfl (qBy rfl (qBP l ok (fun e=>absurd e (by decide +kernel)) fun _=>qB3 (by decide +kernel) (qD0 (by decide +kernel) (by decide +kernel) (by decide +kernel) (qGv l ok ha (.inl rfl) fun s k1 l1=>?_))))
    refine plain "on" { g with p:=bx g (a:Nat)%65536 } rfl s k1 ?_
    rw [Int.emod_eq_of_lt hba.1 hba.2];exact l1
  · -- tell
    refine qBj (w:= "tell") l rfl (qBy rfl (qBP l ok (fun e=>absurd e (by decide +kernel)) fun _=>qB3 (by decide +kernel) (qNB l ok ha rfl hT hl (qB5 (g:=g) ?_ (by decide +kernel) fun s2 k2 l2=>?_))))
    · exact⟨L3.qN l.b (by lia),L3.qN l.q (by lia),L3.qN l.c (by lia),L3.qN l.m (by lia)⟩
    · refine hP s2 (fun j o hj hjT e=>k2 j o hj (L3.qN e (Ne.symm hjT))) ?_ (k2 T _ hT0 (L3.qAV hT))
      show LM s2 n (next g)
      rw [np];exact l2
  · -- hear
    refine qBj (w:= "hear") l rfl (qBy rfl (qBP l ok (fun e=>absurd e (by decide +kernel)) fun _=>qB3 (by decide +kernel) (qKf l ok ha (.inr rfl) fun s k1 l1=>qB5 l1 (by decide +kernel) fun s2 k2 l2=>?_)))
    refine plain "on" (qDR g (a:Nat) h) rfl s2 (k1.trans k2) ?_
    unfold qDR
    rw [np,Int.toNat_natCast];exact l2
  · -- right
    have hba:=qEn ok (a:Nat)
    refine qBj (w:= "right") l rfl (qBy rfl (qBP l ok (fun e=>absurd e (by decide +kernel)) fun _=>qEU l ok ha (by lia) (.inl rfl) (fun e s k1 l1=>?_) fun g' e s k1 l1=>?_))
    · have e:(if bx g (a:Nat)<g.rs.length then some { g with rs:=g.rs.set (bx g (a:Nat)).toNat (c%8) } else none)=none:=e
      have hm:¬ bx g (a:Nat)<g.rs.length:=fun q=>by rw [if_pos q] at e;cases e
      exact plain "closed" g (by show qCy g (bx g (a:Nat)) (c%8)=_;unfold qCy;rw [if_neg fun q=>hm q.2];rfl) s k1 l1
    · have e:(if bx g (a:Nat)<g.rs.length then some { g with rs:=g.rs.set (bx g (a:Nat)).toNat (c%8) } else none)=some g':=e
      by_cases hm:bx g (a:Nat)<g.rs.length
      · rw [if_pos hm] at e
        cases e
        k_dat 0"r56"
        refine plain "on" { next g with rs:=g.rs.set (bx g (a:Nat)).toNat (c%8) } (by show qCy g (bx g (a:Nat)) (c%8)=_;unfold qCy;rw [if_pos ⟨hba.1,hm⟩];rfl) s2 (k1.trans k2) ?_
        rw [np];exact l2
      · rw [if_neg hm] at e;cases e
  · -- back
    cases hs:g.sv with
    | none=>exact qI9 (w:= "back") l (by rw [hs];rfl) (.inr (.inr rfl)) fun s x=>plain "bad" g (by show qD8 g=_;unfold qD8;rw [hs];rfl) s (.ext x) (l.ext x)
    | some qm =>
      obtain⟨q,m⟩:=qm
      exact qBj (w:= "back") l (by rw [hs];rfl) (qOI l rfl hs fun s k1 l1=>plain "on" { g with p:=q,m:=m,sv:=none } (by show qD8 g=_;unfold qD8;rw [hs];rfl) s k1 l1)
end K76
namespace K76
open PySem PySem.Spec PyProof.Rows L2 L3 KH KS K06 K17 KN
open KR (Ev EvB qC qF qAA seq1 q8 ifS qy evb qAQ qAK qz qAN qAy qAm qAE qAe ql qAd qA2 qh qT qH qe qAL rdR qV qAP qAC q9)
open K31 (EvX qBR qAl xb qAS qAY qBc qi qk)
open K40 (qW qBg qBt qBn qBa qBX qA6 qCG qAF)
noncomputable def w14:List Dt:=[.str "halt",.str "put",.str "add",.str "sub",.str "mul",.str "bad",.str "div",.str "get",.str "set",.str "jump",.str "when",.str "go",.str "tell",.str "hear"]
noncomputable def w2:List Dt:=[.str "right",.str "back"]
theorem qRu {k:Nat} (h:k<16):(w14++w2)[k]? = some (.str (K01.wordOf (k:Nat))):=by
  rcases (by decide:∀ k:Nat,k<16→k=0∨k=1∨k=2∨k=3∨k=4∨k=5∨k=6∨k=7∨k=8∨k=9∨k=10∨k=11∨k=12∨k=13∨k=14∨k=15) k h with rfl | rfl | rfl | rfl | rfl | rfl | rfl | rfl | rfl | rfl | rfl | rfl | rfl | rfl | rfl | rfl<;>rfl
theorem qOa {st:Sto} {m k:Nat} {xs ys:List Dt} {P:VD} (h1:st[m]? = some (.rw xs)) (h2:st[k]? = some (.rw ys)) (hl:xs.length+ys.length≤sizeLine) (q:P (.lst st.length) (st++[.rw (xs++ys)])):L3.qAT (.lst m) (.lst k) st P:=by
  show (match st[m]?,st[k]? with | some (.rw xs),some (.rw ys)=>_ | _,_=>_)
  rw [h1,h2];exact⟨hl,q⟩
theorem qKA {ds:List Dt} {st:Sto} {Pd:VD} (h:qIe ds st Pd):qHF (Ed Pd) (qU ["state", "heard", "told", "words", "number", "word", "a", "c", "x"] ds) st:=by
  obtain⟨n,T,g,h,told,rfl,l,o2,h0,h1,hT0,hT,hl,hP⟩:=h
  have ok:=o2.ok
  have hb8:=ok.b8
  have hp0:=ok.p0
  have er:Ev (qI K76.qA3 (qA (qB 0) (qA (qE qL (qB 0) (qD (Dt.int 0))) (qA (qD (Dt.int 4)) qG)))) [some (.lst (n+3)),some (.int h),some (.lst T),none,none,none,none,none,none] st (.bl (may 4 g g.p)) :=
    qh (qH (qC (i:=0) rfl) (qH (l.ev (qC (i:=0) rfl) (j:=0) rfl) (qH qF qT))) fun P q=>⟨n,g,g.p,4,rfl,l,ok,hp0,.inr (.inr rfl),q⟩
  refine qy (qAQ (evb er)) (fun hb=>?_) fun hb=>?_
  · have hm:¬ may 4 g g.p=true:=fun q=>by rw [q] at hb;cases hb
    have e:doR g h=qBv "closed" g:=if_neg hm
    rw [e] at hP
    exact rdR qF (hP st (fun j o _ _ e=>e) l (by show st[T]? = some (.rw ((told++[]).map .int));rw [List.append_nil];exact hT))
  · have hm:may 4 g g.p=true:=by simpa using hb
    have e:doR g h=doW g (g.cs.getD g.p.toNat 0 / 4096%16) (g.cs.getD g.p.toNat 0 / 512%8) (g.cs.getD g.p.toNat 0 / 64%8) (g.cs.getD g.p.toNat 0%64) h:=if_pos hm
    have hp:g.p<g.cs.length:=by
      unfold may at hm
      k_dat 0"r40"
      exact hm.1.2
    have hn:=qH8 ok g.p.toNat
    generalize hnum:g.cs.getD g.p.toNat 0=num at e hn
    obtain⟨k,hk,hk16⟩:∃ k:Nat,num / 4096=(k:Nat)∧k<16:=⟨(num / 4096).toNat,by lia,by lia⟩
    obtain⟨a,ha,ha8⟩:=qk (v:=num / 512) (n:=8) (by decide)
    obtain⟨b,hbb,hb8'⟩:=qk (v:=num / 64) (n:=8) (by decide)
    have ha:num / 512%8=((a:Nat):Int):=ha
    have hbb:num / 64%8=((b:Nat):Int):=hbb
    rw [e,show num / 4096%16=((k:Nat):Int) by lia,ha,hbb] at hP
    show lr1 (Ed Pd) _ st
    refine qMJ (qAM qF (qAM qF (qAM qF (qAM qF (qAM qF (qAM qF (qAM qF (qAM qF (qAM qF (qAM qF (qAM qF (qAM qF (qAM qF (qAM qF ?_))))))))))))))
    refine⟨by show 14≤sizeLine;decide,?_⟩
    show tseq _ _ (Ed Pd) _ (st++[SO.rw w14])
    refine q8 (qC (i:=3) rfl _ ⟨by show 2≤sizeLine;decide,?_⟩)
    refine qOa (xs:=w14) (ys:=w2) (by rw [List.getElem?_append_left (by simp),qj]) qj (by show 16≤sizeLine;decide) ?_
    show tseq _ _ (Ed Pd) [some (.lst (n+3)),some (.int h),some (.lst T),some (.lst (st++[SO.rw w14]++[SO.rw w2]).length),none,none,none,none,none] (st++[SO.rw w14]++[SO.rw w2]++[SO.rw (w14++w2)])
    have x2:qx st (st++[SO.rw w14]++[SO.rw w2]++[SO.rw (w14++w2)]):=((qx.app _ _).trans (.app _ _)).trans (.app _ _)
    have eW:(st++[SO.rw w14]++[SO.rw w2]++[SO.rw (w14++w2)])[(st++[SO.rw w14]++[SO.rw w2]).length]? = some (.rw (w14++w2)):=qj
    generalize (st++[SO.rw w14]++[SO.rw w2]).length=W at eW ⊢
    generalize st++[SO.rw w14]++[SO.rw w2]++[SO.rw (w14++w2)]=s2 at x2 eW ⊢
    have l2:=l.ext x2
    have en:Ev (qE qL (qE qL (qB 0) (qD (Dt.int 5))) (qE qL (qB 0) (qD (Dt.int 0)))) [some (.lst (n+3)),some (.int h),some (.lst T),some (.lst W),none,none,none,none,none] s2 (.int num):=by
      rw [← hnum]
      refine qBz (xs:=g.cs) (i:=g.p.toNat) (l2.ev (qC (i:=0) rfl) (j:=5) rfl) l2.sc ?_ (by lia)
      rw [show ((g.p.toNat:Nat):Int)=g.p by lia]
      exact l2.ev (qC (i:=0) rfl) (j:=0) rfl
    refine q8 (en _ ?_)
    have esW:qd s2 (.lst W)=some (w14++w2):=by show (s2[W]?).map SO.items=_;rw [eW];rfl
    refine q8 (qAC (i:=k) (qC (i:=3) rfl) esW (by rw [← hk];exact qi (qC (i:=4) rfl) qF (by decide) (by decide)) (qRu hk16) _ ?_)
    refine q8 (qY (qi (qC (i:=4) rfl) qF (by decide) (by decide)) qF (by decide) _ ?_)
    refine q8 (qY (qC (i:=4) rfl) qF (by decide) _ ?_)
    refine q8 (qBz (i:=b) (l2.ev (qC (i:=0) rfl) (j:=1) rfl) l2.sb (by rw [← hbb];exact qY (qi (qC (i:=4) rfl) qF (by decide) (by decide)) qF (by decide)) (by lia) _ ?_)
    show lr8 (Ed Pd) [some (.lst (n+3)),some (.int h),some (.lst T),some (.lst W),some (.int num),some (.str (K01.wordOf (k:Nat))),some (.int (num / 512%8)),some (.int (num%64)),some (.int (g.bs.getD b 0))] s2
    rw [ha,← qGm]
    exact qTa l2 o2 hp hk16 ha8 (Int.emod_nonneg _ (by decide)) (Int.emod_lt_of_pos _ (by decide)) hT0 (x2 _ _ hT) hl fun st' k1 l1 t1=>hP st' (fun j o hj hjT e=>k1 j o hj hjT (x2 _ _ e)) l1 t1
end K76
namespace K76
open PySem PySem.Spec PyProof.Rows L2 L3 KH KS K06 K17 KN
open KR (Ev EvB qC qF qAA seq1 q8 ifS qy evb qAQ qAK qz qAN qAy qAm qAE qAe ql qAd qA2 qh qT qH qe qAL rdR qV qAP qAC q9)
open K31 (EvX qBR qAl xb qAS qAY qBc qi qk qBm)
open K40 (qW qBg qBt qBn qBa qBX qA6 qCG qAF)
def qCU:RDL:=fun ds st P=>∃ (cell:Int) (many:Nat),ds=[.int cell,.int (many:Nat)]∧0<many∧∀ v st',0≤v→v<65536→qx st st'→P (.int v) st'
def qE5:RDL:=fun ds st P=>∃ cell:Int,ds=[.int cell]∧∀ (bells:List Int) n st',bells.length≤60→qx st st'→st'[n]? = some (.rw (bells.map .int))→P (.lst n) st'
abbrev mr4:TSD:=(tseq (qX (qE L3.qAT (qE L3.qAT (qE L3.qAT (qE qBu (qB 3) (qD (Dt.int 4096))) (qE qBu (qB 4) (qD (Dt.int 512)))) (qE qBu (qB 5) (qD (Dt.int 64)))) (qB 6))) qJ)
abbrev mr3:TSD:=(tseq (qo (qM (qE (qZ false) (qB 3) (qD (Dt.int 10)))) (tseq (qR (qE qAB (qI K76.qAW (qA (qB 0) (qA (qD (Dt.int 8)) qG))) (qD (Dt.int 8))) (qP 4)) qJ) qJ) mr4)
abbrev mr2:TSD:=(tseq (qo (qBl (qM (qE (qZ false) (qB 3) (qD (Dt.int 9)))) (qM (qE (qZ false) (qB 3) (qD (Dt.int 10))))) (tseq (qR (qE L3.qAT (qE L3.qC2 (qD (Dt.int 32)) (qE qAB (qI K76.qAW (qA (qB 0) (qA (qD (Dt.int 6)) qG))) (qD (Dt.int 12)))) (qE qAB (qI K76.qAW (qA (qB 0) (qA (qD (Dt.int 7)) qG))) (qD (Dt.int 5)))) (qP 6)) qJ) qJ) mr3)
abbrev mr1:TSD:=(tseq (qo (qBl (qM (qE (qZ false) (qB 3) (qD (Dt.int 8)))) (qM (qE (qZ false) (qB 3) (qD (Dt.int 7))))) (tseq (qR (qE qL (qAc (qA (qD (Dt.int 7)) (qA (qD (Dt.int 7)) (qA (qD (Dt.int 7)) (qA (qB 5) qG))))) (qE qAB (qI K76.qAW (qA (qB 0) (qA (qD (Dt.int 4)) qG))) (qD (Dt.int 4)))) (qP 5)) (tseq (qR (qE qAB (qE qAB (qI K76.qAW (qA (qB 0) (qA (qD (Dt.int 5)) qG))) (qB 1)) (qD (Dt.int 64))) (qP 6)) qJ)) qJ) mr2)
abbrev qDM:TSD:=(tseq (qo (qM (qE (qZ false) (qE qAB (qB 0) (qD (Dt.int 2))) (qD (Dt.int 0)))) (tseq (qX (qE qAB (qE qAk (qB 0) (qD (Dt.int 2))) (qD (Dt.int 65536)))) qJ) qJ) (tseq (qR (qE qAB (qI K76.qAW (qA (qB 0) (qA (qD (Dt.int 0)) qG))) (qD (Dt.int 20))) (qP 2)) (tseq (qR (qE qL (qAc (qA (qD (Dt.int 1)) (qA (qD (Dt.int 1)) (qA (qD (Dt.int 2)) (qA (qD (Dt.int 2)) (qA (qD (Dt.int 3)) (qA (qD (Dt.int 4)) (qA (qD (Dt.int 7)) (qA (qD (Dt.int 7)) (qA (qD (Dt.int 8)) (qA (qD (Dt.int 8)) (qA (qD (Dt.int 8)) (qA (qD (Dt.int 9)) (qA (qD (Dt.int 10)) (qA (qD (Dt.int 10)) (qA (qD (Dt.int 12)) (qA (qD (Dt.int 12)) (qA (qD (Dt.int 13)) (qA (qD (Dt.int 6)) (qA (qD (Dt.int 14)) (qA (qD (Dt.int 11)) qG))))))))))))))))))))) (qB 2)) (qP 3)) (tseq (qR (qE qAB (qI K76.qAW (qA (qB 0) (qA (qD (Dt.int 1)) qG))) (qD (Dt.int 7))) (qP 4)) (tseq (qR (qE qAB (qI K76.qAW (qA (qB 0) (qA (qD (Dt.int 2)) qG))) (qD (Dt.int 8))) (qP 5)) (tseq (qR (qE qAB (qI K76.qAW (qA (qB 0) (qA (qD (Dt.int 3)) qG))) (qD (Dt.int 64))) (qP 6)) mr1))))))
abbrev qEd:TSD:=(tseq (qR (qAc qG) (qP 1)) (tseq (qR (qE qAB (qB 0) (qD (Dt.int 5))) (qP 2)) (tseq (qR (qE qAk (qB 0) (qD (Dt.int 5))) (qP 0)) (tseq (qD2 (qBN (qE qL (qAc (qA (qD (Dt.int 0)) (qA (qD (Dt.int 3)) (qA (qD (Dt.int 12)) (qA (qD (Dt.int 60)) qG))))) (qE qAB (qB 0) (qD (Dt.int 4))))) (qP 3) (tseq (qAo (qAU (qB 1) (qB 2))) (tseq (qR (qE L3.qAT (qE L3.qAT (qB 2) (qD (Dt.int 1))) (qE qAB (qI K76.qAW (qA (qB 0) (qA (qB 3) qG))) (qD (Dt.int 9)))) (qP 2)) qJ))) (tseq (qX (qB 1)) qJ)))))
theorem qA1 {ρ:Rho} {st:Sto} {ta tb:TD} {x:Int} {k:Nat} (h:Ev ta ρ st (.int x)) (hk:Ev tb ρ st (.int (k:Nat))) (k1:k≤1000):Ev (qI K76.qAW (qA ta (qA tb qG))) ρ st (.int (turnF x k)):=qh (qH h (qH hk qT)) fun P hp=>⟨x,k,rfl,k1,hp⟩
section
variable {st:Sto} {Pd:VD} {cell w a b c kd:Int} {many:Nat}
theorem qNo (w0:0≤w) (w1:w≤15) (a0:0≤a) (a1:a<8) (b0:0≤b) (b1:b<8) (c0:0≤c) (c1:c<64) (hP:∀ v st',0≤v→v<65536→qx st st'→Pd (.int v) st'):mr4 (Ed Pd) [some (.int cell),some (.int (many:Nat)),some (.int kd),some (.int w),some (.int a),some (.int b),some (.int c)] st :=
  rdR (qV (qV (qV (qCM (qC (i:=3) rfl) qF (.inl ⟨by lia,by lia⟩)) (qCM (qC (i:=4) rfl) qF (.inl ⟨by lia,by lia⟩))) (qCM (qC (i:=5) rfl) qF (.inl ⟨by lia,by lia⟩))) (qC (i:=6) rfl)) (hP _ _ (by lia) (by lia) (.refl _))
theorem qOl (w0:0≤w) (w1:w≤15) (a0:0≤a) (a1:a<8) (b0:0≤b) (b1:b<8) (c0:0≤c) (c1:c<64) (hP:∀ v st',0≤v→v<65536→qx st st'→Pd (.int v) st'):mr3 (Ed Pd) [some (.int cell),some (.int (many:Nat)),some (.int kd),some (.int w),some (.int a),some (.int b),some (.int c)] st:=by
  refine qy (evb (ql (qC (i:=3) rfl) qF)) (fun _=>?_) fun _=>qNo w0 w1 a0 a1 b0 b1 c0 c1 hP
  refine q8 (qY (qA1 (k:=8) (qC (i:=0) rfl) qF (by decide)) qF (by decide) _ ?_)
  exact qNo w0 w1 (Int.emod_nonneg _ (by decide)) (Int.emod_lt_of_pos _ (by decide)) b0 b1 c0 c1 hP
theorem qNb (w0:0≤w) (w1:w≤15) (a0:0≤a) (a1:a<8) (b0:0≤b) (b1:b<8) (c0:0≤c) (c1:c<64) (hP:∀ v st',0≤v→v<65536→qx st st'→Pd (.int v) st'):mr2 (Ed Pd) [some (.int cell),some (.int (many:Nat)),some (.int kd),some (.int w),some (.int a),some (.int b),some (.int c)] st:=by
  refine qy (qAK (evb (ql (qC (i:=3) rfl) qF)) fun _=>evb (ql (qC (i:=3) rfl) qF)) (fun _=>?_) fun _=>qOl w0 w1 a0 a1 b0 b1 c0 c1 hP
  refine q8 (qV (qAP qF (qY (qA1 (k:=6) (qC (i:=0) rfl) qF (by decide)) qF (by decide))) (qY (qA1 (k:=7) (qC (i:=0) rfl) qF (by decide)) qF (by decide)) _ ?_)
  have h1:=Int.emod_nonneg (turnF cell (6:Nat)) (show (12:Int)≠0 by decide)
  have h2:=Int.emod_lt_of_pos (turnF cell (6:Nat)) (show (0:Int)<12 by decide)
  have h3:=Int.emod_nonneg (turnF cell (7:Nat)) (show (5:Int)≠0 by decide)
  have h4:=Int.emod_lt_of_pos (turnF cell (7:Nat)) (show (0:Int)<5 by decide)
  generalize turnF cell (6:Nat)%12=u at h1 h2 ⊢
  generalize turnF cell (7:Nat)%5=v at h3 h4 ⊢
  exact qOl w0 w1 a0 a1 b0 b1 (by lia) (by lia) hP
theorem qTX (hm:0<many) (w0:0≤w) (w1:w≤15) (a0:0≤a) (a1:a<8) (b0:0≤b) (b1:b<8) (c0:0≤c) (c1:c<64) (hP:∀ v st',0≤v→v<65536→qx st st'→Pd (.int v) st'):mr1 (Ed Pd) [some (.int cell),some (.int (many:Nat)),some (.int kd),some (.int w),some (.int a),some (.int b),some (.int c)] st:=by
  refine qy (qAK (evb (ql (qC (i:=3) rfl) qF)) fun _=>evb (ql (qC (i:=3) rfl) qF)) (fun _=>?_) fun _=>qNb w0 w1 a0 a1 b0 b1 c0 c1 hP
  obtain⟨k,hk,k4⟩:=qk (v:=turnF cell (4:Nat)) (n:=4) (by decide)
  have hk:turnF cell (4:Nat)%4=((k:Nat):Int):=hk
  obtain⟨y,ey,y0,y1⟩:∃ y,[Dt.int 7,.int 7,.int 7,.int b][k]? = some (.int y)∧0≤y∧y<8:=by
    rcases (by lia:k=0∨k=1∨k=2∨k=3) with rfl | rfl | rfl | rfl
    · exact⟨7,rfl,by decide,by decide⟩
    · exact⟨7,rfl,by decide,by decide⟩
    · exact⟨7,rfl,by decide,by decide⟩
    · exact⟨b,rfl,b0,b1⟩
  refine q8 (qBm (ds:=[.int 7,.int 7,.int 7,.int b]) (v:=(k:Nat)) (qH qF (qH qF (qH qF (qH (qC (i:=5) rfl) qT)))) (by show 4≤1000;decide) (fun s _=>by rw [← hk];exact qAl (qY (qA1 (k:=4) (qC (i:=0) rfl) qF (by decide)) qF (by decide))) (qBQ ey) _ fun s1 x1=>?_)
  refine q8 (qY (qY (qA1 (k:=5) (qC (i:=0) rfl) qF (by decide)) (qC (i:=1) rfl) (by lia)) qF (by decide) _ ?_)
  exact qNb w0 w1 a0 a1 y0 y1 (Int.emod_nonneg _ (by decide)) (Int.emod_lt_of_pos _ (by decide)) fun v st' v0 v1 x=>hP v st' v0 v1 (x1.trans x)
end
noncomputable def qLC:List Int:=[1,1,2,2,3,4,7,7,8,8,8,9,10,10,12,12,13,6,14,11]
theorem qU6:∀ k:Nat,k<20→(qLC.map Dt.int)[k]? = some (.int (qLC.getD k 0))∧0≤qLC.getD k 0∧qLC.getD k 0≤15:=fun k hk=>⟨by
  rw [List.getElem?_map,List.getD_eq_getElem?_getD,List.getElem?_eq_getElem (by exact hk)];rfl,(by decide:∀ k:Nat,k<20→0≤qLC.getD k 0∧qLC.getD k 0≤15) k hk⟩
theorem qFC {ds:List Dt} {st:Sto} {Pd:VD} (h:qCU ds st Pd):qDM (Ed Pd) (qU ["cell", "many", "kind", "word", "a", "b", "c"] ds) st:=by
  obtain⟨cell,many,rfl,hm,hP⟩:=h
  refine qy (evb (ql (qY (qC (i:=0) rfl) qF (by decide)) qF)) (fun _=>?_) fun _=>?_
  · exact rdR (qY (qi (qC (i:=0) rfl) qF (by decide) (by decide)) qF (by decide)) (hP _ _ (Int.emod_nonneg _ (by decide)) (Int.emod_lt_of_pos _ (by decide)) (.refl _))
  obtain⟨k,hk,k20⟩:=qk (v:=turnF cell (0:Nat)) (n:=20) (by decide)
  have hk:turnF cell (0:Nat)%20=((k:Nat):Int):=hk
  obtain⟨ew,w0,w1⟩:=qU6 k k20
  refine q8 (qY (qA1 (k:=0) (qC (i:=0) rfl) qF (by decide)) qF (by decide) _ ?_)
  rw [hk]
  refine q8 (qBm (ds:=qLC.map .int) (v:=(k:Nat)) (qH qF (qH qF (qH qF (qH qF (qH qF (qH qF (qH qF (qH qF (qH qF (qH qF (qH qF (qH qF (qH qF (qH qF (qH qF (qH qF (qH qF (qH qF (qH qF (qH qF qT)))))))))))))))))))) (by decide) (fun s _=>qAl (qC (i:=2) rfl)) (qBQ ew) _ fun s1 x1=>?_)
  refine q8 (qY (qA1 (k:=1) (qC (i:=0) rfl) qF (by decide)) qF (by decide) _ ?_)
  refine q8 (qY (qA1 (k:=2) (qC (i:=0) rfl) qF (by decide)) qF (by decide) _ ?_)
  refine q8 (qY (qA1 (k:=3) (qC (i:=0) rfl) qF (by decide)) qF (by decide) _ ?_)
  exact qTX hm w0 w1 (Int.emod_nonneg _ (by decide)) (Int.lt_trans (Int.emod_lt_of_pos _ (by decide)) (by decide)) (Int.emod_nonneg _ (by decide)) (Int.emod_lt_of_pos _ (by decide)) (Int.emod_nonneg _ (by decide)) (Int.emod_lt_of_pos _ (by decide)) fun v st' v0 v1 x=>hP v st' v0 v1 (x1.trans x)
end K76
namespace K76
open PySem PySem.Spec PyProof.Rows L2 L3 KH KS K06 K17 KN
open KR (Ev EvB qC qF qAA seq1 q8 ifS qy evb qAQ qAK qz qAN qAy qAm qAE qAe ql qAd qA2 qh qT qH qe qAL rdR qV qAP qAC q9)
open K31 (EvX qBR qAl xb qAS qAY qBc qi qk qBm qDQ)
open K40 (qW qBg qBt qBn qBa qBX qA6 qCG qAF)
theorem qUX {E:qA0} {N:TSD} {ρ:Rho} {st:Sto} {te:TD} {g:TGD} {tb:TSD} {n:Nat} (h:EvX te ρ st (.int (n:Nat))) (hn:n≤1000) (q:∀ s,qx st s→qMI (qCr 0 n) (fun _=>True) g tb { E with nx:=N E } ρ s):tseq (qD2 (qBN te) g tb) N E ρ st:=by
  show qBN te ρ st fun items ok st1=>qMI items ok g tb { E with nx:=N E } ρ st1
  unfold qBN
  refine h _ fun s x=>⟨by lia,by lia,?_⟩
  rw [Int.toNat_natCast];exact q s x
theorem qHw {ds:List Dt} {st:Sto} {Pd:VD} (h:qE5 ds st Pd):qEd (Ed Pd) (qU ["cell", "bells", "at", "k"] ds) st:=by
  obtain⟨cell,rfl,hP⟩:=h
  refine qMJ ⟨by show 0≤sizeLine;decide,?_⟩
  show tseq _ _ (Ed Pd) [some (.int cell),some (.lst st.length),none,none] (st++[SO.rw []])
  have x0:qx st (st++[SO.rw []]):=.app _ _
  have e0:(st++[SO.rw []])[st.length]? = some (SO.rw []):=qj
  generalize st++[SO.rw []]=s0 at x0 e0 ⊢
  refine q8 (qY (qC (i:=0) rfl) qF (by decide) _ ?_)
  refine q8 (qi (qC (i:=0) rfl) qF (by decide) (by decide) _ ?_)
  show tseq _ _ (Ed Pd) [some (.int (cell / 5)),some (.lst st.length),some (.int (cell%5)),none] s0
  generalize cell / 5=c5
  generalize cell%5=at0
  obtain⟨k,hk,k4⟩:=qk (v:=c5) (n:=4) (by decide)
  have hk:c5%4=((k:Nat):Int):=hk
  obtain⟨y,ey,y1⟩:∃ y:Nat,[Dt.int 0,.int 3,.int 12,.int 60][k]? = some (.int (y:Nat))∧y≤60:=by
    rcases (by lia:k=0∨k=1∨k=2∨k=3) with rfl | rfl | rfl | rfl
    · exact⟨0,rfl,by decide⟩
    · exact⟨3,rfl,by decide⟩
    · exact⟨12,rfl,by decide⟩
    · exact⟨60,rfl,by decide⟩
  refine qUX (n:=y) (qBm (ds:=[.int 0,.int 3,.int 12,.int 60]) (v:=(k:Nat)) (qH qF (qH qF (qH qF (qH qF qT)))) (by decide) (fun s _=>by rw [← hk];exact qAl (qY (qC (i:=0) rfl) qF (by decide))) (qBQ ey)) (by lia) fun s1 x1=>?_
  refine⟨fun i ρ s=>∃ (L:List Int) (a:Int) (a3:Option Dt),ρ=[some (.int c5),some (.lst st.length),some (.int a),a3]∧L.length=i∧qx st s∧s[st.length]? = some (.rw (L.map .int)),⟨[],at0,none,rfl,rfl,x0.trans x1,x1 _ _ e0⟩,fun _ _ _ _ _=>trivial,?_,?_⟩
  · rintro i d ρ s hi ⟨L,a,a3,rfl,hL,x,e⟩
    have hil:=(qBS hi).1
    have hd:d = .int ((i:Nat):Int):=by
      rw [(qBS hi).2];congr 1;lia
    subst hd
    refine qDQ (v:=1) (qC (i:=1) rfl) (qAl (qC (i:=2) rfl)) e (Nat.lt_of_le_of_lt (show (L.map Dt.int).length≤60 by rw [List.length_map];lia) (by decide)) fun s2 x2=>?_
    refine q8 (qV (qV (qC (i:=2) rfl) qF) (qY (qA1 (k:=i) (qC (i:=0) rfl) (qC (i:=3) rfl) (by lia)) qF (by decide)) _ ?_)
    refine⟨L++[a],_,_,rfl,by rw [List.length_append,hL];rfl,fun j o hj=>L3.qN (x2 _ _ (x _ _ hj)) (by have:=L3.qq hj;lia),?_⟩
    rw [List.map_append]
    exact L3.qAV (x2 _ _ e)
  · rintro ρ s ⟨L,a,a3,rfl,hL,x,e⟩
    rw [qBT] at hL
    exact rdR (E:=Ed Pd) (N:=qJ) (ρ:=[some (.int c5),some (.lst st.length),some (.int a),a3]) (te:=qB 1) (qC (i:=1) rfl) (hP L _ s (by lia) x e)
end K76
namespace K76
open PySem PySem.Spec PyProof.Rows L2 L3 KH KS K06 K17 KN
open KR (Ev EvB qC qF qAA seq1 q8 ifS qy evb qAQ qAK qz qAN qAy qAm qAE qAe ql qAd qA2 qh qT qH qe qAL rdR qV qAP qAC q9)
open K31 (EvX qBR qAl xb qAS qAY qBc qi qk qBm qDQ qBs)
open K40 (qW qBg qBt qBn qBa qBX qA6 qCG qAF)
def qCS:RDL:=fun ds st P=>∃ (g:GS) (gi be:Nat) (h:Hd) (m:Nat),ds=[g.d,.lst gi,.lst be,.int h.ring,.int (m:Nat)]∧st[gi]? = some (.rw (h.given.map .int))∧st[be]? = some (.rw (h.bells.map .int))∧h.Ok∧Ok2 g∧m≤1000∧∀ k n st',qx st st'→st'[n]? = some (.rw [qHb (qIm h.given h.bells h.ring m 0 (s0 g)),.lst k])→P (.lst n) st'
abbrev pl5:TSD:=(tseq (qo (qM (qE (qZ true) (qB 12) (qD (Dt.str "on")))) (tseq (qX (qAc (qA (qAf (qA (qB 12) (qA (qI K76.qBd (qA (qB 5) qG)) (qA (qI qAa (qA (qB 6) qG)) (qA (qB 10) (qA (qB 7) (qA (qB 8) qG))))))) (qA (qB 9) qG)))) qJ) qJ) (tseq (qR (qE L3.qAT (qB 7) (qI qLe (qA (qBw (qB 11) (qE (qAO fun i j=>decide (i<j)) (qB 7) (qI qBE (qA (qB 1) qG)))) qG))) (qP 7)) (tseq (qAo (qAU (qB 9) (qI K76.qBd (qA (qB 5) qG)))) qJ)))
abbrev pl3:TSD:=(tseq (qR (qBw (qI K76.qA3 (qA (qB 5) (qA (qE qL (qB 5) (qD (Dt.int 0))) (qA (qD (Dt.int 4)) qG)))) (qE (qZ false) (qE qAk (qE qL (qE qL (qB 5) (qD (Dt.int 5))) (qE qL (qB 5) (qD (Dt.int 0)))) (qD (Dt.int 4096))) (qD (Dt.int 13)))) (qP 11)) (tseq (qR (qI K76.qIe (qA (qB 5) (qA (qE qL (qE L3.qAT (qB 1) (qE qBu (qAc (qA (qD (Dt.int 0)) qG)) (qD (Dt.int 1)))) (qI qGh (qA (qB 7) (qA (qI qBE (qA (qB 1) qG)) qG)))) (qA (qB 6) qG)))) (qP 12)) pl5))
abbrev pl2:TSD:=(tseq (qo (qAp (qM (qE (qBV false) (qE qL (qB 5) (qD (Dt.int 3))) (qD Dt.non))) (qAp (qM (qE (qAO fun i j=>decide (i<j)) (qB 8) (qI qBE (qA (qB 2) qG)))) (qM (qE (qAO fun i j=>decide (i≤j)) (qE qL (qB 2) (qB 8)) (qB 10))))) (tseq (qR (qAf (qA (qE qL (qB 5) (qD (Dt.int 0))) (qA (qE qL (qB 5) (qD (Dt.int 2))) qG))) (qCX (qB 5) (qD (Dt.int 3)))) (tseq (qR (qB 3) (qCX (qB 5) (qD (Dt.int 0)))) (tseq (qR (qE L3.qAT (qB 8) (qD (Dt.int 1))) (qP 8)) qJ))) qJ) pl3)
abbrev plW:TSD:=(tseq (qIf (qM (qD (Dt.bl true))) (tseq (qR (qE L3.qC2 (qI qBE (qA (qB 9) qG)) (qD (Dt.int 1))) (qP 10)) (tseq (qo (qM (qE (qAO fun i j=>decide (j≤i)) (qB 10) (qB 4))) (tseq (qX (qAc (qA (qAf (qA (qD (Dt.str "more")) (qA (qI K76.qBd (qA (qB 5) qG)) (qA (qI qAa (qA (qB 6) qG)) (qA (qB 10) (qA (qB 7) (qA (qB 8) qG))))))) (qA (qB 9) qG)))) qJ) qJ) pl2))) qJ)
abbrev qE1:TSD:=(tseq (qR (qI K76.qI5 (qA (qB 0) qG)) (qP 5)) (tseq (qR (qAc qG) (qP 6)) (tseq (qR (qD (Dt.int 0)) (qP 7)) (tseq (qR (qD (Dt.int 0)) (qP 8)) (tseq (qR (qAc (qA (qB 0) qG)) (qP 9)) plW)))))
theorem qQO {g:GS} {w a b c x:Int} (h:(doW g w a b c x).1 ≠ "on"):doW g w a b c x=((doW g w a b c x).1,g,[]):=by
  have key:∀ (P:Prop) [Decidable P] (x y:Res),(x.1 ≠ "on" → x=(x.1,g,[]))→(y.1 ≠ "on" → y=(y.1,g,[]))→(if P then x else y).1 ≠ "on" → (if P then x else y)=((if P then x else y).1,g,[]):=fun P _ x y hx hy=>by
    by_cases h:P
    · simp only [if_pos h];exact hx
    · simp only [if_neg h];exact hy
  have o:∀ {r:Res},r.1 = "on" → r.1 ≠ "on" → r=(r.1,g,[]):=fun e z=>absurd e z
  have l:∀ {u:Str},(qBv u g).1 ≠ "on" → qBv u g=((qBv u g).1,g,[]):=fun _=>rfl
  revert h
  unfold doW
  refine key _ _ _ (o rfl) (key _ _ _ (o rfl) (key _ _ _ (key _ _ _ l (o rfl)) (key _ _ _ (key _ _ _ (o rfl) l) (key _ _ _ (key _ _ _ (o rfl) l) (key _ _ _ (o rfl) (key _ _ _ (key _ _ _ (o rfl) (o rfl)) (key _ _ _ (o rfl) (key _ _ _ (o rfl) (key _ _ _ (o rfl) (key _ _ _ (key _ _ _ (o rfl) l) (key _ _ _ ?_ (key _ _ _ l l))))))))))))
  unfold qD8
  cases g.sv with
  | none=>exact l
  | some q=>exact o rfl
theorem qUB {g:GS} {x:Int} (h:(doR g x).1 ≠ "on"):doR g x=((doR g x).1,g,[]):=by
  revert h
  unfold doR
  split
  · exact qQO
  · exact fun _=>rfl
theorem qPy {ρ:Rho} {st:Sto} {te:TD} {o:Option (Int×M3)} (h:Ev te ρ st (svD o)):Ev (qE (qBV false) te (qD Dt.non)) ρ st (.bl o.isNone):=fun P hp=>h _ (by cases o<;>exact hp)
theorem qRm {ρ:Rho} {st:Sto} {ta tb:TD} {x y:Nat} (h:Ev ta ρ st (.int (x:Nat))) (h2:Ev tb ρ st (.int (y:Nat))):Ev (qI qGh (qA ta (qA tb qG))) ρ st (.int ((min x y:Nat):Int)):=fun P hp=>h _ (h2 _ (by
  show P (.int (if (y:Int)<(x:Int) then (y:Int) else (x:Int))) st
  have e:(if (y:Int)<(x:Int) then (y:Int) else (x:Int))=((min x y:Nat):Int):=by
    split
    · rw [Nat.min_eq_right (by lia)]
    · rw [Nat.min_eq_left (by lia)]
  rw [e];exact hp))
theorem qUg {ρ:Rho} {st:Sto} {gi hd:Nat} {given:List Int} (h1:ρ[1]? = some (some (.lst gi))) (h7:ρ[7]? = some (some (.int (hd:Nat)))) (hg:st[gi]? = some (.rw (given.map .int))) (gl:given.length≤100):EvX (qE qL (qE L3.qAT (qB 1) (qE qBu (qAc (qA (qD (Dt.int 0)) qG)) (qD (Dt.int 1)))) (qI qGh (qA (qB 7) (qA (qI qBE (qA (qB 1) qG)) qG)))) ρ st (.int (given.getD hd 0)):=fun P hp=>by
  refine qC (i:=1) h1 _ ⟨by show 1≤sizeLine;decide,?_⟩
  show (match (st++[SO.rw [Dt.int 0]])[st.length]? with | some (.rw xs)=>_ | _=>_)
  rw [qj]
  refine⟨by decide,by decide,by show 1≤sizeLine;decide,?_⟩
  refine qOa (xs:=given.map .int) (ys:=[.int 0]) ?_ qj ?_ ?_
  · exact ((qx.app _ _).trans (.app _ _)) _ _ hg
  · rw [List.length_map];exact Nat.le_trans (show given.length+1≤101 by lia) (by decide)
  · have x2:qx st (st++[SO.rw [Dt.int 0]]++[SO.rw [Dt.int 0]]++[SO.rw (given.map Dt.int++[Dt.int 0])]):=((qx.app _ _).trans (.app _ _)).trans (.app _ _)
    have eW:(st++[SO.rw [Dt.int 0]]++[SO.rw [Dt.int 0]]++[SO.rw (given.map Dt.int++[Dt.int 0])])[(st++[SO.rw [Dt.int 0]]++[SO.rw [Dt.int 0]]).length]? = some (.rw (given.map Dt.int++[Dt.int 0])):=qj
    show qE qL (qD (.lst (st++[SO.rw [Dt.int 0]]++[SO.rw [Dt.int 0]]).length)) (qI qGh (qA (qB 7) (qA (qI qBE (qA (qB 1) qG)) qG))) ρ (st++[SO.rw [Dt.int 0]]++[SO.rw [Dt.int 0]]++[SO.rw (given.map Dt.int++[Dt.int 0])]) P
    generalize (st++[SO.rw [Dt.int 0]]++[SO.rw [Dt.int 0]]).length=W at eW ⊢
    generalize st++[SO.rw [Dt.int 0]]++[SO.rw [Dt.int 0]]++[SO.rw (given.map Dt.int++[Dt.int 0])]=s3 at x2 eW ⊢
    have eg:qd s3 (.lst gi)=some (given.map .int):=by show (s3[gi]?).map SO.items=_;rw [x2 _ _ hg];rfl
    have ew:qd s3 (.lst W)=some (given.map Dt.int++[Dt.int 0]):=by show (s3[W]?).map SO.items=_;rw [eW];rfl
    refine qAC (i:=min hd given.length) qF ew (qRm (qC (i:=7) h7) (qC9 (qC (i:=1) h1) eg)) ?_ P (hp s3 x2)
    by_cases hl:hd<given.length
    · rw [Nat.min_eq_left (by lia),List.getElem?_append_left (by rw [List.length_map];exact hl),List.getElem?_map,List.getElem?_eq_getElem hl]
      simp [List.getD,hl]
    · rw [Nat.min_eq_right (by lia),List.getElem?_append_right (by rw [List.length_map];lia),List.length_map,Nat.sub_self]
      rw [List.getD_eq_getElem?_getD,List.getElem?_eq_none (l:=given) (i:=hd) (by lia)];rfl
end K76
namespace K76
open PySem PySem.Spec PyProof.Rows L2 L3 KH KS K06 K17 KN
open KR (Ev EvB qC qF qAA seq1 q8 ifS qy evb qAQ qAK qz qAN qAy qAm qAE qAe ql qAd qA2 qh qT qH qe qAL rdR qV qAP qAC q9)
open K31 (EvX qBR qAl xb qAS qAY qBc qi qk qBm qDQ qBs)
open K40 (qW qBg qBt qBn qBa qBX qA6 qCG qAF)
noncomputable def RP (gd:Dt) (gi be:Nat) (ring:Int) (m n T:Nat) (hd ru:Nat) (Q:Nat) (a10 a11 a12:Option Dt):Rho:=[some gd,some (.lst gi),some (.lst be),some (.int ring),some (.int (m:Nat)),some (.lst (n+3)),some (.lst T),some (.int (hd:Nat)),some (.int (ru:Nat)),some (.lst Q),a10,a11,a12]
structure PI (st:Sto) (h:Hd) (n T Q:Nat) (S:RS) (done:Nat) (s:Sto):Prop where
  x:qx st s
  l:LM s n S.g
  o:Ok2 S.g
  t:s[T]? = some (.rw (S.told.map .int))
  tl:S.told.length≤done
  q:∃ L:List Dt,L.length=done+1∧s[Q]? = some (.rw L)
section
variable {st s:Sto} {h:Hd} {n T Q gi be m done:Nat} {S:RS} {gd:Dt} {Pd:VD} {E:qA0} {a11 a12:Option Dt}
theorem PI.ext {s':Sto} (p:PI st h n T Q S done s) (x:qx s s'):PI st h n T Q S done s':=by
  obtain⟨L,hL,e⟩:=p.q
  exact⟨p.x.trans x,p.l.ext x,p.o,x _ _ p.t,p.tl,L,hL,x _ _ e⟩
theorem qIT (l:LM s n S.g) {ρ:Rho} (h5:ρ[5]? = some (some (.lst (n+3)))):Ev (qI K76.qBd (qA (qB 5) qG)) ρ s S.g.d:=qh (qH (qC (i:=5) h5) qT) fun P q=>⟨n,S.g,rfl,l,q⟩
theorem qOC {N:TSD} {th:TD} {how:Str} {ρ:Rho} (h5:ρ[5]? = some (some (.lst (n+3)))) (h6:ρ[6]? = some (some (.lst T))) (h7:ρ[7]? = some (some (.int (S.heard:Nat)))) (h8:ρ[8]? = some (some (.int (S.rung:Nat)))) (h9:ρ[9]? = some (some (.lst Q))) (h10:ρ[10]? = some (some (.int (done:Nat)))) (hh:Ev th ρ s (.str how)) (l:LM s n S.g) (t:s[T]? = some (.rw (S.told.map .int))) (x:qx st s)
    (hP:∀ k n st',qx st st'→st'[n]? = some (.rw [qHb (how,S,done),.lst k])→E.rt (.lst n) st'):tseq (qX (qAc (qA (qAf (qA th (qA (qI K76.qBd (qA (qB 5) qG)) (qA (qI qAa (qA (qB 6) qG)) (qA (qB 10) (qA (qB 7) (qA (qB 8) qG))))))) (qA (qB 9) qG)))) N E ρ s:=by
  have es:qd s (.lst T)=some (S.told.map .int):=by show (s[T]?).map SO.items=_;rw [t];rfl
  refine qR5 (qAM (qe (qH hh (qH (qIT l h5) (qH (qAF (qC (i:=6) h6) es) (qH (qC (i:=10) h10) (qH (qC (i:=7) h7) (qH (qC (i:=8) h8) qT)))))) (by show 6≤sizeLine;decide)) (qAM (qC (i:=9) h9) ⟨by show 2≤sizeLine;decide,?_⟩))
  exact hP Q _ _ (x.trans (.app _ _)) qj
theorem qS1 {ρ:Rho} {sp:RDL} {t0 t1 t2:TD} {a b c:Dt} {P:VD} (h0:Ev t0 ρ s a) (h1:EvX t1 ρ s b) (h2:∀ s',qx s s'→Ev t2 ρ s' c) (hs:∀ s',qx s s'→sp [a,b,c] s' P):qI sp (qA t0 (qA t1 (qA t2 qG))) ρ s P:=h0 _ (h1 _ fun s' x=>h2 s' x _ (hs s' x))
theorem qT6 (hn:n=st.length) (hT:n+4≤T) (hQ:T<Q) (p:PI st h n T Q S done s) (ho:h.Ok) (hg:st[gi]? = some (.rw (h.given.map .int))) (hd:done≤1000)
    (qr:(qA7 h.given S).1 ≠ "on" → ∀ k n st',qx st st'→st'[n]? = some (.rw [qHb ((qA7 h.given S).1,S,done),.lst k])→E.rt (.lst n) st')
    (qn:(qA7 h.given S).1 = "on" → ∀ s' b11 b12,PI st h n T Q (qB8 h.given S) (done+1) s'→E.nx (RP gd gi be h.ring m n T (qB8 h.given S).heard S.rung Q (some (.int (done:Nat))) b11 b12) s') :
    pl3 E (RP gd gi be h.ring m n T S.heard S.rung Q (some (.int (done:Nat))) a11 a12) s:=by
  have l:=p.l
  have ok:=p.o.ok
  have hp0:=ok.p0
  have er:Ev (qI K76.qA3 (qA (qB 5) (qA (qE qL (qB 5) (qD (Dt.int 0))) (qA (qD (Dt.int 4)) qG)))) (RP gd gi be h.ring m n T S.heard S.rung Q (some (.int (done:Nat))) a11 a12) s (.bl (may 4 S.g S.g.p)) :=
    qh (qH (qC (i:=5) rfl) (qH (l.ev (qC (i:=5) rfl) (j:=0) rfl) (qH qF qT))) fun P q=>⟨n,S.g,S.g.p,4,rfl,l,ok,hp0,.inr (.inr rfl),q⟩
  have eh:=qAN (b2:=qEe S.g) er fun hm=>(by
    have hp:S.g.p<S.g.cs.length:=by
      unfold may at hm
      k_dat 0"r40"
      exact hm.1.2
    refine ql (qi (qBz (xs:=S.g.cs) (i:=S.g.p.toNat) (l.ev (qC (i:=5) rfl) (j:=5) rfl) l.sc ?_ (by lia)) qF (by decide) (by decide)) qF
    rw [show ((S.g.p.toNat:Nat):Int)=S.g.p by lia]
    exact l.ev (qC (i:=5) rfl) (j:=0) rfl:Ev (qE (qZ false) (qE qAk (qE qL (qE qL (qB 5) (qD (Dt.int 5))) (qE qL (qB 5) (qD (Dt.int 0)))) (qD (Dt.int 4096))) (qD (Dt.int 13))) (RP gd gi be h.ring m n T S.heard S.rung Q (some (.int (done:Nat))) a11 a12) s (.bl (qEe S.g)))
  refine q8 (eh _ ?_)
  have hgv:=qDq ho.g S.heard
  refine q8 (qS1 (qC (i:=5) rfl) (qUg (gi:=gi) (hd:=S.heard) rfl rfl (p.x _ _ hg) ho.gl) (fun s1 x1=>qC (i:=6) rfl) fun s1 x1=>⟨n,T,S.g,h.given.getD S.heard 0,S.told,rfl,l.ext x1,p.o,hgv.1,hgv.2,.inr hT,x1 _ _ p.t,by have:=p.tl;lia,fun s2 k2 l2 t2=>?_⟩)
  show pl5 E (RP gd gi be h.ring m n T S.heard S.rung Q (some (.int (done:Nat))) (some (.bl (may 4 S.g S.g.p&&qEe S.g))) (some (.str (qA7 h.given S).1))) s2
  have xs:qx st s2:=fun j o e=>k2 j o (.inl (by rw [hn];exact L3.qq e)) (by have:=L3.qq e;lia) (x1 _ _ (p.x _ _ e))
  obtain⟨L,hL,eQ⟩:=p.q
  have eQ2:=k2 Q _ (.inr (by lia)) (by lia) (x1 _ _ eQ)
  refine qy (evb (qAe (a:=(qA7 h.given S).1) (qC (i:=12) rfl))) (fun hb=>?_) fun hb=>?_
  · have hne:(qA7 h.given S).1 ≠ "on":=fun e=>by rw [e] at hb;cases hb
    have eo:=qUB (g:=S.g) (x:=h.given.getD S.heard 0) hne
    rw [eo] at l2 t2
    exact qOC (S:=S) (done:=done) (how:=(qA7 h.given S).1) rfl rfl rfl rfl rfl rfl (qC (i:=12) rfl) l2 (by rw [← List.append_nil S.told];exact t2) xs (qr hne)
  · have hon:(qA7 h.given S).1 = "on":=by
      have:((qA7 h.given S).1 == "on")=true:=by simpa using hb
      exact eq_of_beq this
    have hm:may 4 S.g S.g.p=true:=by
      by_cases hm:may 4 S.g S.g.p=true
      · exact hm
      · have e:qA7 h.given S=qBv "closed" S.g:=if_neg hm
        rw [e] at hon
        exact absurd hon (by show ¬ ("closed" : Str) = "on";decide +kernel)
    have eg:qd s2 (.lst gi)=some (h.given.map .int):=by show (s2[gi]?).map SO.items=_;rw [xs _ _ hg];rfl
    have e7:=qV (qC (i:=7) (ρ:=RP gd gi be h.ring m n T S.heard S.rung Q (some (.int (done:Nat))) (some (.bl (may 4 S.g S.g.p&&qEe S.g))) (some (.str (qA7 h.given S).1))) (st:=s2) rfl) (qBs (qAN (b2:=decide (((S.heard:Nat):Int)<(h.given.length:Nat))) (qC (i:=11) rfl) fun _=>qAS (qC (i:=7) rfl) (qC9 (qC (i:=1) rfl) eg)))
    have ee:((S.heard:Nat):Int)+(if (may 4 S.g S.g.p&&qEe S.g&&decide (((S.heard:Nat):Int)<(h.given.length:Nat)))=true then 1 else 0)=(((qB8 h.given S).heard:Nat):Int):=by
      show _=(((if (decide (S.heard<h.given.length)&&qEe S.g)=true then S.heard+1 else S.heard):Nat):Int)
      rw [hm,Bool.true_and]
      by_cases hl:S.heard<h.given.length
      · rw [decide_eq_true hl,decide_eq_true (by lia:((S.heard:Nat):Int)<(h.given.length:Nat)),Bool.and_true,Bool.true_and]
        split<;>lia
      · rw [decide_eq_false hl,decide_eq_false (by lia:¬ ((S.heard:Nat):Int)<(h.given.length:Nat)),Bool.and_false,Bool.false_and]
        simp
    rw [ee] at e7
    refine q8 (e7 _ ?_)
    have oN:=qH3 (given:=h.given) p.o ho.g
    refine qDQ (v:=9) (qC (i:=9) rfl) (qAl (qIT (S:=qB8 h.given S) l2 rfl)) eQ2 (Nat.lt_of_le_of_lt (show L.length≤1001 by lia) (by decide)) fun s3 x3=>?_
    refine qn hon _ _ _ ⟨fun j o e=>L3.qN (x3 _ _ (xs _ _ e)) (by have:=L3.qq e;lia),?_,oN.1,L3.qN (x3 _ _ t2) (by lia),by have:=oN.2;have:=p.tl;lia,L++[(qB8 h.given S).g.d],by rw [List.length_append,hL];rfl,L3.qAV (x3 _ _ eQ2)⟩
    have l3:=l2.ext x3
    exact⟨L3.qN l3.b (by lia),L3.qN l3.q (by lia),L3.qN l3.c (by lia),L3.qN l3.m (by lia)⟩
end
end K76
namespace K76
open PySem PySem.Spec PyProof.Rows L2 L3 KH KS K06 K17 KN
open KR (Ev EvB qC qF qAA seq1 q8 ifS qy evb qAQ qAK qz qAN qAy qAm qAE qAe ql qAd qA2 qh qT qH qe qAL rdR qV qAP qAC q9)
open K31 (EvX qBR qAl xb qAS qAY qBc qi qk qBm qDQ qBs)
open K40 (qW qBg qBt qBn qBa qBX qA6 qCG qAF)
section
variable {st s:Sto} {h:Hd} {n T Q gi be m done:Nat} {S:RS} {gd:Dt} {Pd:VD} {E:qA0} {a10 a11 a12:Option Dt}
theorem qRt (hn:n=st.length) (hT:n+4≤T) (hQ:T<Q) (p:PI st h n T Q S done s) (ho:h.Ok) (hg:st[gi]? = some (.rw (h.given.map .int))) (hb:st[be]? = some (.rw (h.bells.map .int)))
    (q:∀ s',PI st h n T Q (qAv h.bells h.ring done S) done s'→pl3 E (RP gd gi be h.ring m n T (qAv h.bells h.ring done S).heard (qAv h.bells h.ring done S).rung Q (some (.int (done:Nat))) a11 a12) s') :
    pl2 E (RP gd gi be h.ring m n T S.heard S.rung Q (some (.int (done:Nat))) a11 a12) s:=by
  have l:=p.l
  have es:qd s (.lst be)=some (h.bells.map .int):=by show (s[be]?).map SO.items=_;rw [p.x _ _ hb];rfl
  have e1:decide (((S.rung:Nat):Int)<(h.bells.length:Nat))=decide (S.rung<h.bells.length):=decide_eq_decide.mpr ⟨fun h=>by lia,fun h=>by lia⟩
  have ed:EvB (qAp (qM (qE (qBV false) (qE qL (qB 5) (qD (Dt.int 3))) (qD Dt.non))) (qAp (qM (qE (qAO fun i j=>decide (i<j)) (qB 8) (qI qBE (qA (qB 2) qG)))) (qM (qE (qAO fun i j=>decide (i≤j)) (qE qL (qB 2) (qB 8)) (qB 10))))) (RP gd gi be h.ring m n T S.heard S.rung Q (some (.int (done:Nat))) a11 a12) s (qPN h.bells S.g S.rung done) :=
    qz (evb (qPy (l.ev (qC (i:=5) rfl) (j:=3) rfl))) fun _=>qz (by rw [← e1];exact evb (qAS (qC (i:=8) rfl) (qC9 (qC (i:=2) rfl) es))) fun hl=>evb (qOR (qBz (xs:=h.bells) (i:=S.rung) (qC (i:=2) rfl) es (qC (i:=8) rfl) (of_decide_eq_true hl)) (qC (i:=10) rfl))
  refine qy ed (fun hd=>?_) fun hd=>?_
  · have eb:qAv h.bells h.ring done S={ S with g:=qJp S.g h.ring,rung:=S.rung+1 }:=if_pos hd
    rw [eb] at q
    refine qKR (i:=3) (m:=n+3) (qAl (qe (ds:=[.int S.g.p,msD S.g.m]) (qH (l.ev (qC (i:=5) rfl) (j:=0) rfl) (qH (l.ev (qC (i:=5) rfl) (j:=2) rfl) qT)) (by show 2≤sizeLine;decide))) (fun s' _=>qC (i:=5) rfl) (fun s' _=>qF) l.m (by show 3<6;decide) fun s1 x1=>?_
    have p1:=p.ext x1
    have l2:=p1.l.own S.g.p S.g.m (some (S.g.p,S.g.m))
    refine qKR (i:=0) (m:=n+3) (qAl (qC (i:=3) rfl)) (fun s' _=>qC (i:=5) rfl) (fun s' _=>qF) l2.m (by show 0<6;decide) fun s2 x2=>?_
    refine q8 (qV (qC (i:=8) rfl) qF _ ?_)
    have l3:=(l2.ext x2).own h.ring S.g.m (some (S.g.p,S.g.m))
    obtain⟨L,hL,eQ⟩:=p1.q
    have ob:=qHY (bells:=h.bells) (ring:=h.ring) (done:=done) p.o ho.r
    rw [eb] at ob
    exact q _ ⟨fun j o e=>L3.qN (x2 _ _ (L3.qN (p1.x _ _ e) (by have:=L3.qq e;lia))) (by have:=L3.qq e;lia),l3,ob,L3.qN (x2 _ _ (L3.qN p1.t (by lia))) (by lia),p.tl,L,hL,L3.qN (x2 _ _ (L3.qN eQ (by lia))) (by lia)⟩
  · have eb:qAv h.bells h.ring done S=S:=if_neg (by rw [hd];exact nofun)
    rw [eb] at q
    exact q s p
theorem qSO {g:GS} (hn:n=st.length) (hT:n+4≤T) (hQ:T<Q) (p:PI st h n T Q (s0 g) 0 s) (ho:h.Ok) (hg:st[gi]? = some (.rw (h.given.map .int))) (hb:st[be]? = some (.rw (h.bells.map .int))) (hm:m≤1000)
    {R:Str×RS×Nat} (eR:qIm h.given h.bells h.ring m 0 (s0 g)=R) (hP:∀ k n st',qx st st'→st'[n]? = some (.rw [qHb R,.lst k])→Pd (.lst n) st'):plW (Ed Pd) (RP gd gi be h.ring m n T 0 0 Q none none none) s:=by
  refine seq1 ⟨fun w ρ s=>∃ (S:RS) (done:Nat) (a10 a11 a12:Option Dt),ρ=RP gd gi be h.ring m n T S.heard S.rung Q a10 a11 a12∧PI st h n T Q S done s∧done≤m∧qIm h.given h.bells h.ring (m - done) done S=R∧w=m - done,⟨_,s0 g,0,none,none,none,rfl,p,Nat.zero_le _,eR,rfl⟩,?_⟩
  rintro w ρ s ⟨S,done,a10,a11,a12,rfl,p,hd,er,rfl⟩
  refine evb qF _ (KH.qGl rfl ?_)
  obtain⟨L,hL,eQ⟩:=p.q
  have eq:qd s (.lst Q)=some L:=by show (s[Q]?).map SO.items=_;rw [eQ];rfl
  have e10:=qAP (q9 (qC (i:=9) (ρ:=RP gd gi be h.ring m n T S.heard S.rung Q a10 a11 a12) rfl) eq) (qF (d:=.int 1))
  rw [show (L.length:Int) - 1=((done:Nat):Int) by lia] at e10
  refine q8 (e10 _ ?_)
  refine qy (evb (qKu (qC (i:=10) rfl) (qC (i:=4) rfl))) (fun hb2=>?_) fun hb2=>?_
  · have hb2:=of_decide_eq_true hb2
    rw [show m - done=0 by lia] at er
    have er:(("more" : Str),S,done)=R:=er
    rw [← er] at hP
    exact qOC (S:=S) (done:=done) (how:= "more") rfl rfl rfl rfl rfl rfl qF p.l p.t p.x hP
  · have hb2:=of_decide_eq_false hb2
    have em:m - done=(m - done - 1)+1:=by lia
    rw [em] at er
    unfold qIm at er
    refine qRt (gd:=gd) (m:=m) (a11:=a11) (a12:=a12) hn hT hQ p ho hg hb fun s1 p1=>?_
    refine qT6 hn hT hQ p1 ho hg (by lia) (fun hne=>?_) fun hon s2 b11 b12 p2=>?_
    · rw [if_neg hne] at er
      rw [← er] at hP
      exact hP
    · rw [if_pos hon] at er
      exact⟨_,by show m - (done+1)<m - done;lia,_,done+1,_,_,_,rfl,p2,by lia,by rw [show m - (done+1)=m - done - 1 by lia];exact er,rfl⟩
end
theorem qHk {ds:List Dt} {st:Sto} {Pd:VD} (h:qCS ds st Pd):qE1 (Ed Pd) (qU ["first", "given", "bells", "ring", "most", "state", "told", "heard", "rung", "states", "done", "hears", "how"] ds) st:=by
  obtain⟨g,gi,be,h,m,rfl,hg,hb,ho,o2,hm,hP⟩:=h
  refine q8 (qAY (qH (qC (i:=0) rfl) qT) ⟨g,rfl,o2.ok,fun s1 x1 l1=>?_⟩)
  have hT:=L3.qq l1.m
  refine qMJ ⟨by show 0≤sizeLine;decide,?_⟩
  refine q8 ?_
  refine q8 ?_
  refine qMJ (qAM (qC (i:=0) rfl) ⟨by show 1≤sizeLine;decide,?_⟩)
  show plW (Ed Pd) (RP g.d gi be h.ring m st.length s1.length 0 0 (s1++[SO.rw []]).length none none none) (s1++[SO.rw []]++[SO.rw [g.d]])
  have x3:qx s1 (s1++[SO.rw []]++[SO.rw [g.d]]):=(qx.app _ _).trans (.app _ _)
  have et:(s1++[SO.rw []]++[SO.rw [g.d]])[s1.length]? = some (.rw []):=by rw [List.getElem?_append_left (by simp),qj]
  exact qSO rfl (by lia) (by rw [List.length_append];exact Nat.lt_succ_self _) ⟨x1.trans x3,l1.ext x3,o2,et,Nat.le_refl _,_,rfl,qj⟩ ho hg hb hm rfl hP
end K76
namespace K76
open PySem PySem.Spec PyProof.Rows L2 L3 KH KS K06 K17 KN
open KR (Ev EvB qC qF qAA seq1 q8 ifS qy evb qAQ qAK qz qAN qAy qAm qAE qAe ql qAd qA2 qh qT qH qe qAL rdR qV qAP qAC q9)
open K31 (EvX qBR qAl xb qAS qAY qBc qi qk qBm qDQ qBs qEG)
open K40 (qW qBg qBt qBn qBa qBX qA6 qCG qAF)
def XQ (te:TD) (ρ:Rho) (st:Sto) (Q:Int→Prop):Prop:=∀ P:VD,(∀ v s,Q v→qx st s→P (.int v) s)→te ρ st P
theorem qKb {items:List Dt} {ok:Sto→Prop} {te:TD} {cρ:Rho} {st:Sto} {Fin:List Dt→Sto→Prop} {Q:Int→Prop} (hok:∀ s,qx st s→ok s) (hl:items.length≤900)
    (h:∀ (i:Nat) d,items[i]? = some d→∀ s,qx st s→XQ te (some d::cρ) s Q) (hF:∀ (vs:List Int) s,vs.length=items.length→(∀ v∈vs,Q v)→qx st s→Fin (vs.map .int) s):qFi items ok (fun x st P=>P true st) te cρ st Fin:=by
  refine⟨fun i zs s=>∃ vs:List Int,zs=vs.map .int∧vs.length=i∧(∀ v∈vs,Q v)∧qx st s,⟨[],rfl,rfl,(fun v h=>by cases h),.refl _⟩,fun _ _ s _ ⟨_,_,_,_,x⟩=>hok s x,?_,?_⟩
  · rintro i d zs s hd ⟨vs,rfl,hv,hq,x⟩
    have:=L3.qq hd
    refine⟨by rw [List.length_map];exact qFJ (by lia),qCD (h i d hd s x _ fun v s2 qv x2=>⟨vs++[v],by rw [List.map_append];rfl,by rw [List.length_append,hv];rfl,fun u hu=>?_,x.trans x2⟩)⟩
    rcases List.mem_append.mp hu with q | q
    · exact hq u q
    · rw [List.mem_singleton.mp q];exact qv
  · rintro zs s ⟨vs,rfl,hv,hq,x⟩
    exact hF vs s hv hq x
theorem qLk {te:TD} {ρ:Rho} {st:Sto} {Q:Int→Prop} {v:Int} (h:EvX te ρ st (.int v)) (q:Q v):XQ te ρ st Q:=fun P hp=>h P fun s x=>hp v s q x
theorem qO5 {ta tb:TD} {ρ:Rho} {st:Sto} {c:Int} {many:Nat} (h:Ev ta ρ st (.int c)) (h2:Ev tb ρ st (.int (many:Nat))) (hm:0<many):XQ (qI K76.qCU (qA ta (qA tb qG))) ρ st fun v=>0≤v∧v<65536:=fun P hp=>qAY (qH h (qH h2 qT)) ⟨c,many,rfl,hm,fun v s v0 v1 x=>hp v s ⟨v0,v1⟩ x⟩
def qE0:RDL:=fun ds st P=>∃ (sc:Nat) (ns:List Int),ds=[.lst sc]∧qD4 st sc ns∧∀ (g:GS) st',Ok2 g→g.rs.length≤16→qx st st'→P g.d st'
abbrev ls7:TSD:=(tseq (qR (qE L3.qAT (qBx (qBN (qD (Dt.int 7))) (fun x st P=>P true st) (qE qAB (qI K76.qAW (qA (qB 1) (qA (qE L3.qAT (qD (Dt.int 120)) (qB 0)) qG))) (qE qL (qAc (qA (qD (Dt.int 4)) (qA (qD (Dt.int 70)) (qA (qD (Dt.int 65536)) qG)))) (qE qAB (qI K76.qAW (qA (qB 1) (qA (qD (Dt.int 91)) qG))) (qD (Dt.int 3))))) [(1, "first")]) (qAc (qA (qD (Dt.int 0)) qG))) (qP 6)) (tseq (qR (qAf (qA (qE (qZ false) (qE qAB (qE qAk (qB 1) (qD (Dt.int 128))) (qD (Dt.int 2))) (qD (Dt.int 1))) (qA (qE (qZ false) (qE qAB (qE qAk (qB 1) (qD (Dt.int 256))) (qD (Dt.int 2))) (qD (Dt.int 1))) (qA (qE (qZ false) (qE qAB (qE qAk (qB 1) (qD (Dt.int 512))) (qD (Dt.int 2))) (qD (Dt.int 1))) qG)))) (qP 7)) (tseq (qX (qAf (qA (qD (Dt.int 0)) (qA (qI qAa (qA (qB 6) qG)) (qA (qB 7) (qA (qD Dt.non) (qA (qI qAa (qA (qB 5) qG)) (qA (qI qAa (qA (qB 3) qG)) qG)))))))) qJ)))
abbrev ls6:TSD:=(tseq (qo (qM (qE (qZ false) (qE qAB (qI K76.qAW (qA (qB 1) (qA (qD (Dt.int 90)) qG))) (qD (Dt.int 3))) (qD (Dt.int 1)))) (tseq (qR (qBx (qBN (qE qAk (qB 2) (qD (Dt.int 8)))) (fun x st P=>P true st) (qE qL (qAc (qA (qD (Dt.int 7)) (qA (qD (Dt.int 7)) (qA (qD (Dt.int 7)) (qA (qD (Dt.int 5)) (qA (qD (Dt.int 3)) (qA (qD (Dt.int 6)) qG))))))) (qE qAB (qI K76.qAW (qA (qB 1) (qA (qE L3.qAT (qD (Dt.int 100)) (qB 0)) qG))) (qD (Dt.int 6)))) [(1, "first")]) (qP 5)) qJ) qJ) ls7)
abbrev ls5:TSD:=(tseq (qR (qBx (qBN (qE qAk (qB 2) (qD (Dt.int 8)))) (fun x st P=>P true st) (qD (Dt.int 7)) []) (qP 5)) ls6)
abbrev ls4:TSD:=(tseq (qIf (qM (qE (qAO fun i j=>decide (i<j)) (qI qBE (qA (qB 3) qG)) (qB 2))) (tseq (qAo (qAU (qB 3) (qE qL (qAc (qA (qI K76.qCU (qA (qE L3.qAT (qE L3.qAT (qE qAk (qB 1) (qD (Dt.int 8))) (qE qBu (qD (Dt.int 2)) (qB 4))) (qD (Dt.int 1))) (qA (qB 2) qG))) (qA (qD (Dt.int 0)) (qA (qD (Dt.int 24576)) qG)))) (qE qAB (qI K76.qAW (qA (qB 1) (qA (qB 4) qG))) (qD (Dt.int 3)))))) (tseq (qR (qE L3.qAT (qB 4) (qD (Dt.int 1))) (qP 4)) qJ))) ls5)
abbrev qEq:TSD:=(tseq (qR (qI K76.qBY (qA (qB 0) (qA (qD (Dt.int 0)) qG))) (qP 1)) (tseq (qR (qE qBu (qD (Dt.int 8)) (qE L3.qAT (qD (Dt.int 1)) (qE qAB (qB 1) (qD (Dt.int 16))))) (qP 2)) (tseq (qR (qBx (qCN (qIo (qB 0) (qBF (qD (Dt.int 3))) (qBF (qE L3.qAT (qD (Dt.int 3)) (qB 2))))) (fun x st P=>P true st) (qI K76.qCU (qA (qB 0) (qA (qB 1) qG))) [(2, "many")]) (qP 3)) (tseq (qR (qD (Dt.int 0)) (qP 4)) ls4))))
end K76
namespace K76
open PySem PySem.Spec PyProof.Rows L2 L3 KH KS K06 K17 KN
open KR (Ev EvB qC qF qAA seq1 q8 ifS qy evb qAQ qAK qz qAN qAy qAm qAE qAe ql qAd qA2 qh qT qH qe qAL rdR qV qAP qAC q9)
open K31 (EvX qBR qAl xb qAS qAY qBc qi qk qBm qDQ qBs qEG qFn)
open K40 (qW qBg qBt qBn qBa qBX qA6 qCG qAF)
def ls8:TSD:=(tseq (qR (qE L3.qAT (qBx (qBN (qD (Dt.int 7))) (fun x st P=>P true st) (qE qAB (qI K76.qAW (qA (qB 1) (qA (qE L3.qAT (qD (Dt.int 120)) (qB 0)) qG))) (qE qL (qAc (qA (qD (Dt.int 4)) (qA (qD (Dt.int 70)) (qA (qD (Dt.int 65536)) qG)))) (qE qAB (qI K76.qAW (qA (qB 1) (qA (qD (Dt.int 91)) qG))) (qD (Dt.int 3))))) [(1, "first")]) (qAc (qA (qD (Dt.int 0)) qG))) (qP 6)) (tseq (qR (qAf (qA (qE (qZ false) (qE qAB (qE qAk (qB 1) (qD (Dt.int 128))) (qD (Dt.int 2))) (qD (Dt.int 1))) (qA (qE (qZ false) (qE qAB (qE qAk (qB 1) (qD (Dt.int 256))) (qD (Dt.int 2))) (qD (Dt.int 1))) (qA (qE (qZ false) (qE qAB (qE qAk (qB 1) (qD (Dt.int 512))) (qD (Dt.int 2))) (qD (Dt.int 1))) qG)))) (qP 7)) (tseq (qX (qAf (qA (qD (Dt.int 0)) (qA (qI qAa (qA (qB 6) qG)) (qA (qB 7) (qA (qD Dt.non) (qA (qI qAa (qA (qB 5) qG)) (qA (qI qAa (qA (qB 3) qG)) qG)))))))) qJ)))
section
variable {ρ:Rho} {st:Sto} {Q:Int→Prop}
theorem qCW {s:Sto} {n:Nat} {xs:List Dt} (h:s[n]? = some (.rw xs)):qd s (.lst n)=some xs:=by show (s[n]?).map SO.items=_;rw [h];rfl
theorem qS8 {ta tb:TD} {a b:Int} {k:Nat} (h:XQ ta ρ st Q) (qa:Q a) (qb:Q b) (k3:k<3) (h2:∀ s,qx st s→Ev tb ρ s (.int (k:Nat))):XQ (qE qL (qAc (qA ta (qA (qD (.int a)) (qA (qD (.int b)) qG)))) tb) ρ st Q:=fun P hp=>h _ fun v s qv x=>⟨by show 3≤sizeLine;decide,by
  show qE qL (qD (.lst s.length)) tb ρ (s++[.rw [.int v,.int a,.int b]]) P
  obtain⟨u,eu,qu⟩:∃ u,[Dt.int v,.int a,.int b][k]? = some (.int u)∧Q u:=by
    rcases (by lia:k=0∨k=1∨k=2) with rfl | rfl | rfl
    · exact⟨v,rfl,qv⟩
    · exact⟨a,rfl,qa⟩
    · exact⟨b,rfl,qb⟩
  exact qAC (i:=k) qF (qCW qj) (h2 _ (x.trans (.app _ _))) eu P (hp u _ qu (x.trans (.app _ _)))⟩
theorem qVh {E:qA0} {N:TSD} {te:TD} {v f:Nat} {xs:List Int} (hl:Ev (qB v) ρ st (.lst f)) (he:XQ te ρ st Q) (h:st[f]? = some (.rw (xs.map .int))) (hn:xs.length≤900) (q:∀ u st1,Q u→qx st st1→N E ρ (st1.set f (.rw ((xs++[u]).map .int)))):tseq (qAo (qAU (qB v) te)) N E ρ st:=by
  show qAU (qB v) te ρ st fun _ st1=>N E ρ st1
  unfold qAU
  refine hl _ ?_
  refine he _ fun u st1 qu x1=>?_
  show (match st1[f]? with | some (.rw xs)=>_ | _=>_)
  rw [x1 _ _ h]
  refine⟨by rw [List.length_map];exact qFJ (by lia),?_⟩
  have:=q u st1 qu x1
  rw [List.map_append] at this
  exact this
end
section
variable {st s:Sto} {Pd:VD} {sc C R pg:Nat} {f:Int} {cs rs:List Int} {a4:Option Dt}
theorem qOD (hp:pg≤16) (hc:cs.length=8 * pg) (hcb:∀ v∈cs,0≤v∧v<65536) (hr:rs.length=pg) (hrb:∀ v∈rs,0≤v∧v<8) (eC:s[C]? = some (.rw (cs.map .int))) (eR:s[R]? = some (.rw (rs.map .int))) (x:qx st s) (hP:∀ (g:GS) st',Ok2 g→g.rs.length≤16→qx st st'→Pd g.d st'):ls8 (Ed Pd) [some (.lst sc),some (.int f),some (.int ((8 * pg:Nat):Int)),some (.lst C),a4,some (.lst R),none,none] s:=by
  refine q8 (qEG (n:=7) qF (by decide) (qKb (Q:=fun v=>0≤v∧v<65536) (fun _ _=>trivial) (by decide) (fun i d hi s1 x1=>?_) fun bs s1 hb hq x1=>?_))
  · have hil:=(qBS hi).1
    k_dat 0"r57"
    subst hv
    obtain⟨k,hk,k3⟩:=qk (v:=turnF f (91:Nat)) (n:=3) (by decide)
    have hk:turnF f (91:Nat)%3=((k:Nat):Int):=hk
    obtain⟨y,ey,y0,y1⟩:∃ y:Int,[Dt.int 4,.int 70,.int 65536][k]? = some (.int y)∧0<y∧y≤65536:=by
      rcases (by lia:k=0∨k=1∨k=2) with rfl | rfl | rfl
      · exact⟨4,rfl,by decide,by decide⟩
      · exact⟨70,rfl,by decide,by decide⟩
      · exact⟨65536,rfl,by decide,by decide⟩
    refine qLk (v:=turnF f (120+i:Nat)%y) (qFn (qA1 (k:=120+i) (qC (i:=1) rfl) (by rw [show ((120+i:Nat):Int)=120+(i:Nat) by lia];exact qV qF (qC (i:=0) rfl)) (by lia)) (qBm (ds:=[.int 4,.int 70,.int 65536]) (v:=(k:Nat)) (qH qF (qH qF (qH qF qT))) (by decide) (fun s _=>by rw [← hk];exact qAl (qY (qA1 (k:=91) (qC (i:=1) rfl) qF (by decide)) qF (by decide))) (qBQ ey)) y0) ?_
    exact⟨Int.emod_nonneg _ (by lia),Int.lt_of_lt_of_le (Int.emod_lt_of_pos _ y0) y1⟩
  · refine⟨by show 1≤sizeLine;decide,?_⟩
    have hb:bs.length=7:=hb
    refine qOa (xs:=bs.map .int) (ys:=[.int 0]) (by rw [List.getElem?_append_left (by simp),qj]) qj (by rw [List.length_map,hb];show 8≤sizeLine;decide) ?_
    have xa:qx s (s1++[SO.rw (bs.map .int)]++[SO.rw [Dt.int 0]]++[SO.rw (bs.map Dt.int++[.int 0])]):=((x1.trans (.app _ _)).trans (.app _ _)).trans (.app _ _)
    have eB:(s1++[SO.rw (bs.map .int)]++[SO.rw [Dt.int 0]]++[SO.rw (bs.map Dt.int++[.int 0])])[(s1++[SO.rw (bs.map .int)]++[SO.rw [Dt.int 0]]).length]? = some (.rw ((bs++[0]).map .int)):=by rw [List.map_append];exact qj
    generalize (s1++[SO.rw (bs.map .int)]++[SO.rw [Dt.int 0]]).length=B at eB ⊢
    generalize s1++[SO.rw (bs.map .int)]++[SO.rw [Dt.int 0]]++[SO.rw (bs.map Dt.int++[.int 0])]=s3 at xa eB ⊢
    refine q8 (qe (qH (ql (qY (qi (qC (i:=1) rfl) qF (by decide) (by decide)) qF (by decide)) qF) (qH (ql (qY (qi (qC (i:=1) rfl) qF (by decide) (by decide)) qF (by decide)) qF) (qH (ql (qY (qi (qC (i:=1) rfl) qF (by decide) (by decide)) qF (by decide)) qF) qT))) (by show 3≤sizeLine;decide) _ ?_)
    refine rdR (qe (qH qF (qH (qAF (qC (i:=6) rfl) (qCW eB)) (qH (qC (i:=7) rfl) (qH qF (qH (qAF (qC (i:=5) rfl) (qCW (xa _ _ eR))) (qH (qAF (qC (i:=3) rfl) (qCW (xa _ _ eC))) qT)))))) (by show 6≤sizeLine;decide)) ?_
    refine hP ⟨0,bs++[0],(decide (f / 128%2=1),decide (f / 256%2=1),decide (f / 512%2=1)),none,rs,cs⟩ s3 ⟨⟨Int.le_refl _,by show (bs++[0]).length=8;rw [List.length_append,hb];rfl,fun v hv=>?_,by show cs.length=8 * rs.length;lia,by show cs.length≤128;lia,hcb,hrb⟩,fun _ _ e=>by cases e⟩ (by show rs.length≤16;lia) (x.trans xa)
    rcases List.mem_append.mp hv with q | q
    · exact hq v q
    · rw [List.mem_singleton.mp q];decide
end
end K76
namespace K76
open PySem PySem.Spec PyProof.Rows L2 L3 KH KS K06 K17 KN
open KR (Ev EvB qC qF qAA seq1 q8 ifS qy evb qAQ qAK qz qAN qAy qAm qAE qAe ql qAd qA2 qh qT qH qe qAL rdR qV qAP qAC q9)
open K31 (EvX qBR qAl xb qAS qAY qBc qi qk qBm qDQ qBs qEG qFn)
open K40 (qW qBg qBt qBn qBa qBX qA6 qCG qAF)
section
variable {st s:Sto} {Pd:VD} {sc C R pg:Nat} {f:Int} {cs rs:List Int} {a4:Option Dt}
noncomputable def rl6:List Int:=[7,7,7,5,3,6]
theorem qUF:∀ k:Nat,k<6→(rl6.map Dt.int)[k]? = some (.int (rl6.getD k 0))∧0≤rl6.getD k 0∧rl6.getD k 0<8:=fun k hk=>⟨by
  rw [List.getElem?_map,List.getD_eq_getElem?_getD,List.getElem?_eq_getElem (by exact hk)];rfl,(by decide:∀ k:Nat,k<6→0≤rl6.getD k 0∧rl6.getD k 0<8) k hk⟩
theorem qRL {ρ:Rho} (h:ρ[2]? = some (some (.int ((8 * pg:Nat):Int)))):Ev (qE qAk (qB 2) (qD (Dt.int 8))) ρ s (.int (pg:Nat)):=by
  have e:=qi (qC (i:=2) (st:=s) h) (qF (d:=.int 8)) (by decide) (by decide)
  rw [show ((8 * pg:Nat):Int) / 8=((pg:Nat):Int) by lia] at e
  exact e
theorem qTD (hp:pg≤16) (hc:cs.length=8 * pg) (hcb:∀ v∈cs,0≤v∧v<65536) (hr:rs.length=pg) (hrb:∀ v∈rs,0≤v∧v<8) (eC:s[C]? = some (.rw (cs.map .int))) (eR:s[R]? = some (.rw (rs.map .int))) (x:qx st s) (hP:∀ (g:GS) st',Ok2 g→g.rs.length≤16→qx st st'→Pd g.d st'):ls6 (Ed Pd) [some (.lst sc),some (.int f),some (.int ((8 * pg:Nat):Int)),some (.lst C),a4,some (.lst R),none,none] s:=by
  refine qy (evb (ql (qY (qA1 (k:=90) (qC (i:=1) rfl) qF (by decide)) qF (by decide)) qF)) (fun _=>?_) fun _=>qOD hp hc hcb hr hrb eC eR x hP
  refine q8 (qEG (n:=pg) (qRL rfl) (by lia) (qKb (Q:=fun v=>0≤v∧v<8) (fun _ _=>trivial) (by rw [qBT];lia) (fun i d hi s1 x1=>?_) fun vs s1 hv hq x1=>?_))
  · have hil:=(qBS hi).1
    k_dat 0"r57"
    subst hv
    obtain⟨k,hk,k6⟩:=qk (v:=turnF f (100+i:Nat)) (n:=6) (by decide)
    have hk:turnF f (100+i:Nat)%6=((k:Nat):Int):=hk
    obtain⟨ew,w0,w1⟩:=qUF k k6
    exact qLk (qBm (ds:=rl6.map .int) (v:=(k:Nat)) (qH qF (qH qF (qH qF (qH qF (qH qF (qH qF qT)))))) (by decide) (fun s _=>by rw [← hk];exact qAl (qY (qA1 (k:=100+i) (qC (i:=1) rfl) (by rw [show ((100+i:Nat):Int)=100+(i:Nat) by lia];exact qV qF (qC (i:=0) rfl)) (by lia)) qF (by decide))) (qBQ ew)) ⟨w0,w1⟩
  · rw [qBT] at hv
    exact qOD hp hc hcb hv hq ((x1.trans (.app _ _)) _ _ eC) qj (x.trans (x1.trans (.app _ _))) hP
theorem qTk (hp:pg≤16) (hc:cs.length=8 * pg) (hcb:∀ v∈cs,0≤v∧v<65536) (eC:s[C]? = some (.rw (cs.map .int))) (x:qx st s) (hP:∀ (g:GS) st',Ok2 g→g.rs.length≤16→qx st st'→Pd g.d st'):ls5 (Ed Pd) [some (.lst sc),some (.int f),some (.int ((8 * pg:Nat):Int)),some (.lst C),a4,none,none,none] s:=by
  refine q8 (qEG (n:=pg) (qRL rfl) (by lia) (qKb (Q:=fun v=>0≤v∧v<8) (fun _ _=>trivial) (by rw [qBT];lia) (fun i d hi s1 x1=>qLk (qAl qF) (by decide)) fun vs s1 hv hq x1=>?_))
  rw [qBT] at hv
  exact qTD hp hc hcb hv hq ((x1.trans (.app _ _)) _ _ eC) qj (x.trans (x1.trans (.app _ _))) hP
theorem qTY (p0:0<pg) (hp:pg≤16) (hC:st.length≤C) (hc:cs.length≤8 * pg) (hcb:∀ v∈cs,0≤v∧v<65536) (eC:s[C]? = some (.rw (cs.map .int))) (x:qx st s) (hP:∀ (g:GS) st',Ok2 g→g.rs.length≤16→qx st st'→Pd g.d st'):ls4 (Ed Pd) [some (.lst sc),some (.int f),some (.int ((8 * pg:Nat):Int)),some (.lst C),some (.int 0),none,none,none] s:=by
  refine seq1 ⟨fun w ρ s=>∃ (cs:List Int) (k:Nat),ρ=[some (.lst sc),some (.int f),some (.int ((8 * pg:Nat):Int)),some (.lst C),some (.int (k:Nat)),none,none,none]∧cs.length≤8 * pg∧k≤cs.length∧(∀ v∈cs,0≤v∧v<65536)∧s[C]? = some (.rw (cs.map .int))∧qx st s∧w=8 * pg - cs.length,⟨_,cs,0,rfl,hc,Nat.zero_le _,hcb,eC,x,rfl⟩,?_⟩
  rintro w ρ s ⟨cs,k,rfl,hc,hk,hcb,eC,x,rfl⟩
  refine evb (qAS (qC9 (qC (i:=3) rfl) (qCW eC)) (qC (i:=2) rfl)) _ ?_
  by_cases hl:cs.length<8 * pg
  · refine KH.qGl (decide_eq_true (by lia)) ?_
    obtain⟨j,hj,j3⟩:=qk (v:=turnF f (k:Nat)) (n:=3) (by decide)
    have hj:turnF f (k:Nat)%3=((j:Nat):Int):=hj
    refine qVh (v:=3) (qC (i:=3) rfl) (qS8 (k:=j) (qO5 (qV (qV (qi (qC (i:=1) rfl) qF (by decide) (by decide)) (qCM qF (qC (i:=4) rfl) (.inl ⟨by lia,by lia⟩))) qF) (qC (i:=2) rfl) (by lia)) (by decide) (by decide) j3 fun s1 _=>by rw [← hj];exact qY (qA1 (k:=k) (qC (i:=1) rfl) (qC (i:=4) rfl) (by lia)) qF (by decide)) eC (by lia) fun u s1 qu x1=>?_
    refine q8 (qV (qC (i:=4) rfl) qF _ ?_)
    refine⟨_,?_,cs++[u],k+1,rfl,by rw [List.length_append];exact hl,by rw [List.length_append];exact Nat.succ_le_succ hk,fun v hv=>?_,L3.qAV (x1 _ _ eC),fun i o e=>L3.qN (x1 _ _ (x _ _ e)) (by have:=L3.qq e;lia),rfl⟩
    · rw [List.length_append];show 8 * pg - (cs.length+1)<8 * pg - cs.length;lia
    · rcases List.mem_append.mp hv with q | q
      · exact hcb v q
      · rw [List.mem_singleton.mp q];exact qu
  · refine qJf (decide_eq_false (by lia)) ?_
    exact qTk hp (by lia) hcb eC x hP
end
theorem qVJ {ρ:Rho} {st:Sto} {ta tl th te:TD} {tc:TBD} {caps:List (Nat×Str)} {n a b:Nat} {xs:List Int} {P:VD} (h:Ev ta ρ st (.lst n)) (h1:Ev tl ρ st (.int (a:Nat))) (h2:Ev th ρ st (.int ((a:Int)+(b:Nat)))) (hs:qD4 st n xs) (q:qFi (((xs.drop a).take b).map .int) (fun st'=>qd st' (.lst st.length)=some (((xs.drop a).take b).map .int)) tc te (qJT caps ρ) (st++[.rw (((xs.drop a).take b).map .int)]) fun ys s2=>P (.lst s2.length) (s2++[.rw ys])):qBx (qCN (qIo ta (qBF tl) (qBF th))) tc te caps ρ st P:=by
  refine h _ (h1 _ (h2 _ ?_))
  obtain⟨o,eo,io⟩:=hs
  show (match st[n]? with | some o=>_ | none=>False)
  rw [eo]
  show (match qd (st++[.rw (cutD o.items (some (a:Int)) (some ((a:Int)+(b:Nat))))]) (.lst st.length) with | some xs=>_ | none=>False)
  rw [io,K17.qRE,qCW qj]
  exact q
theorem qHx {ds:List Dt} {st:Sto} {Pd:VD} (h:qE0 ds st Pd):qEq (Ed Pd) (qU ["script", "first", "many", "cells", "k", "rights", "boxes", "marks"] ds) st:=by
  obtain⟨sc,ns,rfl,hs,hP⟩:=h
  refine q8 (qAY (qH (qC (i:=0) rfl) (qH qF qT)) ⟨sc,0,ns,rfl,hs,?_⟩)
  generalize ns.getD 0 0=f
  obtain⟨k,hk,k16⟩:=qk (v:=f) (n:=16) (by decide)
  have hk:f%16=((k:Nat):Int):=hk
  have em:=qCM (qF (d:=.int 8)) (qV (qF (d:=.int 1)) (qY (qC (i:=1) (ρ:=[some (.lst sc),some (.int f),none,none,none,none,none,none]) (st:=st) rfl) (qF (d:=.int 16)) (by decide))) (.inl ⟨by lia,by lia⟩)
  rw [hk,show (8:Int) * (1+((k:Nat):Int))=((8 * (1+k):Nat):Int) by lia] at em
  refine q8 (em _ ?_)
  have hl:((ns.drop 3).take (8 * (1+k))).length≤8 * (1+k):=by rw [List.length_take];exact Nat.min_le_left _ _
  refine q8 (qVJ (a:=3) (b:=8 * (1+k)) (qC (i:=0) rfl) qF (qV qF (qC (i:=2) rfl)) hs (qKb (Q:=fun v=>0≤v∧v<65536) (fun s1 x1=>qCW (x1 _ _ qj)) (by rw [List.length_map];lia) (fun i d hi s1 x1=>?_) fun cs s1 hc hq x1=>?_))
  · rw [List.getElem?_map] at hi
    obtain⟨c,-,rfl⟩:=Option.map_eq_some_iff.mp hi
    exact qO5 (many:=8 * (1+k)) (qC (i:=0) rfl) (qC (i:=1) rfl) (by lia)
  · rw [List.length_map] at hc
    refine q8 ?_
    have x2:qx st (s1++[SO.rw (cs.map .int)]):=((qx.app _ _).trans x1).trans (.app _ _)
    have hs1:st.length≤s1.length:=by
      have:=L3.qq (x1 _ _ (qj (st:=st)))
      lia
    exact qTY (pg:=1+k) (by lia) (by lia) hs1 (by lia) hq qj x2 hP
end K76
namespace K76
open PySem PySem.Spec PyProof.Rows L2 L3 KH KS K06 K17 KN
open KR (Ev EvB qC qF qAA seq1 q8 rdR qe qH qT qAC qAE qh)
abbrev qFg:TSD:=(tseq (qR (qAf (qA (qE qL (qB 0) (qD (Dt.int 0))) (qA (qE qL (qB 0) (qD (Dt.int 2))) qG))) (qP 2)) (tseq (qX (qI K06.qAI (qA (qI K06.qAI (qA (qB 0) (qA (qD (Dt.int 3)) (qA (qB 2) qG)))) (qA (qD (Dt.int 0)) (qA (qB 1) qG))))) qJ))
abbrev qIL:TSD:=(tseq (qX (qE (qZ false) (qE qL (qI K01.qBo (qA (qE qL (qE qL (qB 0) (qD (Dt.int 5))) (qE qL (qB 0) (qD (Dt.int 0)))) qG)) (qD (Dt.int 0))) (qD (Dt.str "hear")))) qJ)
theorem qJA {ds:List Dt} {st:Sto} {Pd:VD} (h:qJC ds st Pd):qFg (Ed Pd) (qU ["state", "ring", "saved"] ds) st:=by
  obtain⟨g,ring,rfl,hP⟩:=h
  refine⟨by show 2≤sizeLine;decide,?_⟩
  refine⟨_,3,.tup [.int g.p,msD g.m],rfl,by decide,by show (3:Int)<6;decide,by show 6≤200;decide,?_⟩
  exact⟨_,0,.int ring,rfl,by decide,by show (0:Int)<6;decide,by show 6≤200;decide,hP⟩
theorem qTj:∀ w:Int,0≤w→w<16→(eqD 8 (.str (K01.wordOf w)) (.str "hear") != false)=decide (w=13):=by
  intro w h0 h1
  rcases (show w=0∨w=1∨w=2∨w=3∨w=4∨w=5∨w=6∨w=7∨w=8∨w=9∨w=10∨w=11∨w=12∨w=13∨w=14∨w=15 by lia) with rfl | rfl | rfl | rfl | rfl | rfl | rfl | rfl | rfl | rfl | rfl | rfl | rfl | rfl | rfl | rfl<;>decide +kernel
theorem qLG {ds:List Dt} {st:Sto} {Pd:VD} (h:qHR ds st Pd):qIL (Ed Pd) (qU ["state"] ds) st:=by
  obtain⟨g,rfl,ok,hp,hP⟩:=h
  have p0:=ok.p0
  have hc:=qH8 ok g.p.toNat
  have e:Ev (qE qL (qE qL (qB 0) (qD (Dt.int 5))) (qE qL (qB 0) (qD (Dt.int 0)))) [some g.d] st (.int (g.cs.getD g.p.toNat 0)):=by
    refine qBz (d:=.tup (g.cs.map .int)) (xs:=g.cs) (i:=g.p.toNat) (qAA (j:=5) (qC (i:=0) rfl) rfl) rfl ?_ (by lia)
    rw [show ((g.p.toNat:Nat):Int)=g.p by lia]
    exact qAA (j:=0) (qC (i:=0) rfl) rfl
  refine e _ ⟨_,rfl,?_⟩
  show qZ false (.str (K01.wordOf (g.cs.getD g.p.toNat 0 / 4096%16))) (.str "hear") st _
  refine⟨rfl,rfl,?_⟩
  rw [qTj _ (by lia) (by lia)]
  rw [show g.cs.getD g.p.toNat 0 / 4096%16=g.cs.getD g.p.toNat 0 / 4096 by lia]
  exact hP
end K76
namespace K76
open PySem PySem.Spec PyProof.Rows L2 L3 KH KS K06 K17 KN
open KR (Ev EvB qC qF qAA seq1 q8 ifS qy evb qAQ qAK qz qAN qAy qAm qAE qAe ql qAd qA2 qh qT qH qe qAL rdR qV qAP qAC q9 qGV)
open K31 (EvX qBR qAl xb qAS qAY qBc qi qk qBm qDQ qBs qEG qFn)
open K40 (qW qBg qBt qBn qBa qBX qA6 qCG qAF)
abbrev qSE:TSD:=(tseq (qX (qE (qJZ false) (qB 7) (qAc (qA (qB 3) (qA (qB 4) qG))))) qJ)
abbrev qUQ:TSD:=(tseq (qo (qM (qE (qZ true) (qBx (qCN (qB 12)) (qM (qI qAs (qA (qB 0) (qA (qD (Dt.ty "bool")) qG)))) (qB 0) []) (qAc qG))) (tseq (qX (qD (Dt.bl false))) qJ) qJ) qSE)
abbrev qUj:TSD:=(tseq (qR (qAn "Runner" "counts" K76.qEt (qB 10) qG) (qP 12)) (tseq (qo (qBl (qBG (qM (qI qAs (qA (qB 12) (qA (qD (Dt.ty "tuple")) qG))))) (qM (qE (qZ true) (qB 12) (qAf (qA (qD (Dt.int 0)) (qA (qE qL (qB 8) (qD (Dt.int 3))) (qA (qD (Dt.int 0)) (qA (qD (Dt.int 0)) (qA (qD (Dt.int 0)) qG))))))))) (tseq (qX (qD (Dt.bl false))) qJ) qJ) qUQ))
abbrev qSJ:TSD:=(tseq (qo (qBl (qM (qE (qZ true) (qB 11) (qB 8))) (qBl (qM (qE (qZ true) (qAn "Runner" "run" K76.qFr (qB 10) (qA (qB 6) qG)) (qB 8))) (qBl (qM (qE (qZ true) (qAn "Runner" "state" K76.qGM (qB 10) qG) (qE qL (qB 8) (qD (Dt.int 1))))) (qM (qE (qZ true) (qAn "Runner" "kept" K76.qGD (qB 10) qG) (qAc qG)))))) (tseq (qX (qD (Dt.bl false))) qJ) qJ) qUj)
abbrev qUx:TSD:=(tseq (qo (qM (qE (qZ false) (qB 6) (qD (Dt.int 400)))) (tseq (qR (qAn "Runner" "run" (fun ds st P=>K76.qFr (ds++[(Dt.int 400)]) st P) (qD9 "Runner" K76.qEf (qA (qB 1) (qA (qB 3) (qA (qB 4) (qA (qB 5) (qA (qAc qG) qG)))))) qG) (qP 11)) qJ) qJ) qSJ)
abbrev lw8:TSD:=(tseq (qR (qD9 "Runner" K76.qEf (qA (qB 1) (qA (qE qL (qB 7) (qD (Dt.int 0))) (qA (qE qL (qB 7) (qD (Dt.int 1))) (qA (qB 5) (qA (qAc qG) qG)))))) (qP 10)) (tseq (qR (qAn "Runner" "run" K76.qFr (qB 10) (qA (qB 6) qG)) (qP 11)) qUx))
abbrev lw6:TSD:=(tseq (qR (qAc (qA (qI qEy (qA (qB 3) qG)) (qA (qI qEy (qA (qB 4) qG)) qG))) (qP 7)) (tseq (qR (qI K76.qCS (qA (qB 1) (qA (qB 3) (qA (qB 4) (qA (qB 5) (qA (qB 6) qG)))))) (qAj 2 (qAq (qP 8) (qAq (qP 9) qB6)))) lw8))
abbrev lw3:TSD:=(tseq (qR (qI K76.qE5 (qA (qI K76.qBY (qA (qB 0) (qA (qD (Dt.int 2)) qG))) qG)) (qP 4)) (tseq (qR (qE qAB (qE qAk (qI K76.qBY (qA (qB 0) (qA (qD (Dt.int 2)) qG))) (qD (Dt.int 20))) (qE L3.qAT (qI qBE (qA (qE qL (qB 1) (qD (Dt.int 5))) qG)) (qD (Dt.int 1)))) (qP 5)) (tseq (qR (qE qL (qAc (qA (qD (Dt.int 40)) (qA (qD (Dt.int 400)) qG))) (qE qAB (qE qAk (qI K76.qBY (qA (qB 0) (qA (qD (Dt.int 1)) qG))) (qD (Dt.int 9))) (qD (Dt.int 2)))) (qP 6)) lw6)))
abbrev qRf:TSD:=(tseq (qR (qI K76.qE0 (qA (qB 0) qG)) (qP 1)) (tseq (qR (qI K76.qBY (qA (qB 0) (qA (qD (Dt.int 1)) qG))) (qP 2)) (tseq (qR (qBx (qBN (qE qAB (qB 2) (qE qL (qAc (qA (qD (Dt.int 9)) (qA (qD (Dt.int 61)) qG))) (qE qAB (qB 2) (qD (Dt.int 2)))))) (fun x st P=>P true st) (qE qAB (qI K76.qAW (qA (qB 1) (qA (qB 0) qG))) (qD (Dt.int 65536))) [(2, "second")]) (qP 3)) lw3)))
section
variable {ρ:Rho} {st s:Sto} {to te ta tb:TD} {t:TAD} {sp:RDL} {nm m:Str} {n:Nat} {fs:List (Str×Dt)}
theorem qSV {c2:TBD} {P:Bool→Sto→Prop} (h:Ev ta ρ st (.bl false)) (q:c2 ρ st P):qBl (qM ta) c2 ρ st P:=h _ (qBK q)
theorem orM {c2:TBD} {P:Bool→Sto→Prop} (hv:Ev to ρ st (.ins n)) (ho:st[n]? = some (.ob nm fs)) (hl:fs.lookup m=none) (h:t ρ st fun ds st2=>sp (.ins n::ds) st2 fun d s1=>qBl (qM (qE (qZ true) (qD d) tb)) c2 ρ s1 P):qBl (qM (qE (qZ true) (qAn nm m sp to t) tb)) c2 ρ st P:=qA6 hv ho hl h
theorem bM {P:Bool→Sto→Prop} (hv:Ev to ρ st (.ins n)) (ho:st[n]? = some (.ob nm fs)) (hl:fs.lookup m=none) (h:t ρ st fun ds st2=>sp (.ins n::ds) st2 fun d s1=>qM (qE (qZ true) (qD d) tb) ρ s1 P):qM (qE (qZ true) (qAn nm m sp to t) tb) ρ st P:=qA6 hv ho hl h
theorem qI7 {l:List Dt} (h:Ev ta ρ st (.tup l)) (h2:Ev tb ρ st (.tup l)) (ok:okD 8 (.tup l)=true):Ev (qE (qZ true) ta tb) ρ st (.bl false):=fun P hp=>h _ (h2 _ (by
  refine⟨ok,ok,?_⟩
  rw [qEY ok];exact hp))
theorem qRi {P:Bool→Sto→Prop} (h:Ev ta ρ st (.lst n)) (hn:st[n]? = some (.rw [])) (q:P false (st++[.rw []])):qM (qE (qZ true) ta (qAc qG)) ρ st P:=h _ ⟨by show 0≤sizeLine;decide,by
  show (match (st++[SO.rw []])[n]?,(st++[SO.rw []])[st.length]? with | some a,some b=>_ | _,_=>_)
  rw [qj,(qx.app st (SO.rw [])) _ _ hn]
  exact⟨rfl,rfl,q⟩⟩
end
theorem qQ4 (r:Str×RS×Nat):okD 8 (qHb r)=true:=by
  have a1:okD 7 r.2.1.g.d=true:=by
    have b1:∀ xs:List Int,okD 6 (.tup (xs.map .int))=true:=fun xs=>all_ints xs 5
    have b3:okD 6 (svD r.2.1.g.sv)=true:=by cases r.2.1.g.sv<;>rfl
    show (okD 6 (.int r.2.1.g.p)&&(okD 6 (.tup (r.2.1.g.bs.map .int))&&(okD 6 (msD r.2.1.g.m)&&(okD 6 (svD r.2.1.g.sv)&&(okD 6 (.tup (r.2.1.g.rs.map .int))&&(okD 6 (.tup (r.2.1.g.cs.map .int))&&true))))))=true
    rw [b1,b1,b1,b3];rfl
  have a2:okD 7 (.tup (r.2.1.told.map .int))=true:=all_ints _ 6
  show (okD 7 (.str r.1)&&(okD 7 r.2.1.g.d&&(okD 7 (.tup (r.2.1.told.map .int))&&(okD 7 (.int (r.2.2:Nat))&&(okD 7 (.int (r.2.1.heard:Nat))&&(okD 7 (.int (r.2.1.rung:Nat))&&true))))))=true
  rw [a1,a2];rfl
theorem qL2 (R:RSt):okD 8 (qD6 R)=true:=qQ4 (R.ended.getD "more",R.s,R.done)
noncomputable def RW (g:GS) (sec:Int) (G B:Nat) (ring:Int) (m Hh:Nat) (D:Dt) (a9 a10 a11 a12:Option Dt):Rho:=[some (.lst 0),some g.d,some (.int sec),some (.lst G),some (.lst B),some (.int ring),some (.int (m:Nat)),some (.lst Hh),some D,a9,a10,a11,a12]
structure WI (G B Hh:Nat) (h:Hd) (s:Sto):Prop where
  a:s[G]? = some (.rw (h.given.map .int))
  b:s[B]? = some (.rw (h.bells.map .int))
  c:∃ G2 B2,s[Hh]? = some (.rw [.lst G2,.lst B2])∧s[G2]? = some (.rw (h.given.map .int))∧s[B2]? = some (.rw (h.bells.map .int))
section
variable {g:GS} {sec ring:Int} {G B m Hh:Nat} {a9 a11 a12:Option Dt} {Fr s:Sto} {h:Hd} {R:RSt} {Pd:VD}
theorem WI.ext {s':Sto} (w:WI G B Hh h s) (x:qx s s'):WI G B Hh h s':=by
  obtain⟨G2,B2,c1,c2,c3⟩:=w.c
  exact⟨x _ _ w.a,x _ _ w.b,G2,B2,x _ _ c1,x _ _ c2,x _ _ c3⟩
theorem qQy {D:Dt} {a10:Option Dt} (w:WI G B Hh h s) (hP:∀ st',Pd (.bl true) st'):qSE (Ed Pd) (RW g sec G B ring m Hh D a9 a10 a11 a12) s:=by
  obtain⟨G2,B2,c1,c2,c3⟩:=w.c
  refine (⟨by show 2≤sizeLine;decide,?_⟩:_∧_)
  show (match (s++[SO.rw [Dt.lst G,.lst B]])[Hh]?,(s++[SO.rw [Dt.lst G,.lst B]])[s.length]? with | some a,some b=>_ | _,_=>_)
  have x:qx s (s++[SO.rw [Dt.lst G,.lst B]]):=.app _ _
  rw [qj,x _ _ c1]
  refine⟨⟨[G2,B2],[G,B],rfl,rfl,rfl,fun k i j hi hj=>?_⟩,hP _⟩
  have oks:∀ (xs:List Int),(xs.map Dt.int).all (okD 8)=true:=fun xs=>by rw [List.all_eq_true];intro d hd;obtain⟨v,_,rfl⟩:=List.mem_map.mp hd;rfl
  match k,hi,hj with
  | 0,hi,hj=>cases hi;cases hj;exact⟨_,x _ _ c2,x _ _ w.a,oks _⟩
  | 1,hi,hj=>cases hi;cases hj;exact⟨_,x _ _ c3,x _ _ w.b,oks _⟩
  | k+2,hi,hj=>cases hi
end
end K76
namespace K76
open PySem PySem.Spec PyProof.Rows L2 L3 KH KS K06 K17 KN
open KR (Ev EvB qC qF qAA seq1 q8 ifS qy evb qAQ qAK qz qAN qAy qAm qAE qAe ql qAd qA2 qh qT qH qe qAL rdR qV qAP qAC q9 qGV)
open K31 (EvX qBR qAl xb qAS qAY qBc qi qk qBm qDQ qBs qEG qFn)
open K40 (qW qBg qBt qBn qBa qBX qA6 qCG qAF)
section
variable {g:GS} {sec ring:Int} {G B m Hh:Nat} {a9 a11 a12:Option Dt} {Fr s:Sto} {h:Hd} {R:RSt} {Pd:VD}
theorem qVF {ρ:Rho} {st:Sto} {ta te tb:TD} {r:RD2} {tc:TBD} {caps:List (Nat×Str)} {l:List Dt} {P:Bool→Sto→Prop} (h:Ev ta ρ st (.tup l)) (q:qFi l (fun st'=>qd st' (.tup l)=some l) tc te (qJT caps ρ) st fun ys s2=>qM (qE r (qD (.lst s2.length)) tb) ρ (s2++[.rw ys]) P):qM (qE r (qBx (qCN ta) tc te caps) tb) ρ st P:=h _ q
noncomputable def qI1 (n:Nat):List Dt:=[.int 0,.int (n:Nat),.int 0,.int 0,.int 0]
theorem qQn {D:Dt} {a10:Option Dt} {k:Nat} (w:WI G B Hh h s) (hP:∀ st',Pd (.bl true) st'):qUQ (Ed Pd) (RW g sec G B ring m Hh D a9 a10 a11 (some (.tup (qI1 k)))) s:=by
  have key:∀ P:Bool→Sto→Prop,P false (s++[SO.rw []]++[SO.rw []])→qM (qE (qZ true) (qBx (qCN (qB 12)) (qM (qI qAs (qA (qB 0) (qA (qD (Dt.ty "bool")) qG)))) (qB 0) []) (qAc qG)) (RW g sec G B ring m Hh D a9 a10 a11 (some (.tup (qI1 k)))) s P:=fun P hp=>by
    refine qVF (ρ:=RW g sec G B ring m Hh D a9 a10 a11 (some (.tup (qI1 k)))) (l:=qI1 k) (ta:=qB 12) (qC (i:=12) rfl) ?_
    refine⟨fun _ ys s'=>ys=[]∧s'=s,⟨rfl,rfl⟩,(fun _ _ s' _ q=>rfl),?_,?_⟩
    · rintro i d ys s' hd ⟨rfl,rfl⟩
      obtain⟨v,rfl⟩:∃ v,d = .int v:=by
        have:=List.mem_of_getElem? hd
        simp only [qI1,List.mem_cons,List.not_mem_nil,or_false] at this
        rcases this with rfl | rfl | rfl | rfl | rfl<;>exact⟨_,rfl⟩
      exact⟨by show 0<sizeLine;decide,⟨by decide,qBK ⟨rfl,rfl⟩⟩⟩
    · rintro ys s' ⟨rfl,rfl⟩
      exact qRi qF qj hp
  refine seq1 (key _ (qBK ?_))
  show qSE (Ed Pd) (RW g sec G B ring m Hh D a9 a10 a11 (some (.tup (qI1 k)))) (s++[SO.rw []]++[SO.rw []])
  exact qQy (w.ext ((qx.app _ _).trans (.app _ _))) hP
theorem qQE (a:RA Fr s h R R.done) (w:WI G B Hh h s) (hP:∀ st',Pd (.bl true) st'):qUj (Ed Pd) (RW g sec G B ring m Hh (qD6 R) a9 (some (.ins Fr.length)) a11 a12) s:=by
  refine q8 (qA6 (qC (i:=10) rfl) a.o rfl ⟨Fr,h,R,R.done,rfl,a,?_⟩)
  have e3:Ev (qE qL (qB 8) (qD (Dt.int 3))) (RW g sec G B ring m Hh (qD6 R) a9 (some (.ins Fr.length)) a11 (some (.tup (qI1 R.done)))) s (.int (R.done:Nat)):=qAA (j:=3) (qC (i:=8) rfl) rfl
  refine qy (qAK (qAQ (evb (qGV (qC (i:=12) (d:=.tup (qI1 R.done)) rfl)))) fun _=>evb (qI7 (l:=qI1 R.done) (qC (i:=12) rfl) (qe (qH qF (qH e3 (qH qF (qH qF (qH qF qT))))) (by show 5≤sizeLine;decide)) rfl)) (fun hb=>by cases hb) fun _=>?_
  exact qQn w hP
theorem qQi (a:RA Fr s h R R.done) (w:WI G B Hh h s) (hF:Hh<Fr.length∧G<Fr.length∧B<Fr.length) (ho:h.Ok) (ok:R.Ok) (hl:R.s.g.rs.length≤100) (hm:m≤1000) (again:qAu h (m - R.done) R=R) (wk:∀ s',RA Fr s' h R R.done→WI G B Hh h s') (hP:∀ st',Pd (.bl true) st'):qSJ (Ed Pd) (RW g sec G B ring m Hh (qD6 R) a9 (some (.ins Fr.length)) (some (qD6 R)) a12) s:=by
  refine seq1 (qSV (qI7 (qC (i:=11) rfl) (qC (i:=8) rfl) (qL2 R)) ?_)
  refine orM (qC (i:=10) rfl) a.o rfl (qC (i:=6) rfl _ ⟨Fr,h,R,m,rfl,a,ho,ok,hl,hm,fun s1 a1 k1=>?_⟩)
  rw [again] at a1 ⊢
  refine qSV (qI7 qF (qC (i:=8) rfl) (qL2 R)) ?_
  refine orM (qC (i:=10) rfl) a1.o rfl ⟨Fr,h,R,R.done,rfl,a1,?_⟩
  refine qSV (qI7 qF (qAA (j:=1) (qC (i:=8) rfl) rfl) (qUw R.s.g)) ?_
  refine bM (qC (i:=10) rfl) a1.o rfl ⟨Fr,h,R,R.done,rfl,a1,fun s2 k x2 e2=>?_⟩
  refine qRi qF e2 (qBK ?_)
  have x3:=x2.trans (.app s2 (SO.rw []))
  exact qQE (a1.ext x3) ((wk s1 a1).ext x3) hP
end
end K76
namespace K76
open PySem PySem.Spec PyProof.Rows L2 L3 KH KS K06 K17 KN
open KR (Ev EvB qC qF qAA seq1 q8 ifS qy evb qAQ qAK qz qAN qAy qAm qAE qAe ql qAd qA2 qh qT qH qe qAL rdR qV qAP qAC q9 qGV)
open K31 (EvX qBR qAl xb qAS qAY qBc qi qk qBm qDQ qBs qEG qFn)
open K40 (qW qBg qBt qBn qBa qBX qA6 qCG qAF)
theorem qRQ {ρ:Rho} {st:Sto} {t0 t1 t2 t3:TD} {d0 d1 d2 d3:Dt} {sp:RDL} {nm:Str} {P:VD} (h0:Ev t0 ρ st d0) (h1:Ev t1 ρ st d1) (h2:Ev t2 ρ st d2) (h3:Ev t3 ρ st d3) (hs:sp [.ins (st++[SO.rw []]).length,d0,d1,d2,d3,.lst st.length] (st++[SO.rw []]++[.ob nm []]) fun d st2=>d = .non∧P (.ins (st++[SO.rw []]).length) st2):qD9 nm sp (qA t0 (qA t1 (qA t2 (qA t3 (qA (qAc qG) qG))))) ρ st P:=h0 _ (h1 _ (h2 _ (h3 _ ⟨by show 0≤sizeLine;decide,hs⟩)))
theorem qUc {ρ:Rho} {st:Sto} {t t0:TAD} {sp sp0:RDL} {nm nm0 m:Str} {P:VD} (h:qD9 nm0 sp0 t0 ρ st fun x st1=>qAn nm m sp (qD x) t ρ st1 P):qAn nm m sp (qD9 nm0 sp0 t0) t ρ st P:=h
theorem qO3 {g:GS} (o:Ok2 g):(R0 g).Ok:=⟨o,⟨[],_,rfl⟩,Nat.le_refl _,⟨Nat.le_refl _,.inl rfl⟩,Nat.le_refl _⟩
section
variable {g:GS} {sec:Int} {G B m Hh:Nat} {a9:Option Dt} {Fr s:Sto} {h:Hd} {R:RSt} {Pd:VD}
theorem qNj {h:Hd}:∀ (n:Nat) {R:RSt},(qAu h n R).s.g.rs.length=R.s.g.rs.length
  | 0,R=>rfl
  | n+1,R=>by
    unfold qAu
    split
    · rw [qNj n,qOL]
    · rfl
theorem qOJ (w:WI G B Hh h Fr) (a:RA Fr s h (qAu h m (R0 g)) (qAu h m (R0 g)).done) (ho:h.Ok) (o2:Ok2 g) (hl:g.rs.length≤100) (hm:m≤1000) (hP:∀ st',Pd (.bl true) st'):qSJ (Ed Pd) (RW g sec G B h.ring m Hh (qD6 (qAu h m (R0 g))) a9 (some (.ins Fr.length)) (some (qD6 (qAu h m (R0 g)))) none) s:=by
  obtain⟨G2,B2,c1,c2,c3⟩:=w.c
  exact qQi a (w.ext a.x) ⟨L3.qq c1,L3.qq w.a,L3.qq w.b⟩ ho (qOu ho m (qO3 o2)) (by rw [qNj];exact hl) hm (qMV (R:=R0 g) (m:=m) rfl (Nat.zero_le _)) (fun s' a'=>w.ext a'.x) hP
theorem qP3 (w:WI G B Hh h Fr) (a:RA Fr s h (qAu h m (R0 g)) (qAu h m (R0 g)).done) (ho:h.Ok) (o2:Ok2 g) (hl:g.rs.length≤100) (hm:m≤1000) (hP:∀ st',Pd (.bl true) st'):qUx (Ed Pd) (RW g sec G B h.ring m Hh (qD6 (qAu h m (R0 g))) a9 (some (.ins Fr.length)) (some (qD6 (qAu h m (R0 g)))) none) s:=by
  refine qy (evb (ql (qC (i:=6) rfl) qF)) (fun hb=>?_) fun _=>qOJ w a ho o2 hl hm hP
  have hb:=of_decide_eq_true hb
  obtain rfl:m=400:=by lia
  have ws:=w.ext a.x
  have xs:qx s (s++[SO.rw []]):=.app _ _
  refine q8 (qUc (qRQ (qC (i:=1) rfl) (qC (i:=3) rfl) (qC (i:=4) rfl) (qC (i:=5) rfl) ⟨s++[SO.rw []],g,G,B,s.length,h,rfl,rfl,⟨_,xs _ _ ws.a,rfl⟩,⟨_,xs _ _ ws.b,rfl⟩,⟨_,qj,rfl⟩,fun s1 a1=>⟨rfl,?_⟩⟩))
  refine qA6 qF a1.o rfl ⟨s++[SO.rw []],h,R0 g,400,rfl,a1,ho,qO3 o2,hl,by decide,fun s2 a2 k2=>?_⟩
  exact qOJ w (a.ext (xs.trans a2.x)) ho o2 hl hm hP
theorem qTh (w:WI G B Hh h s) (ho:h.Ok) (o2:Ok2 g) (hl:g.rs.length≤100) (hm:m≤1000) (hP:∀ st',Pd (.bl true) st'):lw8 (Ed Pd) (RW g sec G B h.ring m Hh (qHb (qIm h.given h.bells h.ring m 0 (s0 g))) a9 none none none) s:=by
  have e:qD6 (qAu h m (R0 g))=qHb (qIm h.given h.bells h.ring m 0 (s0 g)):=qL4 m rfl
  rw [← e]
  obtain⟨G2,B2,c1,c2,c3⟩:=w.c
  have xs:qx s (s++[SO.rw []]):=.app _ _
  refine q8 (qRQ (qC (i:=1) rfl) (qAC (i:=0) (d:=.lst Hh) (qC (i:=7) rfl) (qCW c1) qF rfl) (qAC (i:=1) (d:=.lst Hh) (qC (i:=7) rfl) (qCW c1) qF rfl) (qC (i:=5) rfl) ⟨s++[SO.rw []],g,G2,B2,s.length,h,rfl,rfl,⟨_,xs _ _ c2,rfl⟩,⟨_,xs _ _ c3,rfl⟩,⟨_,qj,rfl⟩,fun s1 a1=>⟨rfl,?_⟩⟩)
  refine q8 (qA6 (qC (i:=10) rfl) a1.o rfl (qC (i:=6) rfl _ ⟨s++[SO.rw []],h,R0 g,m,rfl,a1,ho,qO3 o2,hl,hm,fun s2 a2 k2=>?_⟩))
  exact qP3 (w.ext xs) a2 ho o2 hl hm hP
end
end K76
namespace K76
open PySem PySem.Spec PyProof.Rows L2 L3 KH KS K06 K17 KN
open KR (Ev EvB qC qF qAA seq1 q8 ifS qy evb qAQ qAK qz qAN qAy qAm qAE qAe ql qAd qA2 qh qT qH qe qAL rdR qV qAP qAC q9 qGV)
open K31 (EvX qBR qAl xb qAS qAY qBc qi qk qBm qDQ qBs qEG qFn)
open K40 (qW qBg qBt qBn qBa qBX qA6 qCG qAF)
theorem qD4.ext {st st':Sto} {n:Nat} {xs:List Int} (h:qD4 st n xs) (e:qx st st'):qD4 st' n xs:=by
  obtain⟨o,a,b⟩:=h
  exact⟨o,e _ _ a,b⟩
theorem qGI {ρ:Rho} {st:Sto} {sc k:Nat} {ns:List Int} (h:ρ[0]? = some (some (.lst sc))) (hs:qD4 st sc ns):Ev (qI K76.qBY (qA (qB 0) (qA (qD (Dt.int (k:Nat))) qG))) ρ st (.int (ns.getD k 0)):=qh (qH (qC (i:=0) h) (qH qF qT)) fun P hp=>⟨sc,k,ns,rfl,hs,hp⟩
theorem qSi {ρ:Rho} {st:Sto} {ta te:TD} {tc:TBD} {caps:List (Nat×Str)} {n:Nat} {P:VD} (h:EvX ta ρ st (.int (n:Nat))) (hn:n≤1000) (q:∀ s,qx st s→qFi (qCr 0 n) (fun _=>True) tc te (qJT caps ρ) s fun ys s2=>P (.lst s2.length) (s2++[.rw ys])):qBx (qBN ta) tc te caps ρ st P:=h _ fun s x=>(by
  refine⟨by lia,by lia,?_⟩
  rw [Int.toNat_natCast];exact q s x)
section
variable {g:GS} {sec:Int} {G B m:Nat} {s:Sto} {h:Hd} {Pd:VD}
theorem qKc {ρ:Rho} {st:Sto} {te:TD} {t:TAD} {n:Nat} {xs:List Dt} {P:List Dt→Sto→Prop} (h:Ev te ρ st (.lst n)) (hn:st[n]? = some (.rw xs)) (q:t ρ (st++[.rw xs]) fun ds s2=>P (.lst st.length::ds) s2):qA (qI qEy (qA te qG)) t ρ st P:=h _ (by
  show (match qd st (.lst n) with | some xs=>_ | none=>_)
  rw [qCW hn];exact q)
theorem qVo {ρ:Rho} {st:Sto} {d x y:Dt} {gs:qIi} {P:Rho→Sto→Prop} (h:qd st d=some [x,y]) (q:gs [x,y] ρ st P):qAj 2 gs d ρ st P:=by
  unfold qAj
  rw [h];exact⟨rfl,q⟩
theorem qTG (eG:s[G]? = some (.rw (h.given.map .int))) (eB:s[B]? = some (.rw (h.bells.map .int))) (ho:h.Ok) (o2:Ok2 g) (hl:g.rs.length≤100) (hm:m≤1000) (hP:∀ st',Pd (.bl true) st'):lw6 (Ed Pd) [some (.lst 0),some g.d,some (.int sec),some (.lst G),some (.lst B),some (.int h.ring),some (.int (m:Nat)),none,none,none,none,none,none] s:=by
  have x1:qx s (s++[SO.rw (h.given.map .int)]):=.app _ _
  refine qMJ (qKc (qC (i:=3) rfl) eG (qKc (qC (i:=4) rfl) (x1 _ _ eB) ⟨by show 2≤sizeLine;decide,?_⟩))
  have x2:qx (s++[SO.rw (h.given.map .int)]) (s++[SO.rw (h.given.map .int)]++[SO.rw (h.bells.map .int)]):=.app _ _
  have x3:qx (s++[SO.rw (h.given.map .int)]++[SO.rw (h.bells.map .int)]) (s++[SO.rw (h.given.map .int)]++[SO.rw (h.bells.map .int)]++[SO.rw [.lst s.length,.lst (s++[SO.rw (h.given.map .int)]).length]]):=.app _ _
  have w:WI G B (s++[SO.rw (h.given.map .int)]++[SO.rw (h.bells.map .int)]).length h (s++[SO.rw (h.given.map .int)]++[SO.rw (h.bells.map .int)]++[SO.rw [.lst s.length,.lst (s++[SO.rw (h.given.map .int)]).length]]):=⟨x3 _ _ (x2 _ _ (x1 _ _ eG)),x3 _ _ (x2 _ _ (x1 _ _ eB)),_,_,qj,x3 _ _ (x2 _ _ qj),x3 _ _ qj⟩
  generalize (s++[SO.rw (h.given.map .int)]++[SO.rw (h.bells.map .int)]).length=Hh at w ⊢
  generalize s++[SO.rw (h.given.map .int)]++[SO.rw (h.bells.map .int)]++[SO.rw [.lst s.length,.lst (s++[SO.rw (h.given.map .int)]).length]]=s4 at w ⊢
  refine seq1 (qAY (qH (qC (i:=1) rfl) (qH (qC (i:=3) rfl) (qH (qC (i:=4) rfl) (qH (qC (i:=5) rfl) (qH (qC (i:=6) rfl) qT))))) ⟨g,G,B,h,m,rfl,w.a,w.b,ho,o2,hm,fun k n s5 x5 e5=>?_⟩)
  exact qVo (qCW e5) (qTh (w.ext x5) ho o2 hl hm hP)
end
theorem qTJ {ds:List Dt} {st:Sto} {Pd:VD} (h:qJh ds st Pd):qRf (Ed Pd) (qU ["script", "state", "second", "given", "bells", "ring", "most", "handed", "due", "states", "runner", "found", "counts"] ds) st:=by
  obtain⟨ns,rfl,rfl,-,hP⟩:=h
  have hs:qD4 [SO.ro (ns.map .int)] 0 ns:=⟨_,rfl,rfl⟩
  refine q8 (qAY (qH (qC (i:=0) rfl) qT) ⟨0,ns,rfl,hs,fun g s1 o2 hr x1=>?_⟩)
  have hs1:=qD4.ext hs x1
  refine q8 (qGI (k:=1) rfl hs1 _ ?_)
  generalize ns.getD 1 0=sec
  obtain⟨k,hk,k2⟩:=qk (v:=sec) (n:=2) (by decide)
  have hk:sec%2=((k:Nat):Int):=hk
  obtain⟨y,ey,y0,y1⟩:∃ y:Nat,[Dt.int 9,.int 61][k]? = some (.int (y:Nat))∧0<y∧y≤61:=by
    rcases (by lia:k=0∨k=1) with rfl | rfl
    · exact⟨9,rfl,by decide,by decide⟩
    · exact⟨61,rfl,by decide,by decide⟩
  obtain⟨n,hn,n1⟩:=qk (v:=sec) (n:=y) y0
  have hn:sec%((y:Nat):Int)=((n:Nat):Int):=hn
  refine q8 (qSi (n:=n) (by rw [← hn];exact qFn (qC (i:=2) rfl) (qBm (ds:=[.int 9,.int 61]) (v:=(k:Nat)) (qH qF (qH qF qT)) (by decide) (fun s _=>by rw [← hk];exact qAl (qY (qC (i:=2) rfl) qF (by decide))) (qBQ ey)) (by lia)) (by lia) fun s2 x2=>qKb (Q:=fun v=>0≤v∧v<65536) (fun _ _=>trivial) (by rw [qBT];lia) (fun i d hi s3 x3=>?_) fun vs s3 hv hq x3=>?_)
  · have hil:=(qBS hi).1
    k_dat 0"r57"
    subst hv
    exact qLk (qAl (qY (qA1 (k:=i) (qC (i:=1) rfl) (qC (i:=0) rfl) (by lia)) qF (by decide))) ⟨Int.emod_nonneg _ (by decide),Int.emod_lt_of_pos _ (by decide)⟩
  rw [qBT] at hv
  have eG:(s3++[SO.rw (vs.map .int)])[s3.length]? = some (.rw (vs.map .int)):=qj
  have hs4:=qD4.ext hs1 ((x2.trans x3).trans (.app _ (SO.rw (vs.map .int))))
  show lw3 (Ed Pd) [some (.lst 0),some g.d,some (.int sec),some (.lst s3.length),none,none,none,none,none,none,none,none,none] (s3++[SO.rw (vs.map .int)])
  generalize s3.length=G at eG ⊢
  generalize s3++[SO.rw (vs.map .int)]=s4 at eG hs4 ⊢
  refine q8 (qAY (qH (qGI (k:=2) rfl hs4) qT) ⟨_,rfl,fun bells B s5 hb x5 e5=>?_⟩)
  have hs5:=qD4.ext hs4 x5
  refine q8 (qY (qi (qGI (k:=2) rfl hs5) qF (by decide) (by decide)) (qV (qAL (qAA (j:=5) (qC (i:=1) rfl) rfl)) qF) (by lia) _ ?_)
  generalize hrg:ns.getD 2 0 / 20%(((g.cs.map Dt.int).length:Nat)+1)=ring
  have hr0:0≤ring:=by rw [← hrg];exact Int.emod_nonneg _ (by lia)
  obtain⟨j,hj,j2⟩:=qk (v:=ns.getD 1 0 / 9) (n:=2) (by decide)
  have hj:ns.getD 1 0 / 9%2=((j:Nat):Int):=hj
  obtain⟨m,em,m1⟩:∃ m:Nat,[Dt.int 40,.int 400][j]? = some (.int (m:Nat))∧m≤1000:=by
    rcases (by lia:j=0∨j=1) with rfl | rfl
    · exact⟨40,rfl,by decide⟩
    · exact⟨400,rfl,by decide⟩
  refine q8 (qBm (ds:=[.int 40,.int 400]) (v:=(j:Nat)) (qH qF (qH qF qT)) (by decide) (fun s x=>by rw [← hj];exact qAl (qY (qi (qGI (k:=1) rfl (qD4.ext hs5 x)) qF (by decide) (by decide)) qF (by decide))) (qBQ em) _ fun s6 x6=>?_)
  exact qTG (h:=⟨vs,bells,ring⟩) (x6 _ _ (x5 _ _ eG)) (x6 _ _ e5) ⟨hq,by show vs.length≤100;lia,by show bells.length≤100;lia,hr0⟩ o2 (by lia) m1 hP
end K76
namespace K25
open PySem PySem.Spec PyProof.Rows L2 L3 KH KS KW K20 K06 KD
end K25
namespace K22S
open L3
abbrev qC4:TSD:=K01.qC4
theorem qK8 {ds:List Dt} {st:Sto} {Pd:VD} (h:K01.qBo ds st Pd):qC4 (Ed Pd) (qU ["number"] ds) st:=K01.qIj h
end K22S
namespace L3
open PySem PySem.Spec PyProof.Rows L2
section
variable {n q:Str} {st:Stmt} {ps:List Str}
theorem b6 (hp:ps.length=6) (h:∀ kV doc pm an cdv ct a b c d e f,bindArgs (W.fnOf n q (qAh st) (qAZ st) (qK st) .none kV doc pm an cdv ct) ⟨[a,b,c,d,e,f],[]⟩=pure (ps.zip [a,b,c,d,e,f])):Bnd n q st ps:=fun _ _ _ _ _ _ us hl=>by
  rw [hp] at hl
  obtain⟨_,_,_,_,_,_,rfl⟩:=un6 hl
  exact h _ _ _ _ _ _ _ _ _ _ _ _
end
end L3
namespace K76
open PySem PySem.Spec PyProof.Rows L2 L3
local macro_rules | `(tactic| k_dat $x:ident "e")=>`(tactic| (case $x:ident=>walk_at "d_e"))
local macro_rules | `(tactic| k_dat $x:ident "r")=>`(tactic| (case $x:ident=>rfl))
local macro_rules | `(tactic| k_dat $x:ident "m")=>`(tactic| (case $x:ident=>assumption))
local macro_rules | `(tactic| k_dat $x:ident "d")=>`(tactic| (case $x:ident=>decide))
local macro_rules | `(tactic| k_dat $x:ident "a")=>`(tactic| (case $x:ident=>walk_at "d_a"))
local macro_rules | `(tactic| k_dat $x:ident "t")=>`(tactic| (case $x:ident=>walk_at "d_t"))
local macro_rules | `(tactic| k_dat $x:ident "s")=>`(tactic| (case $x:ident=>walk_at "d_ss"))
local macro_rules | `(tactic| k_dat $x:ident "i")=>`(tactic| (case $x:ident=>walk_at "d_i"))
local macro_rules | `(tactic| k_dat $x:ident "n")=>`(tactic| (case $x:ident=>first | exact qK2 _ | with_unfolding_all rfl))
local macro_rules | `(tactic| k_dat $n:num "zv0")=>`(tactic| ((with_reducible refine' qRz $n ?n ?v ?d ?c);k_dat n "r";(case v=>first | exact Or.inl rfl | exact Or.inr (Or.inl rfl));k_dat d "d";k_dat c "d"))
local macro_rules | `(tactic| k_dat $n:num "zc0")=>`(tactic| ((with_reducible refine' qId $n _ ?hc ?N ?S ?hx ?nd ?i ?f ?e ?y ?yl ?sw ?hs);k_dat y "r";k_dat hc "r";k_dat N "m";(case S=>exact qIh (by assumption) (by rfl));k_dat hx "r";(case nd=>decide +kernel);k_dat sw "r";k_dat yl "r";k_dat i "i";(case f=>(intro _ _ _ _;walk_at "d_if"));(case e=>(intro _ _ _ _;walk_at "d_e"));(case hs=>(intro _;rfl))))
local macro_rules | `(tactic| k_dat $n:num "zc1")=>`(tactic| ((with_reducible refine' qId $n _ ?hc ?N ?S ?hx ?nd ?i ?f ?e ?y ?yl ?sw ?hs);k_dat y "r";k_dat hc "r";k_dat N "m";(case S=>exact qGg (by assumption) (by rfl));k_dat hx "r";(case nd=>decide +kernel);k_dat sw "r";k_dat yl "r";k_dat i "i";(case f=>(intro _ _ _ _;walk_at "d_if"));(case e=>(intro _ _ _ _;walk_at "d_e"));(case hs=>(intro _;rfl))))
local macro_rules | `(tactic| k_dat $n:num "zc2")=>`(tactic| ((with_reducible refine' qId $n [] ?hc ?N ?S ?hx ?nd ?i ?f ?e ?y ?yl ?sw ?hs);k_dat y "r";k_dat hc "r";k_dat N "m";(case S=>exact qKd (by rfl));k_dat hx "r";(case nd=>decide +kernel);k_dat sw "r";k_dat yl "r";k_dat i "i";(case f=>(intro _ _ _ _;walk_at "d_if"));(case e=>(intro _ _ _ _;walk_at "d_e"));(case hs=>(intro _;rfl))))
local macro_rules | `(tactic| k_dat $n:num "zs0")=>`(tactic| ((with_reducible refine' qTS $n ?N ?e ?i ?x ?s ?f);k_dat i "r";k_dat s "r";k_dat N "m";(case x=>first | exact Or.inl rfl | exact Or.inr rfl);(case f=>first | exact .inl rfl | exact .inr rfl);k_dat e "e"))
local macro_rules | `(tactic| k_dat $n:num "zg0")=>`(tactic| ((with_reducible refine' qJB $n ?nd ?n ?x ?f);k_dat n "r";k_dat nd "m";(case x=>first | exact Or.inl rfl | exact Or.inr rfl);(case f=>first | exact .inl rfl | exact .inr rfl)))
local macro_rules | `(tactic| k_dat $n:num "zu0")=>`(tactic| ((with_reducible refine' qIF $n ?c ?g ?n ?s);k_dat n "r";k_dat c "r";(case g=>walk_at "d_gs");k_dat s "r"))
local macro_rules | `(tactic| k_dat $l:ident "s0")=>`(tactic| ((with_reducible refine' $l ?v ?r);k_dat v "e";(case r=>walk_at "d_pk")))
local macro_rules | `(tactic| k_dat $l:ident "s1")=>`(tactic| ((with_reducible refine' $l ?a ?b);k_dat a "e";k_dat b "e"))
local macro_rules | `(tactic| k_dat $l:ident "s2")=>`(tactic| ((with_reducible refine' $l ?a);k_dat a "e"))
local macro_rules | `(tactic| k_dat $l:ident "s3")=>`(tactic| ((with_reducible refine' $l ?a ?b ?h1 ?h2 ?h3 ?h4 ?h5);k_dat a "e";k_dat b "e";k_dat h1 "r";k_dat h2 "r";k_dat h3 "r";k_dat h4 "r";k_dat h5 "r"))
local macro_rules | `(tactic| k_dat $l:ident "s4")=>`(tactic| ((with_reducible refine' $l ?f ?n ?r ?a ?g ?db ?he ?hpl);k_dat f "m";k_dat n "r";(case r=>walk_at "d_room");k_dat a "a";k_dat g "r";k_dat db "d";k_dat he "r";k_dat hpl "r"))
local macro_rules | `(tactic| k_dat $l:ident "s5")=>`(tactic| ((with_reducible refine' $l ?hu ?a ?b ?m);(case hu=>walk_at "d_hu");k_dat a "e";k_dat b "e";k_dat m "n"))
local macro_rules | `(tactic| k_dat $l:ident "s6")=>`(tactic| ((with_reducible refine' $l ?a ?b ?m);k_dat a "e";k_dat b "e";k_dat m "n"))
local macro_rules | `(tactic| k_dat $l:ident "s7")=>`(tactic| ((with_reducible refine' $l ?c ?m ?a ?g ?he ?hpl);k_dat c "r";k_dat m "m";k_dat a "a";k_dat g "r";k_dat he "r";k_dat hpl "r"))
local macro_rules | `(tactic| k_dat $l:ident "s8")=>`(tactic| ((with_reducible refine' $l ?a);k_dat a "a"))
local macro_rules | `(tactic| k_dat $l:ident "s9")=>`(tactic| ((with_reducible refine' $l ?a ?l ?h);k_dat a "e";(case l=>walk_at "d_o");(case h=>walk_at "d_o")))
local macro_rules | `(tactic| k_dat $l:ident "s10")=>`(tactic| ((with_reducible refine' $l ?m ?a ?g ?he ?hpl);k_dat m "m";k_dat a "a";k_dat g "r";k_dat he "r";k_dat hpl "r"))
local macro_rules | `(tactic| k_dat $l:ident "s11")=>`(tactic| ((with_reducible refine' $l ?m ?g);k_dat m "m";k_dat g "r"))
local macro_rules | `(tactic| k_dat $l:ident "s12")=>`(tactic| ((with_reducible refine' $l ?a ?b ?c ?m);k_dat a "e";k_dat b "e";k_dat c "e";(case m=>with_unfolding_all rfl)))
local macro_rules | `(tactic| k_dat $l:ident "s13")=>`(tactic| ((with_reducible refine' $l ?hu ?a ?b ?m);(case hu=>exact hu1 (by assumption));k_dat a "e";k_dat b "e";k_dat m "n"))
local macro_rules | `(tactic| k_dat $l:ident "s14")=>`(tactic| ((with_reducible refine' $l ?f ?r ?o ?t);k_dat f "m";(case r=>walk_at "d_room");k_dat o "e";k_dat t "r"))
local macro_rules | `(tactic| k_dat $l:ident "s15")=>`(tactic| ((with_reducible refine' $l ?a);k_dat a "t"))
local macro_rules | `(tactic| k_dat $l:ident "s16")=>`(tactic| ((with_reducible refine' $l ?a ?h);k_dat a "e";(case h=>(intro _;rfl))))
local macro_rules | `(tactic| k_dat $l:ident "s17")=>`(tactic| ((with_reducible refine' $l ?a ?b);k_dat a "t";(case b=>walk_at "d_w")))
local macro_rules | `(tactic| k_dat $l:ident "s18")=>`(tactic| ((with_reducible refine' $l ?m ?a ?g ?s);k_dat m "m";k_dat a "e";k_dat g "r";k_dat s "r"))
local macro_rules | `(tactic| walk_at "d_room")=>`(tactic| first
  | exact qAx.mono (by assumption) (by decide)
  | exact qAx.mono (by assumption) (by omega))
local macro_rules | `(tactic| walk_at "d_hu")=>`(tactic| first
  | exact qVc (by assumption))
local macro_rules | `(tactic| walk_at "d_ps")=>`(tactic| first
  | (with_reducible exact dps_nil)
  | ((with_reducible refine' dps_cons ?v ?r);k_dat v "e";(case r=>walk_at "d_ps")))
local macro_rules | `(tactic| walk_at "d_pk")=>`(tactic| first
  | (with_reducible exact qQR)
  | (k_dat qQ5 "s0"))
local macro_rules | `(tactic| walk_at "d_e")=>`(tactic| first
  | (with_reducible exact qTW)
  | (with_reducible exact qTe)
  | (with_reducible exact qUG)
  | (with_reducible exact qSe)
  | ((with_reducible show DE _ (.Name _ _) _);first
      | (k_dat 0 "zv0")
      | (k_dat 1 "zv0")
      | (k_dat 2 "zv0")
      | (k_dat 3 "zv0")
      | (k_dat 4 "zv0")
      | (k_dat 5 "zv0")
      | (k_dat 6 "zv0")
      | (k_dat 7 "zv0")
      | (k_dat 8 "zv0")
      | (k_dat 9 "zv0")
      | (k_dat 10 "zv0")
      | (k_dat 11 "zv0")
      | (k_dat 12 "zv0")
      | (k_dat 13 "zv0")
      | (k_dat 14 "zv0")
      | (k_dat 15 "zv0"))
  | (k_dat qT3 "s2")
  | (k_dat qNO "s3")
  | (k_dat qRr "s1")
  | (k_dat qR9 "s1")
  | (k_dat qSL "s1")
  | (k_dat qRw "s1")
  | (k_dat qR3 "s1")
  | (k_dat qTQ "s1")
  | (k_dat qU0 "s5")
  | (k_dat qUY "s5")
  | (k_dat qU9 "s6")
  | (k_dat qU1 "s6")
  | (k_dat qUP "s6")
  | (k_dat qUI "s6")
  | (k_dat qVB "s6")
  | (k_dat qPj "s5")
  | (k_dat qT5 "s7")
  | (k_dat qR7 "s7")
  | (k_dat qTK "s7")
  | (k_dat qSh "s8")
  | (k_dat qTo "s8")
  | (k_dat qMi "s9")
  | (k_dat qNc "s9")
  | ((with_reducible refine' qUk ?a ?b ?s);k_dat a "e";k_dat b "e";(case s=>exact fun _ _=>rfl))
  | ((with_reducible refine' qO7 ?f ?r ?a ?g ?db ?he ?hpl);k_dat f "m";(case r=>walk_at "d_room");k_dat a "a";k_dat g "r";k_dat db "d";k_dat he "r";k_dat hpl "r")
  | (k_dat qSd "s10")
  | (k_dat qM8 "s10")
  | (k_dat qPA "s10")
  | (k_dat qP5 "s10")
  | (k_dat qT0 "s10")
  | (k_dat qMv "s11")
  | (k_dat qLc "s11")
  | ((with_reducible refine' qS7 ?f ?g ?db);(case f=>first | assumption | exact qN5.con (by assumption));k_dat g "r";k_dat db "d")
  | (k_dat qMd "s3")
  | (k_dat qSc "s2")
  | (k_dat qSa "s1")
  | (k_dat qTt "s2")
  | ((with_reducible refine' qU8 ?c ?a ?b);k_dat c "t";k_dat a "e";k_dat b "e")
  | (k_dat qPM "s12")
  | ((with_reducible refine' qJS _ ?hc ?S ?hx ?nd ?i ?f ?e ?hs);k_dat hc "r";(case S=>exact qIh (by assumption) (by rfl));k_dat hx "r";(case nd=>decide +kernel);k_dat i "i";(case f=>(intro _ _ _ _;walk_at "d_if"));(case e=>(intro _ _ _ _;walk_at "d_e"));(case hs=>(intro _;rfl)))
  | ((with_reducible refine' qJS _ ?hc ?S ?hx ?nd ?i ?f ?e ?hs);k_dat hc "r";(case S=>exact qGg (by assumption) (by rfl));k_dat hx "r";(case nd=>decide +kernel);k_dat i "i";(case f=>(intro _ _ _ _;walk_at "d_if"));(case e=>(intro _ _ _ _;walk_at "d_e"));(case hs=>(intro _;rfl)))
  | ((with_reducible refine' qJS [] ?hc ?S ?hx ?nd ?i ?f ?e ?hs);k_dat hc "r";(case S=>exact qKd (by rfl));k_dat hx "r";(case nd=>decide +kernel);k_dat i "i";(case f=>(intro _ _ _ _;walk_at "d_if"));(case e=>(intro _ _ _ _;walk_at "d_e"));(case hs=>(intro _;rfl)))
  | (with_reducible exact qN0)
  | ((with_reducible refine' qQK ?h ?hall ?hl ?h0 ?h15 ?hk ?nd);(case h=>walk_at "d_pk");k_dat hall "r";k_dat hl "r";(case h0=>exact List.cons_ne_nil _ _);k_dat h15 "d";k_dat hk "d";k_dat nd "d")
  | ((with_reducible refine' qQW ?hu ?a ?b ?s);(case hu=>exact hu1 (by assumption));k_dat a "e";k_dat b "e";(case s=>exact fun _ _=>rfl))
  | ((with_reducible refine' qSR ?c ?f ?a ?b);k_dat c "m";k_dat f "d";k_dat a "e";k_dat b "r")
  | ((with_reducible refine' qQ6 ?f ?r ?o ?a ?g ?h ?t);k_dat f "m";(case r=>walk_at "d_room");k_dat o "e";k_dat a "a";k_dat g "r";k_dat h "r";k_dat t "r")
  | (k_dat qNm "s14")
  | ((with_reducible refine' qO0 ?f ?r ?g ?d);k_dat f "m";(case r=>walk_at "d_room");k_dat g "r";k_dat d "d")
  | ((with_reducible refine' qQm ?f ?r ?a ?g ?d ?he ?hpl);k_dat f "m";(case r=>walk_at "d_room");k_dat a "a";k_dat g "r";k_dat d "d";k_dat he "r";k_dat hpl "r")
  | (with_reducible exact qQx)
  | (k_dat qPL "s7")
  | ((with_reducible refine' qNl ?c ?m ?o ?g ?b ?l ?he);k_dat c "r";k_dat m "m";k_dat o "e";k_dat g "r";k_dat b "r";k_dat l "r";k_dat he "r")
  | (k_dat qNN "s14")
  | ((with_reducible refine' qHB _ ?hc ?S ?hx ?hy ?nd ?i ?f ?e ?hs);k_dat hc "r";(case S=>exact qIh (by assumption) (by rfl));k_dat hx "r";k_dat hy "r";(case nd=>decide +kernel);k_dat i "i";(case f=>(intro _ _ _ _;walk_at "d_if"));(case e=>(intro _ _ _ _;walk_at "d_e"));(case hs=>(intro _;rfl)))
  | ((with_reducible refine' qHB _ ?hc ?S ?hx ?hy ?nd ?i ?f ?e ?hs);k_dat hc "r";(case S=>exact qGg (by assumption) (by rfl));k_dat hx "r";k_dat hy "r";(case nd=>decide +kernel);k_dat i "i";(case f=>(intro _ _ _ _;walk_at "d_if"));(case e=>(intro _ _ _ _;walk_at "d_e"));(case hs=>(intro _;rfl)))
  | ((with_reducible refine' qHB [] ?hc ?S ?hx ?hy ?nd ?i ?f ?e ?hs);k_dat hc "r";(case S=>exact qKd (by rfl));k_dat hx "r";k_dat hy "r";(case nd=>decide +kernel);k_dat i "i";(case f=>(intro _ _ _ _;walk_at "d_if"));(case e=>(intro _ _ _ _;walk_at "d_e"));(case hs=>(intro _;rfl))))
local macro_rules | `(tactic| walk_at "d_a")=>`(tactic| first
  | (with_reducible exact qGw)
  | ((with_reducible refine' qEx ?a ?b ?h);k_dat a "e";k_dat b "a";k_dat h "r"))
local macro_rules | `(tactic| walk_at "d_o")=>`(tactic| first
  | (with_reducible exact qQM)
  | (k_dat qP4 "s2"))
local macro_rules | `(tactic| walk_at "d_t")=>`(tactic| first
  | (with_reducible exact qQr)
  | (k_dat qR2 "s15")
  | ((with_reducible refine' qLg (qPY ?a ?b));k_dat a "t";(case b=>walk_at "d_w"))
  | ((with_reducible refine' qLg (qRR ?a ?b));k_dat a "t";(case b=>walk_at "d_w"))
  | (k_dat qT1 "s5")
  | (k_dat qTT "s5")
  | (k_dat qSM "s6")
  | (k_dat qRy "s6")
  | (k_dat qSv "s6")
  | (k_dat qST "s6")
  | (k_dat qTu "s6")
  | (k_dat qMr "s6")
  | (k_dat qM6 "s12")
  | (k_dat qQV "s13")
  | (k_dat qTP "s16")
  | (k_dat qQU "s16"))
local macro_rules | `(tactic| walk_at "d_w")=>`(tactic| first
  | (k_dat qPY "s17")
  | (k_dat qRR "s17")
  | (k_dat qPm "s15")
  | (k_dat qSU "s15"))
local macro_rules | `(tactic| walk_at "d_if")=>`(tactic| first
  | (with_reducible exact qQX)
  | (k_dat qQg "s15"))
local macro_rules | `(tactic| walk_at "d_i")=>`(tactic| first
  | (k_dat qOy "s18")
  | (k_dat qMp "s18")
  | (k_dat qSg "s2"))
local macro_rules | `(tactic| walk_at "d_g")=>`(tactic| first
  | (k_dat 0 "zg0")
  | (k_dat 1 "zg0")
  | (k_dat 2 "zg0")
  | (k_dat 3 "zg0")
  | (k_dat 4 "zg0")
  | (k_dat 5 "zg0")
  | (k_dat 6 "zg0")
  | (k_dat 7 "zg0")
  | (k_dat 8 "zg0")
  | (k_dat 9 "zg0")
  | (k_dat 10 "zg0")
  | (k_dat 11 "zg0")
  | (k_dat 12 "zg0")
  | (k_dat 13 "zg0")
  | (k_dat 14 "zg0")
  | (k_dat 15 "zg0")
  | (k_dat 1 "zu0")
  | (k_dat 2 "zu0")
  | (k_dat 3 "zu0")
  | (k_dat 4 "zu0")
  | (k_dat 5 "zu0")
  | (k_dat 6 "zu0")
  | (k_dat 7 "zu0")
  | (k_dat 8 "zu0")
  | ((with_reducible refine' qSf ?a ?b ?h);k_dat a "e";k_dat b "e";(case h=>(intro _;rfl))))
local macro_rules | `(tactic| walk_at "d_gs")=>`(tactic| first
  | (with_reducible exact qMG)
  | ((with_reducible refine' qGq ?a ?b ?h);(case a=>walk_at "d_g");(case b=>walk_at "d_gs");k_dat h "r"))
local macro_rules | `(tactic| walk_at "d_s")=>`(tactic| first
  | (with_reducible exact qQz)
  | ((with_reducible refine' qPc ?p ?c ?b);(case p=>exact PassesOwn.never);k_dat c "t";k_dat b "s")
  | (k_dat qS2 "s2")
  | (with_reducible exact qQG)
  | ((with_reducible refine' qUE ?c ?a ?b);k_dat c "t";k_dat a "s";k_dat b "s")
  | ((with_reducible refine' qQA ?a ?h);k_dat h "r";k_dat a "e")
  | ((with_reducible refine' qSX ?p ?c ?i ?g ?b ?h);(case p=>exact PassesOwn.never);k_dat c "r";k_dat i "i";(case g=>walk_at "d_g");k_dat b "s";(case h=>(intro _;rfl)))
  | ((with_reducible show DS _ (.Assign [.Name _ _] (.ListComp _ _ _ _) _) _);first
      | (k_dat 0 "zc0")
      | (k_dat 0 "zc1")
      | (k_dat 0 "zc2")
      | (k_dat 1 "zc0")
      | (k_dat 1 "zc1")
      | (k_dat 1 "zc2")
      | (k_dat 2 "zc0")
      | (k_dat 2 "zc1")
      | (k_dat 2 "zc2")
      | (k_dat 3 "zc0")
      | (k_dat 3 "zc1")
      | (k_dat 3 "zc2")
      | (k_dat 4 "zc0")
      | (k_dat 4 "zc1")
      | (k_dat 4 "zc2")
      | (k_dat 5 "zc0")
      | (k_dat 5 "zc1")
      | (k_dat 5 "zc2")
      | (k_dat 6 "zc0")
      | (k_dat 6 "zc1")
      | (k_dat 6 "zc2")
      | (k_dat 7 "zc0")
      | (k_dat 7 "zc1")
      | (k_dat 7 "zc2")
      | (k_dat 8 "zc0")
      | (k_dat 8 "zc1")
      | (k_dat 8 "zc2")
      | (k_dat 9 "zc0")
      | (k_dat 9 "zc1")
      | (k_dat 9 "zc2")
      | (k_dat 10 "zc0")
      | (k_dat 10 "zc1")
      | (k_dat 10 "zc2")
      | (k_dat 11 "zc0")
      | (k_dat 11 "zc1")
      | (k_dat 11 "zc2")
      | (k_dat 12 "zc0")
      | (k_dat 12 "zc1")
      | (k_dat 12 "zc2")
      | (k_dat 13 "zc0")
      | (k_dat 13 "zc1")
      | (k_dat 13 "zc2")
      | (k_dat 14 "zc0")
      | (k_dat 14 "zc1")
      | (k_dat 14 "zc2")
      | (k_dat 15 "zc0")
      | (k_dat 15 "zc1")
      | (k_dat 15 "zc2"))
  | ((with_reducible show DS _ (.Assign [.Name _ _] _ _) _);first
      | (k_dat 0 "zs0")
      | (k_dat 1 "zs0")
      | (k_dat 2 "zs0")
      | (k_dat 3 "zs0")
      | (k_dat 4 "zs0")
      | (k_dat 5 "zs0")
      | (k_dat 6 "zs0")
      | (k_dat 7 "zs0")
      | (k_dat 8 "zs0")
      | (k_dat 9 "zs0")
      | (k_dat 10 "zs0")
      | (k_dat 11 "zs0")
      | (k_dat 12 "zs0")
      | (k_dat 13 "zs0")
      | (k_dat 14 "zs0")
      | (k_dat 15 "zs0"))
  | ((with_reducible refine' qQF ?c ?f ?o ?v);k_dat c "m";k_dat f "d";k_dat v "e";k_dat o "e")
  | ((with_reducible refine' qTs ?c ?f ?o ?v ?s);k_dat c "m";k_dat f "d";k_dat s "r";k_dat v "e";k_dat o "e")
  | ((with_reducible refine' qSS ?e ?g ?s ?w ?h);k_dat s "r";k_dat w "r";k_dat h "r";k_dat e "e";(case g=>walk_at "d_g"))
  | ((with_reducible show DS _ (.AugAssign (.Name _ _) _ _ _) _);first
      | (k_dat 15 "za0"))
  | ((with_reducible refine' qP7 ?hu ?o ?i ?v ?h);(case hu=>exact hu1 (by assumption));k_dat o "e";k_dat i "e";k_dat v "e";(case h=>(intro _ _ _;rfl))))
local macro_rules | `(tactic| walk_at "d_ss")=>`(tactic| first
  | (with_reducible exact qOs)
  | (with_reducible exact qP2)
  | ((with_reducible refine' qHT ?a ?b);(case a=>walk_at "d_s");k_dat b "s"))
set_option hygiene false in
local macro_rules | `(tactic| k_dat ($a,$t,$r) "k")=>`(tactic| (have nd:=($a).nd;refine qSm F $a (fun ds st Pd h=>by first | (obtain⟨_,rfl,_⟩:=h;rfl) | (obtain⟨_,_,rfl,_⟩:=h;rfl) | (obtain⟨_,_,_,rfl,_⟩:=h;rfl) | (obtain⟨_,_,_,_,rfl,_⟩:=h;rfl) | (obtain⟨_,_,_,_,_,rfl,_⟩:=h;rfl) | (obtain⟨_,_,_,_,_,_,rfl,_⟩:=h;rfl) | (obtain⟨_,_,_,_,_,_,_,rfl,_⟩:=h;rfl) | (obtain⟨_,_,_,_,_,_,_,_,rfl,_⟩:=h;rfl) | (obtain⟨_,_,_,_,_,_,_,_,_,rfl,_⟩:=h;rfl) | (obtain⟨_,_,_,_,_,_,_,_,_,_,rfl,_⟩:=h;rfl) | (obtain⟨_,_,_,_,_,_,_,_,_,_,_,rfl,_⟩:=h;rfl) | (obtain⟨_,_,_,_,_,_,_,_,_,_,_,_,rfl,_⟩:=h;rfl) | (obtain⟨_,_,_,_,_,_,_,_,_,_,_,_,_,rfl,_⟩:=h;rfl) | (obtain⟨_,_,_,_,_,_,_,_,_,_,_,_,_,_,rfl,_⟩:=h;rfl) | (obtain⟨_,_,_,_,_,_,_,_,_,_,_,_,_,_,_,rfl,_⟩:=h;rfl) | (obtain⟨_,_,_,_,_,_,_,_,_,_,_,_,_,_,_,_,rfl,_⟩:=h;rfl) | (obtain⟨_,_,_,_,_,_,_,_,_,_,_,_,_,_,_,_,_,rfl,_⟩:=h;rfl) | (obtain⟨_,_,_,_,_,_,_,_,_,_,_,_,_,_,_,_,_,_,rfl,_⟩:=h;rfl) | (obtain⟨_,_,_,_,_,_,_,_,_,_,_,_,_,_,_,_,_,_,_,rfl,_⟩:=h;rfl) | (obtain⟨_,_,_,_,_,_,_,_,_,_,_,_,_,_,_,_,_,_,_,_,rfl,_⟩:=h;rfl) | (obtain⟨_,_,_,_,_,_,_,_,_,_,_,_,_,_,_,_,_,_,_,_,_,rfl,_⟩:=h;rfl)) fun cdv A outer s H E hr=>?_;refine⟨$t,?t,fun ds st Pd h=>$r h⟩;(case t=>(refine' qHT ?a ?b;(case a=>walk_at "d_s");(case b=>walk_at "d_ss")))))
local macro_rules | `(tactic| k_dat 0 "c")=>`(tactic| exact⟨rfl,rfl,rfl,by decide +kernel,rfl,by decide +kernel,by decide +kernel⟩)
set_option hygiene false in
local macro_rules | `(tactic| k_dat ($a,$t,$r) "kd")=>`(tactic| (have nd:=($a).nd;refine qPw F $a (fun ds st Pd h=>by first | (obtain⟨_,rfl,_⟩:=h;rfl) | (obtain⟨_,_,rfl,_⟩:=h;rfl) | (obtain⟨_,_,_,rfl,_⟩:=h;rfl) | (obtain⟨_,_,_,_,rfl,_⟩:=h;rfl) | (obtain⟨_,_,_,_,_,rfl,_⟩:=h;rfl) | (obtain⟨_,_,_,_,_,_,rfl,_⟩:=h;rfl) | (obtain⟨_,_,_,_,_,_,_,rfl,_⟩:=h;rfl) | (obtain⟨_,_,_,_,_,_,_,_,rfl,_⟩:=h;rfl) | (obtain⟨_,_,_,_,_,_,_,_,_,rfl,_⟩:=h;rfl) | (obtain⟨_,_,_,_,_,_,_,_,_,_,rfl,_⟩:=h;rfl) | (obtain⟨_,_,_,_,_,_,_,_,_,_,_,rfl,_⟩:=h;rfl) | (obtain⟨_,_,_,_,_,_,_,_,_,_,_,_,rfl,_⟩:=h;rfl) | (obtain⟨_,_,_,_,_,_,_,_,_,_,_,_,_,rfl,_⟩:=h;rfl) | (obtain⟨_,_,_,_,_,_,_,_,_,_,_,_,_,_,rfl,_⟩:=h;rfl) | (obtain⟨_,_,_,_,_,_,_,_,_,_,_,_,_,_,_,rfl,_⟩:=h;rfl) | (obtain⟨_,_,_,_,_,_,_,_,_,_,_,_,_,_,_,_,rfl,_⟩:=h;rfl) | (obtain⟨_,_,_,_,_,_,_,_,_,_,_,_,_,_,_,_,_,rfl,_⟩:=h;rfl) | (obtain⟨_,_,_,_,_,_,_,_,_,_,_,_,_,_,_,_,_,_,rfl,_⟩:=h;rfl) | (obtain⟨_,_,_,_,_,_,_,_,_,_,_,_,_,_,_,_,_,_,_,rfl,_⟩:=h;rfl) | (obtain⟨_,_,_,_,_,_,_,_,_,_,_,_,_,_,_,_,_,_,_,_,rfl,_⟩:=h;rfl) | (obtain⟨_,_,_,_,_,_,_,_,_,_,_,_,_,_,_,_,_,_,_,_,_,rfl,_⟩:=h;rfl)) fun cdv A outer s H E hr=>?_;refine⟨$t,?t,fun ds st Pd h=>$r h⟩;(case t=>(refine' qHT ?a ?b;(case a=>walk_at "d_s");(case b=>walk_at "d_ss")))))
noncomputable def top (i:Nat):Stmt:=PySem.Challenge.pw_asitruns_k76_empty_policy.main.body.getD i (.Pass ⟨0,0,0,0⟩)
noncomputable abbrev qFW:Stmt:=top 7
noncomputable abbrev qGi:Stmt:=top 39
noncomputable abbrev qBq:Stmt:=inClass (top 141) 0
noncomputable abbrev qB0:Stmt:=inClass (top 141) 2
noncomputable abbrev qB2:Stmt:=inClass (top 141) 4
noncomputable abbrev qCv:Stmt:=inClass (top 141) 3
noncomputable abbrev qCd:Stmt:=top 150
noncomputable abbrev qCs:Stmt:=inClass (top 151) 4
noncomputable abbrev qCY:Stmt:=inClass (top 151) 9
noncomputable abbrev qCE:Stmt:=inClass (top 151) 16
noncomputable abbrev qCe:Stmt:=top 153
noncomputable abbrev qDj:Stmt:=top 154
noncomputable abbrev qCI:Stmt:=top 155
noncomputable abbrev qCb:Stmt:=top 156
noncomputable abbrev qDa:Stmt:=top 157
noncomputable abbrev qDi:Stmt:=top 160
noncomputable abbrev qCw:Stmt:=top 161
noncomputable abbrev qEM:Stmt:=top 18
noncomputable abbrev qGW:Stmt:=top 19
noncomputable abbrev qLM:Stmt:=top 24
noncomputable abbrev qTb:Stmt:=top 25
noncomputable abbrev qCF:Stmt:=top 26
noncomputable abbrev qFI:Stmt:=top 31
noncomputable abbrev qDG:Stmt:=top 32
noncomputable abbrev qDd:Stmt:=top 40
noncomputable abbrev qFe:Stmt:=top 41
noncomputable abbrev qCu:Stmt:=inClass (top 141) 6
noncomputable abbrev qCi:Stmt:=top 149
noncomputable abbrev qCt:Stmt:=inClass (top 151) 12
noncomputable abbrev qDE:Stmt:=top 158
noncomputable abbrev qCC:Stmt:=top 163
noncomputable abbrev qDF:Stmt:=top 165
noncomputable abbrev qIr:Stmt:=top 20
noncomputable abbrev qBp:Stmt:=inClass (top 151) 0
noncomputable abbrev qBL:Stmt:=inClass (top 151) 8
noncomputable abbrev qET:Stmt:=top 159
noncomputable abbrev qDH:Stmt:=top 164
noncomputable abbrev qG4:Stmt:=top 21
noncomputable abbrev qC8:Stmt:=top 162
noncomputable abbrev qEW:Stmt:=top 22
noncomputable abbrev qCf:Stmt:=top 23
noncomputable abbrev qES:Stmt:=top 27
noncomputable abbrev qHD:Stmt:=top 28
noncomputable abbrev qGX:Stmt:=top 29
noncomputable abbrev qGU:Stmt:=top 30
noncomputable abbrev qFD:Stmt:=top 33
noncomputable abbrev qEJ:Stmt:=top 34
noncomputable abbrev qFF:Stmt:=top 35
noncomputable abbrev qFa:Stmt:=top 36
noncomputable abbrev qGt:Stmt:=top 37
noncomputable abbrev qBb:Stmt:=inClass (top 151) 7
noncomputable abbrev qCa:Stmt:=inClass (top 151) 2
noncomputable abbrev qAX:Stmt:=inClass (top 151) 1
noncomputable abbrev qIQ:Stmt:=top 167
section
variable {P:Program} {w:World} {K:W.Frag} {mg:Str→Option Value} {base:Heap} {f:Addr} {fd:FuncData}
theorem qNE:qQ ["number"] ["number"] (qK qFW):=by k_dat 0 "c"
theorem qNH (F:Fun K "set_out" "set_out" qFW f fd) (gT0:qN5 K mg "WORDS" K01.qKq):qAJ P w K mg base CX0 1 f fd ["number"] (qS K K01.qBo):=by
  k_dat (qNE,K22S.qC4,K22S.qK8) "k"
theorem qNs:qQ ["state", "bells", "rung", "done"] ["state", "bells", "rung", "done"] (qK qGi):=by k_dat 0 "c"
theorem qPT (F:Fun K "is_due" "is_due" qGi f fd) (gI3:qAb K mg "SAVED" (.int 3)) (m3:mg "len" = none):qAJ P w K mg base CX0 1 f fd ["state", "bells", "rung", "done"] (qS K K76.qJc):=by
  k_dat (qNs,K76.qJq,K76.qM3) "k"
theorem qEb:qQ ["self"] ["self"] (qK qBq):=by k_dat 0 "c"
theorem qEa (F:Fun K "__init__" "Keeper.__init__" qBq f fd) (cCKeeper:qBB K "Keeper" ["held", "bindings"]):qAJ P w K mg base CX0 1 f fd ["self"] (qS K K76.qEi):=by
  k_dat (qEb,K76.qCo,K76.qEP) "k"
theorem qFS:qQ ["self", "place"] ["self", "place"] (qK qB0):=by k_dat 0 "c"
theorem qFK (F:Fun K "host_at" "Keeper.host_at" qB0 f fd) (cCKeeper:qBB K "Keeper" ["held", "bindings"]):qAJ P w K mg base CX0 1 f fd ["self", "place"] (qS K K76.qBC):=by
  k_dat (qFS,K76.qC6,K76.qE2) "k"
theorem qFU:qQ ["self", "place"] ["self", "place"] (qK qB2):=by k_dat 0 "c"
theorem qFd (F:Fun K "rows_at" "Keeper.rows_at" qB2 f fd) (cCKeeper:qBB K "Keeper" ["held", "bindings"]):qAJ P w K mg base CX0 1 f fd ["self", "place"] (qS K K76.qBC):=by
  k_dat (qFU,K76.qC0,K76.qEc) "k"
theorem qHj:qQ ["self"] ["self"] (qK qCv):=by k_dat 0 "c"
theorem qHo (F:Fun K "kept" "Keeper.kept" qCv f fd) (m15:mg "sorted" = none) (cCKeeper:qBB K "Keeper" ["held", "bindings"]):qAJ P w K mg base CX0 1 f fd ["self"] (qS K K76.qDn):=by
  k_dat (qHj,K76.qEH,K76.qHU) "k"
theorem qHa:qQ ["before", "behind"] ["before", "behind"] (qK qCd):=by k_dat 0 "c"
theorem qHL (F:Fun K "closed_pages" "closed_pages" qCd f fd) (gI6:qAb K mg "RUN" (.int 4)) (m6:mg "enumerate" = none):qAJ P w K mg base CX0 1 f fd ["before", "behind"] (qS K K76.qEz):=by
  have hint0:Hint [(1, "behind")]:=⟨trivial⟩
  k_dat (qHa,K76.qDk,K76.qF4) "k"
theorem qHz:qQ ["self", "number", "place", "rows", "made", "other"] ["self"] (qK qCs):=by k_dat 0 "c"
theorem qHp (F:Fun K "make" "Runner.make" qCs f fd) (gI0:qAb K mg "PLACE" (.int 0)) (m3:mg "len" = none) (cCRunner:qBB K "Runner" ["now", "given", "bells", "ring", "policy", "used", "keeper", "binding", "behind", "ended", "told", "done", "heard", "rung", "entries", "tally"]) (cCKeeper:qBB K "Keeper" ["held", "bindings"]) (mKeeper_kept:qA4 P w K mg base "Keeper" "kept" 1 K76.qDn):qAJ P w K mg base CX0 1 f fd ["self"] (qS K K76.qI3):=by
  k_dat (qHz,K76.qEI,K76.qGj) "k"
theorem qGZ:qQ ["self"] ["self"] (qK qCY):=by k_dat 0 "c"
theorem qHP (F:Fun K "state" "Runner.state" qCY f fd) (cCRunner:qBB K "Runner" ["now", "given", "bells", "ring", "policy", "used", "keeper", "binding", "behind", "ended", "told", "done", "heard", "rung", "entries", "tally"]):qAJ P w K mg base CX0 1 f fd ["self"] (qS K K76.qGM):=by
  k_dat (qGZ,K76.qDr,K76.qFx) "k"
theorem qF1:qQ ["self"] ["self"] (qK qCE):=by k_dat 0 "c"
theorem qFz (F:Fun K "counts" "Runner.counts" qCE f fd) (m1:mg "tuple" = none) (cCRunner:qBB K "Runner" ["now", "given", "bells", "ring", "policy", "used", "keeper", "binding", "behind", "ended", "told", "done", "heard", "rung", "entries", "tally"]):qAJ P w K mg base CX0 1 f fd ["self"] (qS K K76.qEt):=by
  k_dat (qF1,K76.qDN,K76.qFZ) "k"
theorem qGa:qQ ["script", "k"] ["script", "k"] (qK qCe):=by k_dat 0 "c"
theorem qGy (F:Fun K "_law_cell_at" "_law_cell_at" qCe f fd) (m3:mg "len" = none):qAJ P w K mg base CX0 1 f fd ["script", "k"] (qS K K76.qBY):=by
  k_dat (qGa,K76.qDW,K76.qF7) "k"
theorem qJ2:qQ ["number", "k"] ["number", "k"] (qK qDj):=by k_dat 0 "c"
theorem qJu (F:Fun K "_law_turn" "_law_turn" qDj f fd)  : qAJ P w K mg base CX0 1 f fd ["number", "k"] (qS K K76.qAW):=by
  k_dat (qJ2,K76.qFs,K76.qI0) "k"
theorem qF9:qQ ["word", "x", "y", "plain", "number", "carry"] ["word", "x", "y"] (qK qCI):=by k_dat 0 "c"
theorem qF6 (F:Fun K "_law_reckoned" "_law_reckoned" qCI f fd) (m9:mg "max" = none):qAJ P w K mg base CX0 1 f fd ["word", "x", "y"] (qS K K76.qHN):=by
  k_dat (qF9,K76.qDO,K76.qFM) "k"
theorem qHS:qQ ["state", "at", "bit"] ["state", "at", "bit"] (qK qCb):=by k_dat 0 "c"
theorem qGe (F:Fun K "_law_reached" "_law_reached" qCb f fd) (m3:mg "len" = none):qAJ P w K mg base CX0 1 f fd ["state", "at", "bit"] (qS K K76.qA3):=by
  k_dat (qHS,K76.qDg,K76.qFt) "k"
theorem qKg:qQ ["state", "word", "a", "c", "marks", "turns"] ["state", "word", "a", "c"] (qK qDa):=by k_dat 0 "c"
theorem qJn (F:Fun K "_law_jump" "_law_jump" qDa f fd)  : qAJ P w K mg base CX0 1 f fd ["state", "word", "a", "c"] (qS K K76.qIs):=by
  k_dat (qKg,K76.qFm,K76.qJL) "k"
theorem qKI:qQ ["state"] ["state"] (qK qDi):=by k_dat 0 "c"
theorem qJk (F:Fun K "_law_open" "_law_open" qDi f fd) (m10:mg "list" = none):qAJ P w K mg base CX0 1 f fd ["state"] (qS K K76.qI5):=by
  k_dat (qKI,K76.qFl,K76.qIa) "k"
theorem qHe:qQ ["state"] ["state"] (qK qCw):=by k_dat 0 "c"
theorem qHy (F:Fun K "_law_closed" "_law_closed" qCw f fd) (m1:mg "tuple" = none):qAJ P w K mg base CX0 1 f fd ["state"] (qS K K76.qBd):=by
  k_dat (qHe,K76.qEF,K76.qGP) "k"
theorem qKs:qQ ["parts", "k", "part"] ["parts", "k", "part"] (qK qEM):=by k_dat 0 "c"
theorem qKn (F:Fun K "replaced" "replaced" qEM f fd)  : qAJ P w K mg base CX0 1 f fd ["parts", "k", "part"] (qS K K06.qAI):=by
  k_dat (qKs,K06.qGf,K06.qJj) "k"
theorem qPB:qQ ["right", "state", "address"] ["right", "state", "address"] (qK qGW):=by k_dat 0 "c"
theorem qNR (F:Fun K "may_be" "may_be" qGW f fd) (gI4:qAb K mg "RIGHTS" (.int 4)) (gI5:qAb K mg "CELLS" (.int 5)) (m3:mg "len" = none):qAJ P w K mg base CX0 1 f fd ["right", "state", "address"] (qS K K06.qFq):=by
  k_dat (qPB,K06.qKJ,K06.qNA) "k"
theorem qSK:qQ ["how", "state"] ["how", "state"] (qK qLM):=by k_dat 0 "c"
theorem qTr (F:Fun K "left" "left" qLM f fd)  : qAJ P w K mg base CX0 1 f fd ["how", "state"] (qS K K06.qBJ):=by
  k_dat (qSK,K06.qOF,K06.qP9) "k"
theorem qVg:qQ ["state"] ["state"] (qK qTb):=by k_dat 0 "c"
theorem qVW (F:Fun K "on" "on" qTb f fd)  : qAJ P w K mg base CX0 1 f fd ["state"] (qS K K06.qB9):=by
  k_dat (qVg,K06.qUe,K06.qUC) "k"
theorem qFu:qQ ["word", "x", "y"] ["word", "x", "y"] (qK qCF):=by k_dat 0 "c"
theorem qGA (F:Fun K "plain_outcome" "plain_outcome" qCF f fd)  : qAJ P w K mg base CX0 1 f fd ["word", "x", "y"] (qS K K06.qCS):=by
  k_dat (qFu,K06.qDJ,K06.qFL) "k"
theorem qMM:qQ ["a", "marks"] ["a", "marks"] (qK qFI):=by k_dat 0 "c"
theorem qMX (F:Fun K "is_when" "is_when" qFI f fd)  : qAJ P w K mg base CX0 1 f fd ["a", "marks"] (qS K K06.qDf):=by
  k_dat (qMM,K06.qIN,K06.qKt) "k"
theorem qIz:qQ ["place", "c"] ["place", "c"] (qK qDG):=by k_dat 0 "c"
theorem qIu (F:Fun K "leap_place" "leap_place" qDG f fd)  : qAJ P w K mg base CX0 1 f fd ["place", "c"] (qS K K06.qCp):=by
  k_dat (qIz,K06.qE9,K06.qHm) "k"
theorem qKN:qQ ["state", "ring", "saved"] ["state", "ring"] (qK qDd):=by k_dat 0 "c"
theorem qKZ (F:Fun K "with_bell" "with_bell" qDd f fd) (gI0:qAb K mg "PLACE" (.int 0)) (gI2:qAb K mg "MARKS" (.int 2)) (gI3:qAb K mg "SAVED" (.int 3)) (dreplaced:qc P w K mg base "replaced" 1 K06.qAI):qAJ P w K mg base CX0 2 f fd ["state", "ring"] (qS K KN.qJC):=by
  k_dat (qKN,K76.qFg,K76.qJA) "k"
theorem qMT:qQ ["state"] ["state"] (qK qFe):=by k_dat 0 "c"
theorem qMj (F:Fun K "is_hear" "is_hear" qFe f fd) (gI0:qAb K mg "PLACE" (.int 0)) (gI5:qAb K mg "CELLS" (.int 5)) (dset_out:qc P w K mg base "set_out" 1 K01.qBo):qAJ P w K mg base CX0 2 f fd ["state"] (qS K KN.qHR):=by
  k_dat (qMT,K76.qIL,K76.qLG) "k"
theorem qHd:qQ ["self", "page"] ["self", "page"] (qK qCu):=by k_dat 0 "c"
theorem qHc (F:Fun K "shut" "Keeper.shut" qCu f fd) (m14:mg "sum" = none) (cCKeeper:qBB K "Keeper" ["held", "bindings"]) (mKeeper_kept:qA4 P w K mg base "Keeper" "kept" 1 K76.qDn):qAJ P w K mg base CX0 2 f fd ["self", "page"] (qS K K76.qEL):=by
  have hint0:Hint [(1, "page"),(0, "self")]:=⟨trivial⟩
  k_dat (qHd,K76.qEB,K76.qHX) "k"
theorem qGp:qQ ["number", "state", "row"] ["number", "state"] (qK qCi):=by k_dat 0 "c"
theorem qG1 (F:Fun K "written_page" "written_page" qCi f fd) (gI1:qAb K mg "BOXES" (.int 1)) (dset_out:qc P w K mg base "set_out" 1 K01.qBo):qAJ P w K mg base CX0 2 f fd ["number", "state"] (qS K K76.qDv):=by
  k_dat (qGp,K76.qDc,K76.qF0) "k"
theorem qHr:qQ ["self"] ["self"] (qK qCt):=by k_dat 0 "c"
theorem qHl (F:Fun K "kept" "Runner.kept" qCt f fd) (cCKeeper:qBB K "Keeper" ["held", "bindings"]) (cCRunner:qBB K "Runner" ["now", "given", "bells", "ring", "policy", "used", "keeper", "binding", "behind", "ended", "told", "done", "heard", "rung", "entries", "tally"]) (mKeeper_rows_at:qA4 P w K mg base "Keeper" "rows_at" 1 K76.qBC) (mKeeper_kept:qA4 P w K mg base "Keeper" "kept" 1 K76.qDn):qAJ P w K mg base CX0 2 f fd ["self"] (qS K K76.qGD):=by
  have hint0:Hint [(0, "self")]:=⟨trivial⟩
  k_dat (qHr,K76.qEE,K76.qHA) "k"
theorem qI6:qQ ["state", "word", "a", "at", "c"] ["state", "word", "a", "at", "c"] (qK qDE):=by k_dat 0 "c"
theorem qJI (F:Fun K "_law_touch" "_law_touch" qDE f fd) (m3:mg "len" = none) (d_law_reached:qc P w K mg base "_law_reached" 1 K76.qA3):qAJ P w K mg base CX0 2 f fd ["state", "word", "a", "at", "c"] (qS K K76.qE8):=by
  k_dat (qI6,K76.qEv,K76.qHt) "k"
theorem qFy:qQ ["cell", "many", "kind", "word", "a", "b", "c"] ["cell", "many"] (qK qCC):=by k_dat 0 "c"
theorem qF2 (F:Fun K "_law_made_row" "_law_made_row" qCC f fd) (d_law_turn:qc P w K mg base "_law_turn" 1 K76.qAW):qAJ P w K mg base CX0 2 f fd ["cell", "many"] (qS K K76.qCU):=by
  k_dat (qFy,K76.qDM,K76.qFC) "k"
theorem qJH:qQ ["cell", "bells", "at", "k"] ["cell"] (qK qDF):=by k_dat 0 "c"
theorem qJY (F:Fun K "_law_bells" "_law_bells" qDF f fd) (m7:mg "range" = none) (d_law_turn:qc P w K mg base "_law_turn" 1 K76.qAW):qAJ P w K mg base CX0 2 f fd ["cell"] (qS K K76.qE5):=by
  k_dat (qJH,K76.qEd,K76.qHw) "k"
theorem qRF:qQ ["state", "place"] ["state", "place"] (qK qIr):=by k_dat 0 "c"
theorem qRB (F:Fun K "moved" "moved" qIr f fd) (gI0:qAb K mg "PLACE" (.int 0)) (dreplaced:qc P w K mg base "replaced" 1 K06.qAI):qAJ P w K mg base CX0 2 f fd ["state", "place"] (qS K K06.qCP):=by
  k_dat (qRF,K06.qL0,K06.qOE) "k"
theorem qEm:qQ ["self", "state", "given", "bells", "ring", "policy"] ["self", "state", "given", "bells", "ring", "policy"] (qK qBp):=by k_dat 0 "c"
theorem qE7 (F:Fun K "__init__" "Runner.__init__" qBp f fd) (m1:mg "tuple" = none) (cCRunner:qBB K "Runner" ["now", "given", "bells", "ring", "policy", "used", "keeper", "binding", "behind", "ended", "told", "done", "heard", "rung", "entries", "tally"]) (kCKeeper:qHO P w K mg base "Keeper" 1 K76.qEi):qAJ P w K mg base CX0 3 f fd ["self", "state", "given", "bells", "ring", "policy"] (qS K K76.qEf):=by
  k_dat (qEm,K76.qCl,K76.qEX) "k"
theorem qDY:qQ ["self", "before", "page"] ["self", "before"] (qK qBL):=by k_dat 0 "c"
theorem qDt (F:Fun K "shut_closed" "Runner.shut_closed" qBL f fd) (gI4:qAb K mg "RIGHTS" (.int 4)) (dclosed_pages:qc P w K mg base "closed_pages" 1 K76.qEz) (cCRunner:qBB K "Runner" ["now", "given", "bells", "ring", "policy", "used", "keeper", "binding", "behind", "ended", "told", "done", "heard", "rung", "entries", "tally"]) (cCKeeper:qBB K "Keeper" ["held", "bindings"]) (mKeeper_shut:qA4 P w K mg base "Keeper" "shut" 2 K76.qEL):qAJ P w K mg base CX0 3 f fd ["self", "before"] (qS K K76.qGO):=by
  k_dat (qDY,K76.qB7,K76.qDP) "k"
theorem qLQ:qQ ["state", "heard", "told", "words", "number", "word", "a", "c", "x"] ["state", "heard", "told"] (qK qET):=by k_dat 0 "c"
theorem qK0 (F:Fun K "_law_row" "_law_row" qET f fd) (d_law_reckoned:qc P w K mg base "_law_reckoned" 1 K76.qHN) (d_law_reached:qc P w K mg base "_law_reached" 1 K76.qA3) (d_law_jump:qc P w K mg base "_law_jump" 1 K76.qIs) (d_law_touch:qc P w K mg base "_law_touch" 2 K76.qE8):qAJ P w K mg base CX0 3 f fd ["state", "heard", "told"] (qS K K76.qIe):=by
  k_dat (qLQ,K76.qHF,K76.qKA) "k"
theorem qIy:qQ ["script", "first", "many", "cells", "k", "rights", "boxes", "marks"] ["script"] (qK qDH):=by k_dat 0 "c"
theorem qIY (F:Fun K "_law_state" "_law_state" qDH f fd) (m1:mg "tuple" = none) (m3:mg "len" = none) (m7:mg "range" = none) (d_law_cell_at:qc P w K mg base "_law_cell_at" 1 K76.qBY) (d_law_turn:qc P w K mg base "_law_turn" 1 K76.qAW) (d_law_made_row:qc P w K mg base "_law_made_row" 2 K76.qCU):qAJ P w K mg base CX0 3 f fd ["script"] (qS K K76.qE0):=by
  have hint0:Hint [(2, "many")]:=⟨trivial⟩
  have hint1:Hint [(1, "first")]:=⟨trivial⟩
  k_dat (qIy,K76.qEq,K76.qHx) "k"
theorem qOB:qQ ["state"] ["state"] (qK qG4):=by k_dat 0 "c"
theorem qNS (F:Fun K "one_on" "one_on" qG4 f fd) (gI0:qAb K mg "PLACE" (.int 0)) (dmoved:qc P w K mg base "moved" 2 K06.qCP):qAJ P w K mg base CX0 3 f fd ["state"] (qS K K06.qBO):=by
  k_dat (qOB,K06.qKX,K06.qNI) "k"
theorem qI8:qQ ["first", "given", "bells", "ring", "most", "state", "told", "heard", "rung", "states", "done", "hears", "how"] ["first", "given", "bells", "ring", "most"] (qK qC8):=by k_dat 0 "c"
theorem qJW (F:Fun K "_law_plain" "_law_plain" qC8 f fd) (m1:mg "tuple" = none) (m3:mg "len" = none) (m4:mg "int" = none) (m8:mg "min" = none) (d_law_reached:qc P w K mg base "_law_reached" 1 K76.qA3) (d_law_row:qc P w K mg base "_law_row" 3 K76.qIe) (d_law_open:qc P w K mg base "_law_open" 1 K76.qI5) (d_law_closed:qc P w K mg base "_law_closed" 1 K76.qBd):qAJ P w K mg base CX0 4 f fd ["first", "given", "bells", "ring", "most"] (qS K K76.qCS):=by
  k_dat (qI8,K76.qE1,K76.qHk) "k"
theorem qK9:qQ ["state", "a", "number"] ["state", "a", "number"] (qK qEW):=by k_dat 0 "c"
theorem qKk (F:Fun K "with_box" "with_box" qEW f fd) (gI1:qAb K mg "BOXES" (.int 1)) (dreplaced:qc P w K mg base "replaced" 1 K06.qAI) (done_on:qc P w K mg base "one_on" 3 K06.qBO):qAJ P w K mg base CX0 4 f fd ["state", "a", "number"] (qS K K06.qA5):=by
  k_dat (qK9,K06.qHM,K06.qJv) "k"
theorem qGs:qQ ["state", "a", "number", "carry"] ["state", "a", "number", "carry"] (qK qCf):=by k_dat 0 "c"
theorem qGd (F:Fun K "with_outcome" "with_outcome" qCf f fd) (gI2:qAb K mg "MARKS" (.int 2)) (dreplaced:qc P w K mg base "replaced" 1 K06.qAI) (dwith_box:qc P w K mg base "with_box" 4 K06.qA5):qAJ P w K mg base CX0 5 f fd ["state", "a", "number", "carry"] (qS K K06.qB1):=by
  k_dat (qGs,K06.qDX,K06.qFv) "k"
theorem qLU:qQ ["state", "word", "a", "x", "y", "plain"] ["state", "word", "a", "x", "y"] (qK qES):=by k_dat 0 "c"
theorem qKz (F:Fun K "do_count" "do_count" qES f fd) (dwith_outcome:qc P w K mg base "with_outcome" 5 K06.qB1) (don:qc P w K mg base "on" 1 K06.qB9) (dplain_outcome:qc P w K mg base "plain_outcome" 1 K06.qCS):qAJ P w K mg base CX0 6 f fd ["state", "word", "a", "x", "y"] (qS K K06.qEu):=by
  k_dat (qLU,K06.qHW,K06.qKj) "k"
theorem qNw:qQ ["state", "a", "x", "y"] ["state", "a", "x", "y"] (qK qHD):=by k_dat 0 "c"
theorem qN1 (F:Fun K "do_div" "do_div" qHD f fd) (dwith_outcome:qc P w K mg base "with_outcome" 5 K06.qB1) (dleft:qc P w K mg base "left" 1 K06.qBJ) (don:qc P w K mg base "on" 1 K06.qB9):qAJ P w K mg base CX0 6 f fd ["state", "a", "x", "y"] (qS K K06.qKK):=by
  k_dat (qNw,K06.qKV,K06.qM9) "k"
theorem qOV:qQ ["state", "a", "address"] ["state", "a", "address"] (qK qGX):=by k_dat 0 "c"
theorem qPD (F:Fun K "do_get" "do_get" qGX f fd) (gI5:qAb K mg "CELLS" (.int 5)) (gI7:qAb K mg "READ" (.int 1)) (dmay_be:qc P w K mg base "may_be" 1 K06.qFq) (dwith_box:qc P w K mg base "with_box" 4 K06.qA5) (dleft:qc P w K mg base "left" 1 K06.qBJ) (don:qc P w K mg base "on" 1 K06.qB9):qAJ P w K mg base CX0 6 f fd ["state", "a", "address"] (qS K K06.qJ1):=by
  k_dat (qOV,K06.qKH,K06.qNG) "k"
theorem qNx:qQ ["state", "number", "address"] ["state", "number", "address"] (qK qGU):=by k_dat 0 "c"
theorem qOP (F:Fun K "do_set" "do_set" qGU f fd) (gI5:qAb K mg "CELLS" (.int 5)) (gI8:qAb K mg "WRITTEN" (.int 2)) (dreplaced:qc P w K mg base "replaced" 1 K06.qAI) (dmay_be:qc P w K mg base "may_be" 1 K06.qFq) (done_on:qc P w K mg base "one_on" 3 K06.qBO) (dleft:qc P w K mg base "left" 1 K06.qBJ) (don:qc P w K mg base "on" 1 K06.qB9):qAJ P w K mg base CX0 6 f fd ["state", "number", "address"] (qS K K06.qKL):=by
  k_dat (qNx,K06.qJ8,K06.qMe) "k"
theorem qNK:qQ ["state", "c"] ["state", "c"] (qK qFD):=by k_dat 0 "c"
theorem qMf (F:Fun K "do_leap" "do_leap" qFD f fd) (gI0:qAb K mg "PLACE" (.int 0)) (dmoved:qc P w K mg base "moved" 2 K06.qCP) (don:qc P w K mg base "on" 1 K06.qB9) (dleap_place:qc P w K mg base "leap_place" 1 K06.qCp):qAJ P w K mg base CX0 6 f fd ["state", "c"] (qS K K06.qEK):=by
  k_dat (qNK,K06.qH0,K06.qLR) "k"
theorem qK7:qQ ["state", "page", "rights"] ["state", "page", "rights"] (qK qEJ):=by k_dat 0 "c"
theorem qLE (F:Fun K "do_right" "do_right" qEJ f fd) (gI4:qAb K mg "RIGHTS" (.int 4)) (m3:mg "len" = none) (dreplaced:qc P w K mg base "replaced" 1 K06.qAI) (done_on:qc P w K mg base "one_on" 3 K06.qBO) (dleft:qc P w K mg base "left" 1 K06.qBJ) (don:qc P w K mg base "on" 1 K06.qB9):qAJ P w K mg base CX0 6 f fd ["state", "page", "rights"] (qS K K06.qDl):=by
  k_dat (qK7,K06.qG0,K06.qJ6) "k"
theorem qNQ:qQ ["state", "saved"] ["state"] (qK qFF):=by k_dat 0 "c"
theorem qM7 (F:Fun K "do_back" "do_back" qFF f fd) (gI1:qAb K mg "BOXES" (.int 1)) (gI3:qAb K mg "SAVED" (.int 3)) (gI4:qAb K mg "RIGHTS" (.int 4)) (gI5:qAb K mg "CELLS" (.int 5)) (dleft:qc P w K mg base "left" 1 K06.qBJ) (don:qc P w K mg base "on" 1 K06.qB9):qAJ P w K mg base CX0 6 f fd ["state"] (qS K K06.qGk):=by
  k_dat (qNQ,K06.qIB,K06.qLO) "k"
theorem qML:qQ ["state", "row", "heard", "word", "a", "b", "c", "boxes"] ["state", "row", "heard"] (qK qFa):=by k_dat 0 "c"
theorem qNF (F:Fun K "do_word" "do_word" qFa f fd) (gI1:qAb K mg "BOXES" (.int 1)) (gI2:qAb K mg "MARKS" (.int 2)) (dmoved:qc P w K mg base "moved" 2 K06.qCP) (done_on:qc P w K mg base "one_on" 3 K06.qBO) (dwith_box:qc P w K mg base "with_box" 4 K06.qA5) (dleft:qc P w K mg base "left" 1 K06.qBJ) (don:qc P w K mg base "on" 1 K06.qB9) (ddo_count:qc P w K mg base "do_count" 6 K06.qEu) (ddo_div:qc P w K mg base "do_div" 6 K06.qKK) (ddo_get:qc P w K mg base "do_get" 6 K06.qJ1) (ddo_set:qc P w K mg base "do_set" 6 K06.qKL) (dis_when:qc P w K mg base "is_when" 1 K06.qDf) (ddo_leap:qc P w K mg base "do_leap" 6 K06.qEK) (ddo_right:qc P w K mg base "do_right" 6 K06.qDl) (ddo_back:qc P w K mg base "do_back" 6 K06.qGk):qAJ P w K mg base CX0 7 f fd ["state", "row", "heard"] (qS K K06.qEp):=by
  k_dat (qML,K06.qH4,K06.qLJ) "k"
theorem qN9:qQ ["state", "heard", "place"] ["state", "heard"] (qK qGt):=by k_dat 0 "c"
theorem qOt (F:Fun K "do_row" "do_row" qGt f fd) (gI0:qAb K mg "PLACE" (.int 0)) (gI5:qAb K mg "CELLS" (.int 5)) (gI6:qAb K mg "RUN" (.int 4)) (dset_out:qc P w K mg base "set_out" 1 K01.qBo) (dmay_be:qc P w K mg base "may_be" 1 K06.qFq) (dleft:qc P w K mg base "left" 1 K06.qBJ) (ddo_word:qc P w K mg base "do_word" 7 K06.qEp):qAJ P w K mg base CX0 9 f fd ["state", "heard"] (qS K K06.qGG):=by
  k_dat (qN9,K06.qKe,K06.qNP) "k"
theorem qEV:qQ ["self", "before", "outcome"] ["self"] (qK qBb):=by k_dat 0 "c"
theorem qEN (F:Fun K "do_single" "Runner.do_single" qBb f fd) (gI0:qAb K mg "PLACE" (.int 0)) (gI4:qAb K mg "RIGHTS" (.int 4)) (gI5:qAb K mg "CELLS" (.int 5)) (m3:mg "len" = none) (dis_hear:qc P w K mg base "is_hear" 2 KN.qHR) (ddo_row:qc P w K mg base "do_row" 9 K06.qGG) (dwritten_page:qc P w K mg base "written_page" 2 K76.qDv) (cCRunner:qBB K "Runner" ["now", "given", "bells", "ring", "policy", "used", "keeper", "binding", "behind", "ended", "told", "done", "heard", "rung", "entries", "tally"]) (cCKeeper:qBB K "Keeper" ["held", "bindings"]) (mKeeper_shut:qA4 P w K mg base "Keeper" "shut" 2 K76.qEL) (mRunner_shut_closed:qA4 P w K mg base "Runner" "shut_closed" 3 K76.qGO):qAJ P w K mg base CX0 11 f fd ["self"] (qS K K76.qE3):=by
  k_dat (qEV,K76.qCc,K76.qD5) "k"
theorem qHV:qQ ["self", "most", "rows"] ["self", "most"] (qK qCa):=by k_dat 0 "c"
theorem qGz (F:Fun K "go_on" "Runner.go_on" qCa f fd) (gI0:qAb K mg "PLACE" (.int 0)) (m3:mg "len" = none) (dis_due:qc P w K mg base "is_due" 1 K76.qJc) (dwith_bell:qc P w K mg base "with_bell" 2 KN.qJC) (cCRunner:qBB K "Runner" ["now", "given", "bells", "ring", "policy", "used", "keeper", "binding", "behind", "ended", "told", "done", "heard", "rung", "entries", "tally"]) (cCKeeper:qBB K "Keeper" ["held", "bindings"]) (mKeeper_rows_at:qA4 P w K mg base "Keeper" "rows_at" 1 K76.qBC) (mKeeper_host_at:qA4 P w K mg base "Keeper" "host_at" 1 K76.qBC) (mRunner_make:qA4 P w K mg base "Runner" "make" 1 K76.qI3) (mRunner_do_single:qA4 P w K mg base "Runner" "do_single" 11 K76.qE3):qAJ P w K mg base CX0 12 f fd ["self", "most"] (qS K K76.qIq):=by
  k_dat (qHV,K76.qDu,K76.qF8) "k"
theorem qIp:qQ ["self", "most", "how"] ["self", "most"] (qK qAX):=by k_dat 0 "c"
theorem qJJ {T:Addr} (F:qPK K "run" "Runner.run" qAX f fd T) (m1:mg "tuple" = none) (cCRunner:qBB K "Runner" ["now", "given", "bells", "ring", "policy", "used", "keeper", "binding", "behind", "ended", "told", "done", "heard", "rung", "entries", "tally"]) (mRunner_go_on:qA4 P w K mg base "Runner" "go_on" 12 K76.qIq):qAJ P w K mg base CX0 13 f fd ["self", "most"] (qS K K76.qFr):=by
  k_dat (qIp,K76.qEh,K76.qHi) "kd"
theorem qUK:qQ ["script", "state", "second", "given", "bells", "ring", "most", "handed", "due", "states", "runner", "found", "counts"] ["script"] (qK qIQ):=by k_dat 0 "c"
theorem qUH (F:Fun K "law" "law" qIQ f fd) (m1:mg "tuple" = none) (m2:mg "isinstance" = none) (m3:mg "len" = none) (m5:mg "bool" = none) (m7:mg "range" = none) (m10:mg "list" = none) (d_law_cell_at:qc P w K mg base "_law_cell_at" 1 K76.qBY) (d_law_turn:qc P w K mg base "_law_turn" 1 K76.qAW) (d_law_plain:qc P w K mg base "_law_plain" 4 K76.qCS) (d_law_state:qc P w K mg base "_law_state" 3 K76.qE0) (d_law_bells:qc P w K mg base "_law_bells" 2 K76.qE5) (cCRunner:qBB K "Runner" ["now", "given", "bells", "ring", "policy", "used", "keeper", "binding", "behind", "ended", "told", "done", "heard", "rung", "entries", "tally"]) (mRunner_run:qA4 P w K mg base "Runner" "run" 13 K76.qFr) (nRunner_run:qE6 P w K mg base "Runner" "run" 13 K76.qFr (Dt.int 400)) (mRunner_counts:qA4 P w K mg base "Runner" "counts" 1 K76.qEt) (mRunner_state:qA4 P w K mg base "Runner" "state" 1 K76.qGM) (mRunner_kept:qA4 P w K mg base "Runner" "kept" 2 K76.qGD) (kCRunner:qHO P w K mg base "Runner" 3 K76.qEf):qAJ P w K mg base CX0 15 f fd ["script"] (qS K qJh):=by
  have hint0:Hint [(2, "second")]:=⟨trivial⟩
  k_dat (qUK,qRf,qTJ) "k"
end
@[elab_as_elim] theorem qVZ {C:List Value→Prop} (us:List Value) (hl:us.length=1) (h:∀ a0,C [a0]):C us:=by
  match us,hl with
  | [a0],_=>exact h _
@[elab_as_elim] theorem qVr {C:List Value→Prop} (us:List Value) (hl:us.length=2) (h:∀ a0 a1,C [a0,a1]):C us:=by
  match us,hl with
  | [a0,a1],_=>exact h _ _
@[elab_as_elim] theorem len3 {C:List Value→Prop} (us:List Value) (hl:us.length=3) (h:∀ a0 a1 a2,C [a0,a1,a2]):C us:=by
  match us,hl with
  | [a0,a1,a2],_=>exact h _ _ _
@[elab_as_elim] theorem len4 {C:List Value→Prop} (us:List Value) (hl:us.length=4) (h:∀ a0 a1 a2 a3,C [a0,a1,a2,a3]):C us:=by
  match us,hl with
  | [a0,a1,a2,a3],_=>exact h _ _ _ _
@[elab_as_elim] theorem len5 {C:List Value→Prop} (us:List Value) (hl:us.length=5) (h:∀ a0 a1 a2 a3 a4,C [a0,a1,a2,a3,a4]):C us:=by
  match us,hl with
  | [a0,a1,a2,a3,a4],_=>exact h _ _ _ _ _
@[elab_as_elim] theorem len6 {C:List Value→Prop} (us:List Value) (hl:us.length=6) (h:∀ a0 a1 a2 a3 a4 a5,C [a0,a1,a2,a3,a4,a5]):C us:=by
  match us,hl with
  | [a0,a1,a2,a3,a4,a5],_=>exact h _ _ _ _ _ _
@[elab_as_elim] theorem len7 {C:List Value→Prop} (us:List Value) (hl:us.length=7) (h:∀ a0 a1 a2 a3 a4 a5 a6,C [a0,a1,a2,a3,a4,a5,a6]):C us:=by
  match us,hl with
  | [a0,a1,a2,a3,a4,a5,a6],_=>exact h _ _ _ _ _ _ _
@[elab_as_elim] theorem len8 {C:List Value→Prop} (us:List Value) (hl:us.length=8) (h:∀ a0 a1 a2 a3 a4 a5 a6 a7,C [a0,a1,a2,a3,a4,a5,a6,a7]):C us:=by
  match us,hl with
  | [a0,a1,a2,a3,a4,a5,a6,a7],_=>exact h _ _ _ _ _ _ _ _
@[elab_as_elim] theorem len9 {C:List Value→Prop} (us:List Value) (hl:us.length=9) (h:∀ a0 a1 a2 a3 a4 a5 a6 a7 a8,C [a0,a1,a2,a3,a4,a5,a6,a7,a8]):C us:=by
  match us,hl with
  | [a0,a1,a2,a3,a4,a5,a6,a7,a8],_=>exact h _ _ _ _ _ _ _ _ _
theorem all_mk {l:W.OpenLaw} {w:World} {K:W.Frag} {h:Heap} {mg:Str→Option Value} {fa CCKeeper CCRunner:Addr} (X:K.In h) (G:h.Ns mainGlobals mg) (hfa:mg "law" = some (.ref fa))
    (aCKeeper:W.nsIn K mainGlobals "Keeper" = some (some (.ref CCKeeper))) (pgKeeper:W.plainGet K CCKeeper Str.empty=true) (hdKeeper:W.hasDictIn K CCKeeper=true) (poKeeper:W.plainOver K CCKeeper=true) (saKeeper:W.findIn K (.ref CCKeeper) "__setattr__" = some (some (.builtin "object.__setattr__"))) (mkKeeper:W.makesIn K CCKeeper=true) (kcKeeper:W.keepIn K (.ref CCKeeper)=true)
    (nfKeeper0:W.findIn K (.ref CCKeeper) "held" = some none)
    (nfKeeper1:W.findIn K (.ref CCKeeper) "bindings" = some none)
    (aCRunner:W.nsIn K mainGlobals "Runner" = some (some (.ref CCRunner))) (pgRunner:W.plainGet K CCRunner Str.empty=true) (hdRunner:W.hasDictIn K CCRunner=true) (poRunner:W.plainOver K CCRunner=true) (saRunner:W.findIn K (.ref CCRunner) "__setattr__" = some (some (.builtin "object.__setattr__"))) (mkRunner:W.makesIn K CCRunner=true) (kcRunner:W.keepIn K (.ref CCRunner)=true)
    (nfRunner0:W.findIn K (.ref CCRunner) "now" = some none)
    (nfRunner1:W.findIn K (.ref CCRunner) "given" = some none)
    (nfRunner2:W.findIn K (.ref CCRunner) "bells" = some none)
    (nfRunner3:W.findIn K (.ref CCRunner) "ring" = some none)
    (nfRunner4:W.findIn K (.ref CCRunner) "policy" = some none)
    (nfRunner5:W.findIn K (.ref CCRunner) "used" = some none)
    (nfRunner6:W.findIn K (.ref CCRunner) "keeper" = some none)
    (nfRunner7:W.findIn K (.ref CCRunner) "binding" = some none)
    (nfRunner8:W.findIn K (.ref CCRunner) "behind" = some none)
    (nfRunner9:W.findIn K (.ref CCRunner) "ended" = some none)
    (nfRunner10:W.findIn K (.ref CCRunner) "told" = some none)
    (nfRunner11:W.findIn K (.ref CCRunner) "done" = some none)
    (nfRunner12:W.findIn K (.ref CCRunner) "heard" = some none)
    (nfRunner13:W.findIn K (.ref CCRunner) "rung" = some none)
    (nfRunner14:W.findIn K (.ref CCRunner) "entries" = some none)
    (nfRunner15:W.findIn K (.ref CCRunner) "tally" = some none)
    (h0:qAR K "set_out" qFW)
    (h1:qAR K "is_due" qGi)
    (h2:qBf K CCKeeper "__init__" "Keeper.__init__" qBq)
    (h3:qBf K CCKeeper "host_at" "Keeper.host_at" qB0)
    (h4:qBf K CCKeeper "rows_at" "Keeper.rows_at" qB2)
    (h5:qBf K CCKeeper "kept" "Keeper.kept" qCv)
    (h6:qAR K "closed_pages" qCd)
    (h7:qBf K CCRunner "make" "Runner.make" qCs)
    (h8:qBf K CCRunner "state" "Runner.state" qCY)
    (h9:qBf K CCRunner "counts" "Runner.counts" qCE)
    (h10:qAR K "_law_cell_at" qCe)
    (h11:qAR K "_law_turn" qDj)
    (h12:qAR K "_law_reckoned" qCI)
    (h13:qAR K "_law_reached" qCb)
    (h14:qAR K "_law_jump" qDa)
    (h15:qAR K "_law_open" qDi)
    (h16:qAR K "_law_closed" qCw)
    (h17:qAR K "replaced" qEM)
    (h18:qAR K "may_be" qGW)
    (h19:qAR K "left" qLM)
    (h20:qAR K "on" qTb)
    (h21:qAR K "plain_outcome" qCF)
    (h22:qAR K "is_when" qFI)
    (h23:qAR K "leap_place" qDG)
    (h24:qAR K "with_bell" qDd)
    (h25:qAR K "is_hear" qFe)
    (h26:qBf K CCKeeper "shut" "Keeper.shut" qCu)
    (h27:qAR K "written_page" qCi)
    (h28:qBf K CCRunner "kept" "Runner.kept" qCt)
    (h29:qAR K "_law_touch" qDE)
    (h30:qAR K "_law_made_row" qCC)
    (h31:qAR K "_law_bells" qDF)
    (h32:qAR K "moved" qIr)
    (h33:qBf K CCRunner "__init__" "Runner.__init__" qBp)
    (h34:qBf K CCRunner "shut_closed" "Runner.shut_closed" qBL)
    (h35:qAR K "_law_row" qET)
    (h36:qAR K "_law_state" qDH)
    (h37:qAR K "one_on" qG4)
    (h38:qAR K "_law_plain" qC8)
    (h39:qAR K "with_box" qEW)
    (h40:qAR K "with_outcome" qCf)
    (h41:qAR K "do_count" qES)
    (h42:qAR K "do_div" qHD)
    (h43:qAR K "do_get" qGX)
    (h44:qAR K "do_set" qGU)
    (h45:qAR K "do_leap" qFD)
    (h46:qAR K "do_right" qEJ)
    (h47:qAR K "do_back" qFF)
    (h48:qAR K "do_word" qFa)
    (h49:qAR K "do_row" qGt)
    (h50:qBf K CCRunner "do_single" "Runner.do_single" qBb)
    (h51:qBf K CCRunner "go_on" "Runner.go_on" qCa)
    {f52D T52D:Addr} {oc52D gD52:Value} {od52D an52D hD52:Option Addr} {kV52D dc52D pm52D cd52D ct52D:Value} {sl52D rD52:Array (Option Value)} {jD52:Array Value} {mD52:Nat} (a52D:W.findIn K (.ref CCRunner) "run" = some (some (.ref f52D))) (i52D:W.isFn K (.ref f52D)=true) (l52D:K.lookup f52D=some ⟨oc52D,od52D,.func (W.fnOf "run" "Runner.run" (qAh qAX) (qAZ qAX) (qK qAX) (.ref T52D) kV52D dc52D pm52D an52D cd52D ct52D),sl52D⟩) (c52D:W.codeIn K cd52D "Runner.run" = true) (k52D:W.keepIn K (.ref f52D)=true) (y52D:K.lookup T52D=some ⟨gD52,hD52,.seq jD52 mD52,rD52⟩) (x52D:qNz jD52.toList 400=true)
    (h53:qAR K "law" qIQ)
    {aT0:Addr} {iT0:Array Value} {nT0:Nat} {sT0:Array (Option Value)} (b0:W.nsIn K mainGlobals "WORDS" = some (some (.ref aT0))) (e0:K.lookup aT0=some ⟨.type "tuple",none,.seq iT0 nT0,sT0⟩) (v0:qCm iT0.toList K01.qFN=true) (w0:iT0.size≤sizeLine)
    {tI0:Tok} (p0:W.nsIn K mainGlobals "PLACE" = some (some (.int 0 tI0)))
    {tI1:Tok} (p1:W.nsIn K mainGlobals "BOXES" = some (some (.int 1 tI1)))
    {tI2:Tok} (p2:W.nsIn K mainGlobals "MARKS" = some (some (.int 2 tI2)))
    {tI3:Tok} (p3:W.nsIn K mainGlobals "SAVED" = some (some (.int 3 tI3)))
    {tI4:Tok} (p4:W.nsIn K mainGlobals "RIGHTS" = some (some (.int 4 tI4)))
    {tI5:Tok} (p5:W.nsIn K mainGlobals "CELLS" = some (some (.int 5 tI5)))
    {tI6:Tok} (p6:W.nsIn K mainGlobals "RUN" = some (some (.int 4 tI6)))
    {tI7:Tok} (p7:W.nsIn K mainGlobals "READ" = some (some (.int 1 tI7)))
    {tI8:Tok} (p8:W.nsIn K mainGlobals "WRITTEN" = some (some (.int 2 tI8)))
    (z0:W.nsIn K mainGlobals "all" = some none)
    (z1:W.nsIn K mainGlobals "tuple" = some none)
    (z2:W.nsIn K mainGlobals "isinstance" = some none)
    (z3:W.nsIn K mainGlobals "len" = some none)
    (z4:W.nsIn K mainGlobals "int" = some none)
    (z5:W.nsIn K mainGlobals "bool" = some none)
    (z6:W.nsIn K mainGlobals "enumerate" = some none)
    (z7:W.nsIn K mainGlobals "range" = some none)
    (z8:W.nsIn K mainGlobals "min" = some none)
    (z9:W.nsIn K mainGlobals "max" = some none)
    (z10:W.nsIn K mainGlobals "list" = some none)
    (z11:W.nsIn K mainGlobals "zip" = some none)
    (z12:W.nsIn K mainGlobals "any" = some none)
    (z13:W.nsIn K mainGlobals "str" = some none)
    (z14:W.nsIn K mainGlobals "sum" = some none)
    (z15:W.nsIn K mainGlobals "sorted" = some none)
    : ∃ fd:FuncData,(∀ (s:Shared) (v:Value),BindsTo s fd ⟨[v],[]⟩ [("script",v)])∧∀ base:Heap,K.In base→base.Ns mainGlobals mg→qAJ l.prog w K mg base CX0 15 fa fd ["script"] (qS K qJh):=by
  obtain⟨f9,fd9,a9,F9⟩:=h53.ex
  have e:=hfa.symm.trans (W.mg_of X G a9)
  cases e
  have gT0:=qMu (mg:=mg) (x:= "WORDS") (W.mg_of X G b0) e0 v0 w0
  have gI0:=qCT (K:=K) (W.mg_of X G p0)
  have gI1:=qCT (K:=K) (W.mg_of X G p1)
  have gI2:=qCT (K:=K) (W.mg_of X G p2)
  have gI3:=qCT (K:=K) (W.mg_of X G p3)
  have gI4:=qCT (K:=K) (W.mg_of X G p4)
  have gI5:=qCT (K:=K) (W.mg_of X G p5)
  have gI6:=qCT (K:=K) (W.mg_of X G p6)
  have gI7:=qCT (K:=K) (W.mg_of X G p7)
  have gI8:=qCT (K:=K) (W.mg_of X G p8)
  have m0:=W.mg_none_of X G z0
  have m1:=W.mg_none_of X G z1
  have m2:=W.mg_none_of X G z2
  have m3:=W.mg_none_of X G z3
  have m4:=W.mg_none_of X G z4
  have m5:=W.mg_none_of X G z5
  have m6:=W.mg_none_of X G z6
  have m7:=W.mg_none_of X G z7
  have m8:=W.mg_none_of X G z8
  have m9:=W.mg_none_of X G z9
  have m10:=W.mg_none_of X G z10
  have m11:=W.mg_none_of X G z11
  have m12:=W.mg_none_of X G z12
  have m13:=W.mg_none_of X G z13
  have m14:=W.mg_none_of X G z14
  have m15:=W.mg_none_of X G z15
  have CC0Keeper:Cls K CCKeeper:=⟨pgKeeper,hdKeeper,poKeeper,saKeeper⟩
  have cCKeeper:qBB K "Keeper" ["held", "bindings"]:=⟨fun c hc=>by
    rw [aCKeeper] at hc
    cases hc
    refine⟨CC0Keeper,fun f hf=>?_⟩
    simp only [List.mem_cons,List.not_mem_nil,or_false] at hf
    rcases hf with rfl | rfl
    · exact nfKeeper0
    · exact nfKeeper1⟩
  have CC0Runner:Cls K CCRunner:=⟨pgRunner,hdRunner,poRunner,saRunner⟩
  have cCRunner:qBB K "Runner" ["now", "given", "bells", "ring", "policy", "used", "keeper", "binding", "behind", "ended", "told", "done", "heard", "rung", "entries", "tally"]:=⟨fun c hc=>by
    rw [aCRunner] at hc
    cases hc
    refine⟨CC0Runner,fun f hf=>?_⟩
    simp only [List.mem_cons,List.not_mem_nil,or_false] at hf
    rcases hf with rfl | rfl | rfl | rfl | rfl | rfl | rfl | rfl | rfl | rfl | rfl | rfl | rfl | rfl | rfl | rfl
    · exact nfRunner0
    · exact nfRunner1
    · exact nfRunner2
    · exact nfRunner3
    · exact nfRunner4
    · exact nfRunner5
    · exact nfRunner6
    · exact nfRunner7
    · exact nfRunner8
    · exact nfRunner9
    · exact nfRunner10
    · exact nfRunner11
    · exact nfRunner12
    · exact nfRunner13
    · exact nfRunner14
    · exact nfRunner15⟩
  have F9':=F9
  obtain⟨oc,od,kV,dc,pm,an,cd,ct,sl,rfl,-,-⟩:=F9'.ex
  refine⟨W.fnOf "law" "law" (qAh qIQ) (qAZ qIQ) (qK qIQ) .none kV dc pm an cd ct,fun s v=>.of_eq rfl,fun base _ _=>?_⟩
  have Dset_out:=h0.ok (P:=l.prog) (w:=w) (base:=base) X G (fun F=>qNH F gT0) (L3.b1 rfl fun _ _ _ _ _ _ _=>rfl)
  have Dis_due:=h1.ok (P:=l.prog) (w:=w) (base:=base) X G (fun F=>qPT F gI3 m3) (L3.b4 rfl fun _ _ _ _ _ _ _ _ _ _=>rfl)
  have kCKeeper:=h2.make (P:=l.prog) (w:=w) (base:=base) X G aCKeeper mkKeeper kcKeeper (fun F=>qEa F cCKeeper) (L3.b1 rfl fun _ _ _ _ _ _ _=>rfl)
  have MKeeper_host_at:=h3.ok (P:=l.prog) (w:=w) (mg:=mg) (base:=base) aCKeeper CC0Keeper (fun F=>qFK F cCKeeper) (L3.b2 rfl fun _ _ _ _ _ _ _ _=>rfl)
  have MKeeper_rows_at:=h4.ok (P:=l.prog) (w:=w) (mg:=mg) (base:=base) aCKeeper CC0Keeper (fun F=>qFd F cCKeeper) (L3.b2 rfl fun _ _ _ _ _ _ _ _=>rfl)
  have MKeeper_kept:=h5.ok (P:=l.prog) (w:=w) (mg:=mg) (base:=base) aCKeeper CC0Keeper (fun F=>qHo F m15 cCKeeper) (L3.b1 rfl fun _ _ _ _ _ _ _=>rfl)
  have Dclosed_pages:=h6.ok (P:=l.prog) (w:=w) (base:=base) X G (fun F=>qHL F gI6 m6) (L3.b2 rfl fun _ _ _ _ _ _ _ _=>rfl)
  have MRunner_make:=h7.ok (P:=l.prog) (w:=w) (mg:=mg) (base:=base) aCRunner CC0Runner (fun F=>qHp F gI0 m3 cCRunner cCKeeper MKeeper_kept) (L3.b1 rfl fun _ _ _ _ _ _ _=>rfl)
  have MRunner_state:=h8.ok (P:=l.prog) (w:=w) (mg:=mg) (base:=base) aCRunner CC0Runner (fun F=>qHP F cCRunner) (L3.b1 rfl fun _ _ _ _ _ _ _=>rfl)
  have MRunner_counts:=h9.ok (P:=l.prog) (w:=w) (mg:=mg) (base:=base) aCRunner CC0Runner (fun F=>qFz F m1 cCRunner) (L3.b1 rfl fun _ _ _ _ _ _ _=>rfl)
  have D_law_cell_at:=h10.ok (P:=l.prog) (w:=w) (base:=base) X G (fun F=>qGy F m3) (L3.b2 rfl fun _ _ _ _ _ _ _ _=>rfl)
  have D_law_turn:=h11.ok (P:=l.prog) (w:=w) (base:=base) X G (fun F=>qJu F ) (L3.b2 rfl fun _ _ _ _ _ _ _ _=>rfl)
  have D_law_reckoned:=h12.ok (P:=l.prog) (w:=w) (base:=base) X G (fun F=>qF6 F m9) (L3.b3 rfl fun _ _ _ _ _ _ _ _ _=>rfl)
  have D_law_reached:=h13.ok (P:=l.prog) (w:=w) (base:=base) X G (fun F=>qGe F m3) (L3.b3 rfl fun _ _ _ _ _ _ _ _ _=>rfl)
  have D_law_jump:=h14.ok (P:=l.prog) (w:=w) (base:=base) X G (fun F=>qJn F ) (L3.b4 rfl fun _ _ _ _ _ _ _ _ _ _=>rfl)
  have D_law_open:=h15.ok (P:=l.prog) (w:=w) (base:=base) X G (fun F=>qJk F m10) (L3.b1 rfl fun _ _ _ _ _ _ _=>rfl)
  have D_law_closed:=h16.ok (P:=l.prog) (w:=w) (base:=base) X G (fun F=>qHy F m1) (L3.b1 rfl fun _ _ _ _ _ _ _=>rfl)
  have Dreplaced:=h17.ok (P:=l.prog) (w:=w) (base:=base) X G (fun F=>qKn F ) (L3.b3 rfl fun _ _ _ _ _ _ _ _ _=>rfl)
  have Dmay_be:=h18.ok (P:=l.prog) (w:=w) (base:=base) X G (fun F=>qNR F gI4 gI5 m3) (L3.b3 rfl fun _ _ _ _ _ _ _ _ _=>rfl)
  have Dleft:=h19.ok (P:=l.prog) (w:=w) (base:=base) X G (fun F=>qTr F ) (L3.b2 rfl fun _ _ _ _ _ _ _ _=>rfl)
  have Don:=h20.ok (P:=l.prog) (w:=w) (base:=base) X G (fun F=>qVW F ) (L3.b1 rfl fun _ _ _ _ _ _ _=>rfl)
  have Dplain_outcome:=h21.ok (P:=l.prog) (w:=w) (base:=base) X G (fun F=>qGA F ) (L3.b3 rfl fun _ _ _ _ _ _ _ _ _=>rfl)
  have Dis_when:=h22.ok (P:=l.prog) (w:=w) (base:=base) X G (fun F=>qMX F ) (L3.b2 rfl fun _ _ _ _ _ _ _ _=>rfl)
  have Dleap_place:=h23.ok (P:=l.prog) (w:=w) (base:=base) X G (fun F=>qIu F ) (L3.b2 rfl fun _ _ _ _ _ _ _ _=>rfl)
  have Dwith_bell:=h24.ok (P:=l.prog) (w:=w) (base:=base) X G (fun F=>qKZ F gI0 gI2 gI3 Dreplaced) (L3.b2 rfl fun _ _ _ _ _ _ _ _=>rfl)
  have Dis_hear:=h25.ok (P:=l.prog) (w:=w) (base:=base) X G (fun F=>qMj F gI0 gI5 Dset_out) (L3.b1 rfl fun _ _ _ _ _ _ _=>rfl)
  have MKeeper_shut:=h26.ok (P:=l.prog) (w:=w) (mg:=mg) (base:=base) aCKeeper CC0Keeper (fun F=>qHc F m14 cCKeeper MKeeper_kept) (L3.b2 rfl fun _ _ _ _ _ _ _ _=>rfl)
  have Dwritten_page:=h27.ok (P:=l.prog) (w:=w) (base:=base) X G (fun F=>qG1 F gI1 Dset_out) (L3.b2 rfl fun _ _ _ _ _ _ _ _=>rfl)
  have MRunner_kept:=h28.ok (P:=l.prog) (w:=w) (mg:=mg) (base:=base) aCRunner CC0Runner (fun F=>qHl F cCKeeper cCRunner MKeeper_rows_at MKeeper_kept) (L3.b1 rfl fun _ _ _ _ _ _ _=>rfl)
  have D_law_touch:=h29.ok (P:=l.prog) (w:=w) (base:=base) X G (fun F=>qJI F m3 D_law_reached) (L3.b5 rfl fun _ _ _ _ _ _ _ _ _ _ _=>rfl)
  have D_law_made_row:=h30.ok (P:=l.prog) (w:=w) (base:=base) X G (fun F=>qF2 F D_law_turn) (L3.b2 rfl fun _ _ _ _ _ _ _ _=>rfl)
  have D_law_bells:=h31.ok (P:=l.prog) (w:=w) (base:=base) X G (fun F=>qJY F m7 D_law_turn) (L3.b1 rfl fun _ _ _ _ _ _ _=>rfl)
  have Dmoved:=h32.ok (P:=l.prog) (w:=w) (base:=base) X G (fun F=>qRB F gI0 Dreplaced) (L3.b2 rfl fun _ _ _ _ _ _ _ _=>rfl)
  have kCRunner:=h33.make (P:=l.prog) (w:=w) (base:=base) X G aCRunner mkRunner kcRunner (fun F=>qE7 F m1 cCRunner kCKeeper) (L3.b6 rfl fun _ _ _ _ _ _ _ _ _ _ _ _=>rfl)
  have MRunner_shut_closed:=h34.ok (P:=l.prog) (w:=w) (mg:=mg) (base:=base) aCRunner CC0Runner (fun F=>qDt F gI4 Dclosed_pages cCRunner cCKeeper MKeeper_shut) (L3.b2 rfl fun _ _ _ _ _ _ _ _=>rfl)
  have D_law_row:=h35.ok (P:=l.prog) (w:=w) (base:=base) X G (fun F=>qK0 F D_law_reckoned D_law_reached D_law_jump D_law_touch) (L3.b3 rfl fun _ _ _ _ _ _ _ _ _=>rfl)
  have D_law_state:=h36.ok (P:=l.prog) (w:=w) (base:=base) X G (fun F=>qIY F m1 m3 m7 D_law_cell_at D_law_turn D_law_made_row) (L3.b1 rfl fun _ _ _ _ _ _ _=>rfl)
  have Done_on:=h37.ok (P:=l.prog) (w:=w) (base:=base) X G (fun F=>qNS F gI0 Dmoved) (L3.b1 rfl fun _ _ _ _ _ _ _=>rfl)
  have D_law_plain:=h38.ok (P:=l.prog) (w:=w) (base:=base) X G (fun F=>qJW F m1 m3 m4 m8 D_law_reached D_law_row D_law_open D_law_closed) (L3.b5 rfl fun _ _ _ _ _ _ _ _ _ _ _=>rfl)
  have Dwith_box:=h39.ok (P:=l.prog) (w:=w) (base:=base) X G (fun F=>qKk F gI1 Dreplaced Done_on) (L3.b3 rfl fun _ _ _ _ _ _ _ _ _=>rfl)
  have Dwith_outcome:=h40.ok (P:=l.prog) (w:=w) (base:=base) X G (fun F=>qGd F gI2 Dreplaced Dwith_box) (L3.b4 rfl fun _ _ _ _ _ _ _ _ _ _=>rfl)
  have Ddo_count:=h41.ok (P:=l.prog) (w:=w) (base:=base) X G (fun F=>qKz F Dwith_outcome Don Dplain_outcome) (L3.b5 rfl fun _ _ _ _ _ _ _ _ _ _ _=>rfl)
  have Ddo_div:=h42.ok (P:=l.prog) (w:=w) (base:=base) X G (fun F=>qN1 F Dwith_outcome Dleft Don) (L3.b4 rfl fun _ _ _ _ _ _ _ _ _ _=>rfl)
  have Ddo_get:=h43.ok (P:=l.prog) (w:=w) (base:=base) X G (fun F=>qPD F gI5 gI7 Dmay_be Dwith_box Dleft Don) (L3.b3 rfl fun _ _ _ _ _ _ _ _ _=>rfl)
  have Ddo_set:=h44.ok (P:=l.prog) (w:=w) (base:=base) X G (fun F=>qOP F gI5 gI8 Dreplaced Dmay_be Done_on Dleft Don) (L3.b3 rfl fun _ _ _ _ _ _ _ _ _=>rfl)
  have Ddo_leap:=h45.ok (P:=l.prog) (w:=w) (base:=base) X G (fun F=>qMf F gI0 Dmoved Don Dleap_place) (L3.b2 rfl fun _ _ _ _ _ _ _ _=>rfl)
  have Ddo_right:=h46.ok (P:=l.prog) (w:=w) (base:=base) X G (fun F=>qLE F gI4 m3 Dreplaced Done_on Dleft Don) (L3.b3 rfl fun _ _ _ _ _ _ _ _ _=>rfl)
  have Ddo_back:=h47.ok (P:=l.prog) (w:=w) (base:=base) X G (fun F=>qM7 F gI1 gI3 gI4 gI5 Dleft Don) (L3.b1 rfl fun _ _ _ _ _ _ _=>rfl)
  have Ddo_word:=h48.ok (P:=l.prog) (w:=w) (base:=base) X G (fun F=>qNF F gI1 gI2 Dmoved Done_on Dwith_box Dleft Don Ddo_count Ddo_div Ddo_get Ddo_set Dis_when Ddo_leap Ddo_right Ddo_back) (L3.b3 rfl fun _ _ _ _ _ _ _ _ _=>rfl)
  have Ddo_row:=h49.ok (P:=l.prog) (w:=w) (base:=base) X G (fun F=>qOt F gI0 gI5 gI6 Dset_out Dmay_be Dleft Ddo_word) (L3.b2 rfl fun _ _ _ _ _ _ _ _=>rfl)
  have MRunner_do_single:=h50.ok (P:=l.prog) (w:=w) (mg:=mg) (base:=base) aCRunner CC0Runner (fun F=>qEN F gI0 gI4 gI5 m3 Dis_hear Ddo_row Dwritten_page cCRunner cCKeeper MKeeper_shut MRunner_shut_closed) (L3.b1 rfl fun _ _ _ _ _ _ _=>rfl)
  have MRunner_go_on:=h51.ok (P:=l.prog) (w:=w) (mg:=mg) (base:=base) aCRunner CC0Runner (fun F=>qGz F gI0 m3 Dis_due Dwith_bell cCRunner cCKeeper MKeeper_rows_at MKeeper_host_at MRunner_make MRunner_do_single) (L3.b2 rfl fun _ _ _ _ _ _ _ _=>rfl)
  obtain⟨t52D,rfl⟩:=qO9 x52D
  have F52D:=qQq (st:=qAX) l52D c52D k52D
  have B52D:Binds K (W.fnOf "run" "Runner.run" (qAh qAX) (qAZ qAX) (qK qAX) (.ref T52D) kV52D dc52D pm52D an52D cd52D ct52D) ["self", "most"] []:=fun s us Y hl=>qVr us (by simpa using hl) fun _ _=>BindsTo.of_defaults rfl (Y _ _ y52D) rfl rfl rfl
  have E52D:Binds K (W.fnOf "run" "Runner.run" (qAh qAX) (qAZ qAX) (qK qAX) (.ref T52D) kV52D dc52D pm52D an52D cd52D ct52D) ["self", "most"] [.int 400 t52D]:=fun s us Y hl=>have hl2:us.length=1:=(by simpa using hl);qVZ us hl2 fun _=>BindsTo.of_defaults rfl (Y _ _ y52D) rfl rfl rfl
  have NRunner_run:qE6 l.prog w K mg base "Runner" "run" 13 K76.qFr (Dt.int 400):=⟨_,_,_,_,aCRunner,CC0Runner,⟨a52D,i52D,k52D⟩,qJJ (P:=l.prog) (w:=w) (mg:=mg) (base:=base) F52D m1 cCRunner MRunner_go_on,B52D,_,.int 400,E52D,⟨t52D,rfl⟩,fun _ _ _=>D.mkInt⟩
  have MRunner_run:=NRunner_run.full
  exact qUH F9 m1 m2 m3 m5 m7 m10 D_law_cell_at D_law_turn D_law_plain D_law_state D_law_bells cCRunner MRunner_run NRunner_run MRunner_counts MRunner_state MRunner_kept kCRunner
end K76
local macro_rules | `(tactic| k_dat 0 "h")=>`(tactic| (refine' L3.qAR.of ?a ?l ?c ?k;(case a=>k_is);(case l=>k_is);(case c=>k_is);(case k=>k_is)))
local macro_rules | `(tactic| k_dat 0 "i")=>`(tactic| (refine' L3.qBf.of ?a ?i ?l ?c ?k;(case a=>k_is);(case i=>k_is);(case l=>k_is);(case c=>k_is);(case k=>k_is)))
open PySem PySem.W PyProof.Rows
set_option maxRecDepth 100000 in
set_option maxHeartbeats 0 in
theorem PySem.Challenge.cw_asitruns_k76_empty_policy_holds : PySem.Challenge.rw_asitruns_k76_empty_policy.Holds := by
  refine K76H ?_
  k_fill
  refine L3.qPI (l:=PySem.Challenge.rw_asitruns_k76_empty_policy) 15 rfl rfl ⟨rfl,by decide,by decide⟩ (fun w h Y=>Y) ?F
  case F =>
    intro w mg fa h KX G hmg
    refine' K76.all_mk KX G hmg ?aa ?ab ?ac ?ad ?ae ?af ?ag ?ah ?ai ?aj ?ak ?al ?an ?ao ?ap ?aq ?ar ?au ?av ?aw ?ax ?ay ?a0 ?a1 ?a2 ?a3 ?a4 ?a5 ?a6 ?a7 ?a8 ?a9 ?ba ?bb ?bc ?bd ?bf ?bg ?bh ?bi ?bj ?bk ?bl ?bm ?bn ?bo ?bp ?bq ?br ?bs ?bt ?bu ?bv ?bw ?bx ?bz ?b0 ?b1 ?b2 ?b3 ?b4 ?b5 ?b6 ?b7 ?b8 ?b9 ?ca ?cb ?cc ?cd ?ce ?cf ?cg ?ch ?ci ?cj ?ck ?cl ?cm ?cn ?co ?cp ?cq ?cr ?cs ?ct ?cu ?cv ?cw ?cx ?cy ?cz ?c0 ?c1 ?c2 ?c3 ?c4 ?c5 ?c6 ?c7 ?c8 ?c9 ?da ?db ?dc ?dd ?de ?df ?dg ?dh ?di ?dj ?dk ?dl ?dm ?dn ?dp ?dq ?dr ?ds ?dt
    (case aa=>k_is)
    (case ab=>k_is)
    (case ac=>k_is)
    (case ad=>k_is)
    (case ae=>k_is)
    (case af=>k_is)
    (case ag=>k_is)
    (case ah=>k_is)
    (case ai=>k_is)
    (case aj=>k_is)
    (case ak=>k_is)
    (case al=>k_is)
    (case an=>k_is)
    (case ao=>k_is)
    (case ap=>k_is)
    (case aq=>k_is)
    (case ar=>k_is)
    (case au=>k_is)
    (case av=>k_is)
    (case aw=>k_is)
    (case ax=>k_is)
    (case ay=>k_is)
    (case a0=>k_is)
    (case a1=>k_is)
    (case a2=>k_is)
    (case a3=>k_is)
    (case a4=>k_is)
    (case a5=>k_is)
    (case a6=>k_is)
    (case a7=>k_is)
    (case a8=>k_is)
    (case a9=>k_is)
    (case ba=>k_dat 0 "h")
    (case bb=>k_dat 0 "h")
    (case bc=>k_dat 0 "i")
    (case bd=>k_dat 0 "i")
    (case bf=>k_dat 0 "i")
    (case bg=>k_dat 0 "i")
    (case bh=>k_dat 0 "h")
    (case bi=>k_dat 0 "i")
    (case bj=>k_dat 0 "i")
    (case bk=>k_dat 0 "i")
    (case bl=>k_dat 0 "h")
    (case bm=>k_dat 0 "h")
    (case bn=>k_dat 0 "h")
    (case bo=>k_dat 0 "h")
    (case bp=>k_dat 0 "h")
    (case bq=>k_dat 0 "h")
    (case br=>k_dat 0 "h")
    (case bs=>k_dat 0 "h")
    (case bt=>k_dat 0 "h")
    (case bu=>k_dat 0 "h")
    (case bv=>k_dat 0 "h")
    (case bw=>k_dat 0 "h")
    (case bx=>k_dat 0 "h")
    (case bz=>k_dat 0 "h")
    (case b0=>k_dat 0 "h")
    (case b1=>k_dat 0 "h")
    (case b2=>k_dat 0 "i")
    (case b3=>k_dat 0 "h")
    (case b4=>k_dat 0 "i")
    (case b5=>k_dat 0 "h")
    (case b6=>k_dat 0 "h")
    (case b7=>k_dat 0 "h")
    (case b8=>k_dat 0 "h")
    (case b9=>k_dat 0 "i")
    (case ca=>k_dat 0 "i")
    (case cb=>k_dat 0 "h")
    (case cc=>k_dat 0 "h")
    (case cd=>k_dat 0 "h")
    (case ce=>k_dat 0 "h")
    (case cf=>k_dat 0 "h")
    (case cg=>k_dat 0 "h")
    (case ch=>k_dat 0 "h")
    (case ci=>k_dat 0 "h")
    (case cj=>k_dat 0 "h")
    (case ck=>k_dat 0 "h")
    (case cl=>k_dat 0 "h")
    (case cm=>k_dat 0 "h")
    (case cn=>k_dat 0 "h")
    (case co=>k_dat 0 "h")
    (case cp=>k_dat 0 "h")
    (case cq=>k_dat 0 "i")
    (case cr=>k_dat 0 "i")
    (case cs=>k_is)
    (case ct=>k_is)
    (case cu=>k_is)
    (case cv=>k_is)
    (case cw=>k_is)
    (case cx=>k_is)
    (case cy=>rfl)
    (case cz=>k_dat 0 "h")
    (case c0=>k_is)
    (case c1=>k_is)
    (case c2=>rfl)
    (case c3=>decide)
    (case c4=>k_is)
    (case c5=>k_is)
    (case c6=>k_is)
    (case c7=>k_is)
    (case c8=>k_is)
    (case c9=>k_is)
    (case da=>k_is)
    (case db=>k_is)
    (case dc=>k_is)
    (case dd=>k_is)
    (case de=>k_is)
    (case df=>k_is)
    (case dg=>k_is)
    (case dh=>k_is)
    (case di=>k_is)
    (case dj=>k_is)
    (case dk=>k_is)
    (case dl=>k_is)
    (case dm=>k_is)
    (case dn=>k_is)
    (case dp=>k_is)
    (case dq=>k_is)
    (case dr=>k_is)
    (case ds=>k_is)
    (case dt=>k_is)

