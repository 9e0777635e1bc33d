import PyProof.Rows.All
import KE.KDictOf
import KE.KFromBytes
import KE.KIntText
import KE.KLam
import KE.KNestM
import KE.KPairRows
import KE.KRevIter
import KE.KRevSl
import KE.KSortTup
import KE.KTryMore
import KE.RegKIsAll
import Wide.FinOn
import Lean
import PySem.Challenge.RW_coverroll_k91_books_read_and_shown
set_option Elab.async false
set_option linter.all false
set_option compiler.extract_closed false
set_option maxRecDepth 100000
set_option maxHeartbeats 4000000
namespace PySem.W.Fast
def tw3412866783024555856:=0
def tw12460079623945319124:=0
def tw6135368915365431510:=0
def tw16879043120253903481:=0
def tw17831159480035147902:=0
def tw11179929996478247017:=0
def tw9346578221388564226:=0
def tw8039847810624513924:=0
def tw8366568821744752251:=0
def tw11542242528492127927:=0
def tw7414859067175894828:=0
def tw9433456118161042790:=0
def tw17998567011956900546:=0
def tw17550881013753737501:=0
def tw14560414900188733526:=0
def tw13470466870552854074:=0
def tw10312439022889713991:=0
def tw5856405535260884703:=0
def tw17573957514286909892:=0
def tw13409972992873042067:=0
def tw18178110358824716868:=0
def tw13667526723486646538:=0
def tw4819654766393450569:=0
def tw91174929312890012:=0
def tw14903077031918406948:=0
def tw1705039339002562705:=0
def tw14047259647835035217:=0
def tw10595505407514948190:=0
def tw10222569900563926298:=0
def tw1253959325900565705:=0
def tw198050329920173978:=0
def tw17428370224557595031:=0
def tw2778691430536779547:=0
def tw2527999588122685934:=0
def tw12844715999433418715:=0
def tw2357851686709390316:=0
def tw16960384383413566122:=0
def tw8807945419425797490:=0
def tw2272219606010078263:=0
def tw8573182526323760340:=0
def tw6550207709291519271:=0
def tw2567637355605636393:=0
def tw3121030984838830965:=0
def tw11087938730011043291:=0
def tw15194212369033710178:=0
def tw10858338987055530908:=0
def tw267976523301583139:=0
def tw12784503271092183280:=0
def tw10118380852393996414:=0
def tw2203835750818312491:=0
def tw7869335153993844791:=0
def tw2152311482736282822:=0
def tw5905322601586643413:=0
def tw12402180354584251879:=0
def tw11355708644011950229:=0
def tw18331986470592685519:=0
def tw13442222936585859977:=0
def tw8891550311461321815:=0
def tw12911038092227571731:=0
def tw1424937284019926545:=0
def tw4841088984644341772:=0
def tw11657557109092262876:=0
def tw7101240653017085741:=0
def tw5707792553773871769:=0
def tw981325488297458008:=0
def tw18419612151942549868:=0
def tw4363276091139027006:=0
def tw11771607266116208516:=0
def tw2392300999457193862:=0
def tw1781507905488462564:=0
def tw7050726780896839236:=0
def tw18013188505009348977:=0
def tw7096689724064173312:=0
def tw3518409432520601521:=0
def tw11488841181376247624:=0
def tw15257638187411112848:=0
def tw360475180379431957:=0
def tw9735865060422433822:=0
def tw16541096339724872699:=0
def tw4126261436134917247:=0
def tw9652680923579416832:=0
def tw17536899157294692296:=0
def tw17865556128127214627:=0
def tw10757576229336110667:=0
def tw11044928251294537724:=0
def tw15630634216980016778:=0
def tw17763580909451273782:=0
def tw17197963055752794626:=0
def tw13068032965151107994:=0
def tw15183729501956898476:=0
def tw5550203844872758539:=0
def tw16339162991828268179:=0
def tw8818905726337423118:=0
def tw11393360292548204596:=0
def tw11513531258414869023:=0
def tw6380352342925254267:=0
def tw16418604708062958537:=0
def tw7271650666599977443:=0
def tw10119473375583216832:=0
def tw9953390460713556017:=0
def tw3728334537844044271:=0
def tw6669668307651739628:=0
def tw713781803316902246:=0
def tw8697096911844531074:=0
def tw8477355759647904487:=0
def tw5890202559102344223:=0
def tw12420210812107767938:=0
def tw17592711711417897956:=0
def tw2415419795348378021:=0
def tw7954847136369810643:=0
def tw4406490629766734939:=0
def tw12541536969209088170:=0
def tw2529074745190134689:=0
def tw16055164004971885870:=0
def tw17222901508909836864:=0
def tw13074891048540457755:=0
def tw6994475625814599280:=0
def tw17208839788673026984:=0
def tw6390675184029620852:=0
def tw3452249868089261720:=0
def tw13030293036925258072:=0
def tw2801723763189123066:=0
def tw15037962438818548399:=0
def tw10952157561203861571:=0
def tw6550249915232989716:=0
def tw5669784607207280340:=0
def tw12922269134468749944:=0
def tw15562750477449582258:=0
def tw9258005697141611200:=0
def tw5276505940790998381:=0
def tw10195430044542396478:=0
def tw4328721723690341959:=0
def tw10122809252725819618:=0
def tw5373333237893449151:=0
def tw7321313852015154751:=0
def tw2806480785614489115:=0
def tw16389030046817275196:=0
def tw14110808960892133973:=0
def tw17647363890249921108:=0
def tw4678939634861206811:=0
def tw17976339583733273003:=0
def tw587267936833987755:=0
def tw10675095733974647279:=0
def tw3105664581466982985:=0
def tw16983874440026894373:=0
def tw206481676076270854:=0
def tw2830227249277326528:=0
def tw1853804940152141540:=0
def tw6996752530660070837:=0
def tw5212204440062519946:=0
def tw7076246473753537936:=0
def tw1645568203521148341:=0
def tw7878935041286674203:=0
def tw10361998054592894239:=0
def tw9982402058594011828:=0
def tw6632949692316181992:=0
def tw501363796238646475:=0
def tw11710875492805576811:=0
def tw14171188385041863588:=0
def tw11508688797817902375:=0
def tw10559205297363139754:=0
def tw7652783080203172556:=0
def tw1472684824243120699:=0
def tw10540727608797716925:=0
def tw3772603155235388343:=0
def tw15553299512154200596:=0
def tw16434577872432114156:=0
def tw1036644365927923924:=0
def tw15291831590780212181:=0
def tw6402073018392565981:=0
def tw13345021208422022869:=0
def tw6151859377838897828:=0
def tw9421575348108345815:=0
def tw375404729373411202:=0
def tw17208673653590744783:=0
def tw1385595607720166021:=0
def tw1427333708631511531:=0
def tw14376526485517545867:=0
def tw6218395078256702473:=0
def tw17127988469225855645:=0
def tw14837352761332049827:=0
def tw2061884946228206008:=0
def tw9800467499881591046:=0
def tw14136583546920862494:=0
def tw1057060623432082045:=0
def tw820998249887139796:=0
def tw17895093092318918318:=0
def tw4627374734985102213:=0
def tw14830223501168869090:=0
def tw13992838903023524892:=0
def tw16373187342585358772:=0
def tw14946206442013766082:=0
def tw15812888096117021048:=0
def tw13890978016709556653:=0
def tw4652882194522904371:=0
def tw16486716010695809529:=0
def tw1637372163898132965:=0
def tw3191895457868414774:=0
def tw14320466163144045078:=0
def tw16119233758255513167:=0
def tw3128204158792433586:=0
def tw4644971062360642128:=0
def tw4259918244517051752:=0
def tw947997240761997678:=0
def tw16091753146329419946:=0
def tw67893603861228461:=0
def tw3580339282703912874:=0
def tw10012798268487002211:=0
def tw12067892084538194422:=0
def tw13793899205150522318:=0
def tw10352978945957989231:=0
def tw14881269842357771455:=0
def tw13508627263666885144:=0
def tw9285814922931331429:=0
def tw2860054389773778232:=0
def tw10500922239591442371:=0
def tw8039409447904224704:=0
def tw297410055234997276:=0
def tw8683719362240024633:=0
def tw15446733261781289172:=0
def tw3708145779815293425:=0
def tw15016611636849165640:=0
def tw4687843561749013296:=0
def tw5312065323226577959:=0
def tw4309496755078268315:=0
def tw17682085404298524433:=0
def tw1153549081895535837:=0
def tw973297128535203713:=0
def tw4731530116572246473:=0
def tw2183968660600189195:=0
def tw9383631644014880740:=0
def tw1929979411356926900:=0
def tw6886494819286452827:=0
def tw13716038181446129491:=0
def tw11876392759321008006:=0
def tw15035024812064201343:=0
def tw7389897778420232282:=0
def tw10745826381341863108:=0
def tw12288150821015689015:=0
def tw13749061737234255517:=0
def tw1405516233924126987:=0
def tw4195742908056756047:=0
def tw9946179029496857839:=0
def tw14940465227257332694:=0
def tw7905620492658170793:=0
def tw7587730446103985258:=0
def tw12653344404799364897:=0
def tw16817436872083674545:=0
def tw809322761409771377:=0
def tw12033544124843840308:=0
def tw4586954038332712844:=0
def tw3155700392002532978:=0
def tw11663326380973460535:=0
def tw11551059818437820056:=0
def tw13806834855460337476:=0
def tw10187148492726576683:=0
def tw14148030692341330100:=0
def tw4756613617603758551:=0
def tw17962266491031091739:=0
def tw16908044957388833196:=0
def tw2220069931110880166:=0
def tw774924271225585615:=0
def tw5118820863789587072:=0
def tw3373142451329015390:=0
def tw16579514485948153094:=0
def tw14182984290897887179:=0
def tw113881799153493245:=0
def tw9688354427886438467:=0
def tw12477483690098270184:=0
def tw409079623020668053:=0
def tw7839947250488336456:=0
def tw4762227575141459467:=0
def tw3483642975197820759:=0
def tw18329713609466875691:=0
def tw7493936041021040906:=0
def tw8659817315872227554:=0
def tw10840846389126753079:=0
def tw17204777827835289696:=0
def tw1046882091970257470:=0
def tw8786730798982524413:=0
def tw17783787751681858022:=0
def tw4446039404320200987:=0
def tw8036386736040376181:=0
def tw12470472218767144309:=0
def tw13279321806475401059:=0
def tw10171484106477670048:=0
def tw5493150874266983716:=0
def tw13220134125715312926:=0
def tw812307844288522838:=0
def tw4095780187005417578:=0
def tw14601315735208025377:=0
def tw706610265176445956:=0
def tw11417387426043110976:=0
def tw7857294723547226798:=0
def tw4013803238919780022:=0
def tw6963405260670881257:=0
def tw4086751232416346854:=0
def tw5642872909513353219:=0
def tw11320643299981712599:=0
def tw10999617644551949388:=0
def tw1778864173325316416:=0
def tw16004826692703178498:=0
def tw12170767295125243450:=0
def tw11762219925495073374:=0
def tw17102782870317816933:=0
def tw577748251652521419:=0
def tw14197723797789380894:=0
def tw2271243894413483997:=0
def tw9183200919620180355:=0
def tw9253213542293374998:=0
def tw17719271253732321182:=0
def tw874539814372239401:=0
def tw4955797752360095439:=0
def tw6258189022095787986:=0
def tw5735800587358335555:=0
def tw6277719451652421320:=0
def tw4233332205111659345:=0
def tw15880482526489394940:=0
def tw14092426192794410714:=0
def tw4757223555011738901:=0
def tw10076612624742211708:=0
def tw8478601002859914311:=0
def tw10749526937860729864:=0
def tw5736123948940342078:=0
def tw2826585658308327723:=0
def tw15927787442464371276:=0
def tw1032931533954937598:=0
def tw3307723371293940633:=0
def tw6478701318166565411:=0
def tw4909274700961222616:=0
def tw15379607728655356627:=0
def tw6377526283948174053:=0
def tw8221816706179509788:=0
def tw7351215853633708438:=0
def tw5180958692342800513:=0
def tw2550559330287676507:=0
def tw17733688861035677016:=0
def tw1216527727699657954:=0
def tw16080658453694020348:=0
def tw1110229715711951901:=0
def tw2509635998254697440:=0
def tw12106482328139828040:=0
def tw2878411522240024102:=0
def tw13507365365993957108:=0
def tw7344760456682712437:=0
def tw8299314554231640169:=0
def tw15575128385397211348:=0
def tw15032996228941700847:=0
def tw777894213667010790:=0
def tw15097049656508473401:=0
def tw5448456701053104950:=0
def tw3255182500782959289:=0
def tw14763391377317287582:=0
def tw14467675513876145137:=0
def tw784973866445852756:=0
def tw2629496826261908624:=0
def tw7816498649994196674:=0
def tw5578812626742985565:=0
def tw7236209267084351596:=0
def tw1427592796327839522:=0
def tw6555192591448194429:=0
def tw7719802164772074930:=0
def tw12406779192654664901:=0
def tw16005004880381020969:=0
def tw1533570113636491495:=0
def tw13509263422347455131:=0
def tw9082598669944329999:=0
def tw15342761955625139317:=0
def tw8982920455889449548:=0
def tw8221027034360820017:=0
def tw67362610280145732:=0
def tw3915471984793693552:=0
def tw3264589352787361241:=0
def tw6084687448033406619:=0
def tw9873371264036253876:=0
def tw9295827031271724011:=0
def tw5000151780532698706:=0
def tw2413370138327990507:=0
def tw15659230340509491545:=0
def tw15121091955026061557:=0
def tw14787945295062482912:=0
def tw8686321006089601601:=0
def tw4160504822789162991:=0
def tw5972556014289189038:=0
def tw9118144869834662096:=0
def tw12380098339025552998:=0
def tw8901747926024923178:=0
def tw9726176613639273467:=0
def tw8346773719500368272:=0
def tw7540679772499243562:=0
def tw373353883243862503:=0
def tw15705875782236869238:=0
def tw7178840952664206959:=0
def tw13929491154367781382:=0
def tw12615528811357689329:=0
def tw12147329264016077025:=0
def tw11857625976966096498:=0
def tw11031475864161418483:=0
def tw10036092766238257211:=0
def tw8533037264791768924:=0
def tw1743788837397061501:=0
def tw16616990242678835483:=0
def tw621756006265176292:=0
def tw14847050527197374505:=0
def tw7672537196657253794:=0
def tw5908558313837506538:=0
def tw5235401868588164053:=0
def tw4652081660681234896:=0
def tw12869223934428972718:=0
def tw15833647848872288460:=0
def tw11212416610189934364:=0
def tw12860364509164465833:=0
def tw8227552872671813321:=0
def tw4963465405319322562:=0
def tw1096408017811208160:=0
def tw9351891264634634488:=0
def tw14844708228984066084:=0
def tw722189271612991202:=0
def tw18410273408456847273:=0
def tw14278468867296217458:=0
def tw17480277845626518833:=0
def tw17669049977331195899:=0
def tw11879810229937518976:=0
def tw13934267620252168365:=0
def tw10904677712971040415:=0
def tw655373917429158916:=0
def tw6244564110311641023:=0
def tw14879251442029603280:=0
def tw7811383502366527196:=0
def tw783230571065231124:=0
def tw7387679234684447065:=0
def tw7378869189421917650:=0
def tw17761426840083431626:=0
def tw16554833227512400871:=0
def tw15374545198740084825:=0
def tw5071123641552218347:=0
def tw4899433588847518360:=0
def tw16893253417154613300:=0
def tw15044408078544929403:=0
def tw10941803631521120784:=0
def tw7732700994033569826:=0
def tw3490149006603342721:=0
def tw6392641939273277346:=0
def tw17712167119464011307:=0
def tw13123481892344552031:=0
def tw1691150522841361736:=0
def tw552410885358524199:=0
def tw1419025836483456823:=0
def tw5605748220179417542:=0
def tw1577541133385233953:=0
def tw14891972756161428023:=0
def tw9626100400403564648:=0
def tw1735249548268417886:=0
def tw8206666096288956904:=0
def tw6232348259304568844:=0
def tw15089200508513582112:=0
def tw14872571069377646076:=0
def tw12641447306306811987:=0
def tw12480185160890724255:=0
def tw1162633032866134346:=0
def tw8825972196688492626:=0
def tw2819708860058890946:=0
def tw15635958678717601990:=0
def tw1195925580627966751:=0
def tw7435543118879826046:=0
def tw18030677271879802051:=0
def tw13201628042983194470:=0
def tw12599055185510974718:=0
def tw10377307265352437076:=0
def tw17283432982699381131:=0
def tw10569501225276599318:=0
def tw5098314871713060597:=0
def tw12678601708639900520:=0
def tw4009190278677299943:=0
def tw7510413118027378082:=0
def tw2651445816218830136:=0
def tw16594204547396258977:=0
def tw12422670393321347131:=0
def tw6552676713145908199:=0
def tw13425539521096267679:=0
def tw13168990467643510114:=0
def tw2744257959444572968:=0
def tw16775596312184378785:=0
def tw13145402393715164016:=0
def tw8897677562004897693:=0
def tw17920187586301188108:=0
def tw14113587549311511149:=0
def tw202599135071078550:=0
def tw16334214670595713759:=0
def tw1924785857830265149:=0
def tw4623916483416103350:=0
def tw13317134042723671892:=0
def tw11296532324992375365:=0
def tw2784406548608926955:=0
def tw11710553734493654481:=0
def tw17761883033325903673:=0
def tw9663952269817852770:=0
def tw8508416130840266038:=0
def tw7605120973882094080:=0
def tw10808421804679532271:=0
def tw14306928251754917073:=0
def tw10228212597369345731:=0
def tw17800296080995484568:=0
def tw8846190916809162105:=0
def tw1866233812686480150:=0
def tw7770265880157615862:=0
def tw7212866252730116405:=0
def tw4465429204609755580:=0
def tw17633723139987308276:=0
def tw15279750373373339520:=0
def tw5793939332321652184:=0
def tw15182579265580590379:=0
def tw6050425888830202364:=0
def tw16392682796880909279:=0
def tw12800478003660083084:=0
def tw11817215463397559052:=0
def tw11602974544616536649:=0
def tw10703443688270392191:=0
def tw8974277131317907846:=0
def tw18204340582085487229:=0
def tw16378743096840233018:=0
def tw1557942501450147476:=0
def tw17451663313682536330:=0
def tw16123346729006796874:=0
def tw15371658957973246701:=0
def tw908564191761032184:=0
def tw7236135156953511894:=0
def tw18254489923398484489:=0
def tw1467220055998531297:=0
def tw1115041819305273106:=0
def tw3407169778342381236:=0
def tw2715350359116381063:=0
def tw2521214550217656202:=0
def tw1722779312191795951:=0
def tw15435147171493089774:=0
def tw14344443549228236918:=0
def tw13536001157397057507:=0
def tw6691649937765650282:=0
def tw30792229012918566:=0
def tw2410058794738734913:=0
def tw16406120415890028466:=0
def tw12735886582293595009:=0
def tw10902464112013266211:=0
def tw4765504810242507242:=0
def tw11133307990282927060:=0
def tw8701651819748895126:=0
def tw6244188819603704035:=0
def tw1774728445126265510:=0
def tw17143034783020881981:=0
def tw17077427801572145984:=0
def tw16674808993107332745:=0
def tw13054874344051993:=0
def tw5506917453688485941:=0
def tw5452785712842519657:=0
def tw5411871171841422605:=0
def tw4782573109646394280:=0
def tw17823912426729957795:=0
def tw17078892227868830400:=0
def tw14476194528863991464:=0
def tw13982353476837668934:=0
def tw13390755304756912398:=0
def tw12405245422479135665:=0
def tw8483577618660764056:=0
def tw18174941560550854205:=0
def tw17945084336563503488:=0
def tw9861615374646698821:=0
def tw9747523015689845650:=0
def tw8133606034770013301:=0
def tw7959520236912699749:=0
def tw6862263324519033997:=0
def tw4949751917476881494:=0
def tw4376524304631224181:=0
def tw3992473099028131690:=0
def tw3960027931792635045:=0
def tw3701825588975630667:=0
def tw3669217893510986725:=0
def tw3573570604415507542:=0
def tw3440214354628382265:=0
def tw3115113580988780857:=0
def tw2854840794272807548:=0
def tw2791660924549013737:=0
def tw192444028306859919:=0
def tw17725783282781403676:=0
def tw16815971694608308178:=0
def tw16254581951619210838:=0
def tw15771622208882402853:=0
def tw15738656331467749482:=0
def tw15472243416227994564:=0
def tw13237121417849651635:=0
def tw1300348085558509265:=0
def tw12440507997238119218:=0
def tw12126037239891872670:=0
def tw11966702821756341846:=0
def tw11061000550535322514:=0
def tw10921973554013450324:=0
def tw10086431876713111693:=0
def tw10074215743927638109:=0
def tw10026843677304944261:=0
def tw5721734478914711313:=0
def tw4560430637206242537:=0
def tw2890638782651648435:=0
def tw718194988983880947:=0
def tw14481335219630199221:=0
def tw6257222438724774868:=0
def tw5708036331671584601:=0
def tw3084118148886295664:=0
def tw859255495449765099:=0
def tw4986050757767771849:=0
def tw3674289196195664750:=0
def tw3240193391526831813:=0
def tw6220415424308720111:=0
def tw9445441762853099550:=0
def tw9443961054951651142:=0
def tw5434664294811113573:=0
def tw3243863285329408265:=0
def tw2390862262166089553:=0
def tw16198688228248987669:=0
def tw14974522908161765872:=0
def tw14651261452915590804:=0
def tw14290392180502213912:=0
def tw13532662014004669158:=0
def tw11905458141705006878:=0
def tw1170062543795391361:=0
def tw7922662028457730661:=0
def tw2019713092319221171:=0
def tw12175214713011338133:=0
def tw17620953024694853083:=0
def tw17018447818965586012:=0
def tw2940915262206219858:=0
def tw221598120655739471:=0
def tw8796892511351090607:=0
def tw7926678316137805997:=0
def tw2502553710088974849:=0
def tw13879021397170344317:=0
def tw5379565184854424419:=0
def tw3924081725597708131:=0
def tw9933534170272778169:=0
def tw7014739545311373877:=0
def tw4274819122507362760:=0
def tw3344774070695860552:=0
def tw2437901624676863692:=0
def tw4816239690209198360:=0
def tw18169955397574168829:=0
def tw9567120540586962366:=0
def tw8881751813597169658:=0
def tw8477883701041000802:=0
def tw6810386028995535768:=0
def tw652839691568769008:=0
def tw5998714749303970901:=0
def tw5951766131722822050:=0
def tw5262747457722847289:=0
def tw4575741951411975687:=0
def tw4208434711177391322:=0
def tw3637445040836310926:=0
def tw3386532296307432990:=0
def tw3250800726750819444:=0
def tw2260104122218757024:=0
def tw2130023378501405183:=0
def tw1988001137665412930:=0
def tw1859455050913958623:=0
def tw18315590438613502161:=0
def tw1749807796982971612:=0
def tw1669805538996778976:=0
def tw16339006490407994687:=0
def tw16215992986148595839:=0
def tw16207296558187073323:=0
def tw1595337560968539812:=0
def tw15436333043466954509:=0
def tw15196906591442471361:=0
def tw12524839274893268089:=0
def tw12095204816912541718:=0
def tw11702681625526335114:=0
def tw10420715087564583647:=0
def tw14621141582498771476:=0
def tw2784275450335973486:=0
def tw16713060743654393785:=0
def tw9810051051091081507:=0
def tw16789208742011717039:=0
def tw14723959402011904499:=0
def tw13624484109778744054:=0
def tw10326578402667810428:=0
def tw3816308614780946643:=0
def tw9795553522386413284:=0
def tw5179610419723739567:=0
def tw5459750357925865351:=0
def tw592299667953150144:=0
def tw3574865061648343163:=0
def tw9924246924045298913:=0
def tw6918647052057908556:=0
def tw8670942967461621225:=0
def tw6076476623892170282:=0
def tw5952293938774647697:=0
def tw15083254879170478255:=0
def tw14847875286938415020:=0
def tw13121271622915400725:=0
def tw14761647948222432026:=0
def tw9395447833474179417:=0
def tw9057075322673336809:=0
def tw8087557726420358762:=0
def tw7999445416610841108:=0
def tw7256557424150809353:=0
def tw7137331251769434810:=0
def tw6302983219421231284:=0
def tw5605642414104832613:=0
def tw4332503184934791999:=0
def tw353314801554514749:=0
def tw2699471581893218349:=0
def tw2538224420378658085:=0
def tw2114224943215624802:=0
def tw1990789793284378808:=0
def tw1861696148844948261:=0
def tw18425066343945496000:=0
def tw17944923499492560365:=0
def tw17865299991994131540:=0
def tw17437432957898321061:=0
def tw1673307339506042050:=0
def tw16507346353766419908:=0
def tw16220558462084918382:=0
def tw14502153684278087200:=0
def tw14426316862566223222:=0
def tw13724125838756592856:=0
def tw13046418769328530671:=0
def tw12727672732947193923:=0
def tw11891589860478805155:=0
def tw11487980702243143562:=0
def tw10353046173783958563:=0
def tw10316739233748443875:=0
def tw10038623840868888863:=0
def tw8156815564227683842:=0
def tw5427729840733123214:=0
def tw3754405373884733565:=0
def tw6373360348270951877:=0
def tw16384805727871960696:=0
def tw10190240099479563309:=0
def tw11064842801467730537:=0
def tw9756433768350896999:=0
def tw17804826409310098299:=0
def tw17115194872264601088:=0
def tw15289314485750417485:=0
def tw141218870284900652:=0
def tw10841719559373878451:=0
def tw7470911611274960218:=0
def tw6025989367232389085:=0
def tw3982665325667972662:=0
def tw15321804258100928503:=0
def tw6526097272131919288:=0
def tw1476605402171462986:=0
def tw6525882361727267334:=0
def tw18120322483139640784:=0
def tw1775931677557274345:=0
def tw11844007328608977726:=0
end PySem.W.Fast
namespace PySem.W
def zpl (o : Obj) : Option Obj := Heap.get? ⟨#[o], default⟩ 0
def zpk : List Nat → Nat → List Obj → List (Option Obj)
  | [], _, _ => []
  | a :: as, i, l => match Nat.ble i a, l.drop (a - i) with
    | true, o :: m => zpl o :: zpk as (a + 1) m
    | _, _ => [none]
theorem zpf {f : Nat → Option Obj} : ∀ {as : List Nat} {i : Nat} {l vs : List Obj}, (∀ j, f (i + j) = l[j]?.bind zpl) → zpk as i l = vs.map some → as.map f = vs.map some
  | [], _, _, _, _, e => e
  | a :: as, i, l, vs, h, e => by
    rw [zpk] at e
    split at e
    · rename_i o m h1 h2
      have h1 : i ≤ a := Nat.le_of_ble_eq_true h1
      have hl : ∀ j, l[a - i + j]? = (o :: m)[j]? := fun j => by rw [← h2, List.getElem?_drop]
      cases vs with
      | nil => cases e
      | cons v vs =>
        rw [List.map_cons] at e ⊢
        injection e with e1 e2
        have fa : f a = zpl o := by
          have := h (a - i)
          rw [Nat.add_sub_cancel' h1] at this
          rw [this]
          exact congrArg (·.bind zpl) (hl 0)
        rw [List.map_cons, fa, e1, zpf (fun j => ?_) e2]
        have := h (a - i + (1 + j))
        rw [show i + (a - i + (1 + j)) = a + 1 + j by omega] at this
        rw [this, hl, Nat.add_comm 1 j]
        rfl
    · cases vs with
      | nil => cases e
      | cons v vs => cases e
def zpH (K : Params → Frag) (as : List Addr) (e : ∀ P, as = (K P).map (·.1)) (ts : List Addr) (_ : 0 = 0) : Hook :=
  ⟨_, fun s => (zpk as 0 s.heap.objs.toList, ts.map s.heap.get?), (kmHook K as e ts).val, (kmHook K as e ts).says, fun w s x => (kmHook K as e ts).of w s (by
    have y : zpk as 0 s.heap.objs.toList = (K w.params).map fun p => some p.2 := congrArg Prod.fst x
    have v : ts.map s.heap.get? = ((kmHook K as e ts).val w).2 := congrArg Prod.snd x
    refine Prod.ext ?_ v
    show as.map s.heap.get? = (K w.params).map fun p => some p.2
    rw [← Function.comp_def some, ← List.map_map] at y ⊢
    exact zpf (fun j => by rw [Nat.zero_add, Array.getElem?_toList]; unfold Heap.get?; cases s.heap.objs[j]? <;> rfl) y), (kmHook K as e ts).keeps⟩
end PySem.W
local macro_rules | `(tactic| o_head ($_ $k $a $e $t)) => `(tactic| o_head (PySem.W.zpH $k $a $e $t rfl))
local macro_rules | `(tactic| o_head ($_ $k $a $e)) => `(tactic| o_head (PySem.W.zpH $k $a $e [] rfl))
set_option maxHeartbeats 0 in
open_top Zhd for PySem.Challenge.rw_coverroll_k91_books_read_and_shown
set_option tactic.hygienic false
local macro_rules|`(tactic|ac_nf)=>`(tactic|decide +kernel)
local macro_rules|`(tactic|injections)=>`(tactic|exact ⟨rfl,rfl,rfl,by decide +kernel,rfl,by decide +kernel,by decide +kernel⟩)
set_option hygiene false in
local macro_rules|`(tactic|bv_omega)=>`(tactic|refine F.ok sc (λvs H Q E h=>?_) (λcdv A outer s H vs Q E hr h=>?_))
open List renaming length_map -> zAa, length_append -> zAc, length_cons -> zAe, map_append -> zAf, getElem?_eq_getElem -> zAg, size_toArray -> zAh, mem_cons_of_mem -> zAi, mem_cons -> zAj, mem_cons_self -> zAk, mem_singleton -> zAp, mem_of_getElem? -> zAs, take_length -> zAt, getElem?_eq_some_iff -> zAu, map_cons -> zAv, length_take -> zAw, getElem?_map -> zAx, mem_map -> zAz, append_assoc -> zAA, replicate -> zAC, mem_append -> zAF, append_nil -> zAI, mem_append_right -> zAM, range -> zAO, length_replicate -> zAS, getD_eq_getElem?_getD -> zAT, take_zero -> zAU, not_mem_nil -> zAV, length_range -> zAW, length_singleton -> zAX, cons_append -> zAZ, nodup_append -> zBa, filterMap_cons -> zBb, getElem_of_mem -> zBc, nodup_cons -> zBd, foldl_cons -> zBe, sum_cons -> zBf, mem_range -> zBg, drop_drop -> zBi, map_map -> zBk, zipWith -> zBl, getElem_mem -> zBn, filterMap_append -> zBo, mem_append_left -> zBp, eq_of_mem_replicate -> zBu, flatten_cons -> zBv, replicate_succ -> zBw, lookup_cons -> zBx, map_nil -> zBy, length_filter_le -> zBB, length_drop -> zBE, all_eq_true -> zBG, find?_cons -> zBH, take_of_length_le -> zBJ, getElem_toArray -> zBM, getElem?_append_right -> zBO, lookup -> zBP, range_succ -> zBR, drop_eq_getElem_cons -> zBS, flatMap_cons -> zBX, all_cons -> zBZ
open PySem.W renaming Frag -> zAb, findIn -> zAd, mg_of -> zAl, nsIn -> zAq, keepIn -> zAJ, fnOf -> zAK, emptyDict -> zAL, mg_none_of -> zAN, codeIn -> zAP, instObj -> zAQ, kia_one -> zAY, kitOne -> zBh, isFn -> zBs, methodCall_KW -> zBz, specialIn -> zBD, plainGet -> zBL, makesIn -> zBQ, callWith_K -> zBT, hasDictIn -> zBW, readsIn -> zCb, findCls -> zCc
open PySem.Heap renaming get?_push_of_some -> zAm, lt_size -> zAr, get?_push_size -> zAG, get?_update_other -> zBj, SameBut -> zBq, get?_update_self -> zBK, size_push -> zBV
open Nat renaming le_refl -> zAn, ne_of_lt -> zAy, zero_le -> zAB, le_trans -> zAD, lt_of_lt_of_le -> zAE, mod_lt -> zBm, ne_of_gt -> zBr, mul_le_mul_right -> zBt, not_lt_zero -> zBA, lt_irrefl -> zBC, pow_le_pow_right -> zBN, lt_of_le_of_lt -> zBU, le_succ -> zBY, lt_succ_self -> zCa
open Bool renaming false_ne_true -> zAo, and_eq_true -> zBF, false_eq_true -> zBI
open Option renaming map_eq_some_iff -> zAH
open Array renaming length_toList -> zAR
open PySem renaming wpAny_bind -> zCd, wpAny_pure -> zCe, sizeLine_eq -> zCf, bootBuiltins -> zCg, FuncData -> zCh, mainGlobals -> zCi
namespace L2
open PySem PySem.Spec PyProof.Rows
abbrev Jq:=Sum Int Str
def Yz:Jq->Value->Bool
 |.inl k,v=>Value.isInt k v
 |.inr x,v=>Value.isStrOf x v
def VD (w:World):Jq->Int
 |.inl k=>hashInt k
 |.inr x=>hashStr w x
theorem Ei:∀ {k:Jq} {v:Value},Yz k v=true->(∃ i t,k=Sum.inl i/\v=Value.int i t)\/(∃ x t,k=Sum.inr x/\v=Value.str x t)
 |.inl i,v,h=>by
  obtain⟨t,e⟩:=Value.isInt_shape (k:=i) (v:=v) h;exact .inl ⟨i,t,rfl,e⟩
 |.inr x,v,h=>by
  obtain⟨t,e⟩:=Value.isStrOf_shape (x:=x) (v:=v) h;exact .inr ⟨x,t,rfl,e⟩
def DF (i:Int) (t:Tok):Yz (.inl i) (.int i t)=true:=by simp [Yz,Value.isInt]
def EJ (x:Str) (t:Tok):Yz (.inr x) (.str x t)=true:=by simp [Yz,Value.isStrOf]
def PN (a b:Int):decide ((Sum.inl a:Jq)=Sum.inl b)=(a==b):=by
 by_cases e:a=b
 .subst e;simp
 .have h:¬ (Sum.inl a:Jq)=Sum.inl b:=λq=>e (Sum.inl.inj q)
  rw[decide_eq_false h];exact (beq_eq_false_iff_ne.mpr e).symm
def OJ (a b:Str):decide ((Sum.inr a:Jq)=Sum.inr b)=decide (a=b):=by
 by_cases e:a=b
 .subst e;simp
 .have h:¬ (Sum.inr a:Jq)=Sum.inr b:=λq=>e (Sum.inr.inj q)
  rw[decide_eq_false h,decide_eq_false e]
def PH (a:Int) (b:Str):decide ((Sum.inl a:Jq)=Sum.inr b)=false:=decide_eq_false (λq=>nomatch q)
def NX (a:Str) (b:Int):decide ((Sum.inr a:Jq)=Sum.inl b)=false:=decide_eq_false (λq=>nomatch q)
def Ej (prog:Program) (w:World):PySem.KeyKind prog w Jq where
 is:=Yz
 hash:=VD w
 inj:=λv a b ha hb=>by
  rcases Ei ha with ⟨i,t,rfl,rfl⟩|⟨x,t,rfl,rfl⟩
  .rcases Ei hb with ⟨j,u,rfl,e⟩|⟨y,u,rfl,e⟩
   .injection e with e1 _;rw[e1]
   .exact nomatch e
  .rcases Ei hb with ⟨j,u,rfl,e⟩|⟨y,u,rfl,e⟩
   .exact nomatch e
   .injection e with e1 _;rw[e1]
 byValue:=λk v h=>by
  rcases Ei h with ⟨i,t,rfl,rfl⟩|⟨x,t,rfl,rfl⟩ <;> rfl
 pyHash:=λhv h=>by
  rcases Ei hv with ⟨i,t,rfl,rfl⟩|⟨x,t,rfl,rfl⟩
  .exact wpAny_pyHash_int h
  .exact wpAny_pyHash_str h
 eqBool:=λhu hv h=>by
  rcases Ei hu with ⟨i,t,rfl,rfl⟩|⟨x,t,rfl,rfl⟩
  .rcases Ei hv with ⟨j,u,rfl,rfl⟩|⟨y,u,rfl,rfl⟩
   .rw[PN] at h;exact wpAny_eqBool_int h
   .rw[PH] at h;exact SeqAt.EqAt.int_str i t y u _ _ _ _ h
  .rcases Ei hv with ⟨j,u,rfl,rfl⟩|⟨y,u,rfl,rfl⟩
   .rw[NX] at h;exact SeqAt.EqAt.str_int x t j u _ _ _ _ h
   .rw[OJ] at h;exact wpAny_eqBool_str h
 «strs» := λk x t v h=>by
  rcases Ei h with ⟨i,u,rfl,e⟩|⟨y,u,rfl,e⟩
  .exact nomatch e
  .injection e with e1 _
   subst e1;cases v <;> rfl
def T6 (prog:Program) (w:World) (i:Int) (t:Tok):(Ej prog w).is (.inl i) (.int i t)=true:=DF i t
def U8 (prog:Program) (w:World) (x:Str) (t:Tok):(Ej prog w).is (.inr x) (.str x t)=true:=EJ x t
inductive V where
 |non|bl (b:Bool)|int (i:Int)|str (x:Str)|byt (b:Array UInt8)|flt (b:UInt64)|ref (a:Addr)|ty (n:String)
 deriving DecidableEq
def WS:V->Value->Prop
 |.non,u=>u=Value.none
 |.bl b,u=>u=Value.bool b
 |.int i,u=>∃ t,u=Value.int i t
 |.str x,u=>∃ t,u=Value.str x t
 |.byt b,u=>∃ t,u=Value.bytes b t
 |.flt b,u=>∃ t,u=Value.float b t
 |.ref a,u=>u=Value.ref a
 |.ty n,u=>u=Value.type n
abbrev WR:List V->List Value->Prop:=Paired WS
def WR.length {xs:List V} {us:List Value} (r:WR xs us):xs.length=us.length:=Paired.length r
theorem WR.get:∀ {xs:List V} {us:List Value} {i:Nat} {x:V},WR xs us->xs[i]?=some x->∃ u,us[i]?=some u/\WS x u
 |_,_,_,_,.nil,e=>by simp at e
 |_,_,0,_,.cons r _,e=>by simp at e;subst e;exact⟨_,rfl,r⟩
 |_,_,i+1,x,.cons _ t,e=>by
  obtain⟨u,h1,h2⟩:=WR.get (i:=i) (x:=x) t (by simpa using e);exact⟨u,by simpa using h1,h2⟩
theorem WR.set {x:V} {u:Value} (r:WS x u):∀ {xs:List V} {us:List Value} (i:Nat),WR xs us->WR (xs.set i x) (us.set i u)
 |_,_,_,.nil=>.nil
 |_,_,0,.cons _ t=>.cons r t
 |_,_,i+1,.cons q t=>.cons q (WR.set r i t)
theorem WR.append:∀ {xs ys:List V} {us ws:List Value},WR xs us->WR ys ws->WR (xs++ys) (us++ws)
 |_,_,_,_,.nil,s=>s
 |_,_,_,_,.cons r t,s=>.cons r (WR.append t s)
theorem WR.take:∀ {xs:List V} {us:List Value} (n:Nat),WR xs us->WR (xs.take n) (us.take n)
 |_,_,0,_=>.nil
 |_,_,_+1,.nil=>.nil
 |_,_,n+1,.cons r t=>.cons r (WR.take n t)
theorem WR.drop:∀ {xs:List V} {us:List Value} (n:Nat),WR xs us->WR (xs.drop n) (us.drop n)
 |_,_,0,r=>r
 |_,_,_+1,.nil=>.nil
 |_,_,n+1,.cons _ t=>WR.drop n t
def WR.none_of:∀ {xs:List V} {us:List Value} {i:Nat},WR xs us->xs[i]?=none->us[i]?=none:=λ{xs us i} r e=>by
 have h1:=r.length;have h2:xs.length<=i:=List.getElem?_eq_none_iff.mp e;exact List.getElem?_eq_none_iff.mpr (by omega)
def XM:Option V->Option Value->Prop
 |some v,some u=>WS v u
 |none,none=>True
 |_,_=>False
def KV {κ:Type}:List (κ×V)->List (κ×Value)->Prop:=Paired λ(p:κ×V) (q:κ×Value)=>p.1=q.1/\WS p.2 q.2
def kV:Jq->V
 |.inl i=>.int i
 |.inr x=>.str x
inductive HO where
 |lst (xs:List V)
 |tup (xs:List V)
 |dK (kvs:List (Jq×V))|dT (kvs:List (List Jq×V))
 |set (S:Int->Bool) (n:Nat)
 |ins (C dx:Addr) (fs:List (Str×V))
 |own (x:Addr)
 |xd (fs:List (Str×V))
 |met (f x:Addr)
 |rng (lo hi:Int)
 |frz (o:Obj) (u:HO)
 |tbl (ps:Array Value)
 |ext (φ:Heap->Prop)
abbrev Hp:=Addr->Option HO
def upd (H:Hp) (a:Addr) (o:HO):Hp:=λb=>if b=a then some o else H b
def Ac {H:Hp} {a:Addr} {o:HO}:upd H a o a=some o:=by unfold upd;rw[if_pos rfl]
def Au {H:Hp} {a b:Addr} {o:HO} (h:b≠a):upd H a o b=H b:=by unfold upd;rw[if_neg h]
def Eu {H:Hp} {a b:Addr} {o u:HO} (h:H a=some o) (h':H b=some u) (d:o≠u):a≠b:=by
 intro e;subst e;rw[h] at h';exact d (Option.some.inj h')
def Ak {H:Hp} {a b:Addr} {o:HO} (h:H a=some o) (h':H b=none):a≠b:=by
 intro e;subst e;rw[h] at h';cases h'
section
variable (P:Program) (w:World)
def WY (H:Hp) (h:Heap) (a:Addr):HO->Prop
 |.lst xs=>xs.length<=sizeLine/\∃ (its:List Value) (n:Nat),WR xs its/\h.get? a=some { cls:=.type "list",data:=.seq its.toArray n }
 |.tup xs=>xs.length<=sizeLine/\∃ its:List Value,WR xs its/\IsTup h a its.toArray
 |.dK kvs=>kvs.length<=sizeLine/\(a==sysModules)=false/\∃ vs,KV kvs vs/\h.DictOf (Ej P w) a vs
 |.dT kvs=>kvs.length<=sizeLine/\(a==sysModules)=false/\∃ xs:List (List Jq×Addr×Value),
   Paired (λ(p:List Jq×V) (q:List Jq×Addr×Value)=>p.1=q.1/\H q.2.1=some (.tup (p.1.map kV))/\WS p.2 q.2.2) kvs xs /\
   ∃ o es ep,h.get? a=some o/\o.ExactDict/\o.data=.dict es ep/\es.toList=xs.map (entryOfKey (tupleKind (Ej P w)))/\(xs.map (·.1)).Nodup
 |.set S n=>h.SetOf (intKind P w) a S n
 |.ins C dx fs=>H dx=some (.own a)/\fs.length<=1000/\dx≠a/\h.get? a=some (zAQ C dx) /\
   ∃ mA,h.Ns1 dx mA/\(∀ f,XM (fs.lookup f) (mA f))/\PySem.Within mA (fs.map (·.1))
 |.own _=>∃ o,h.get? a=some o
 |.xd fs=>∃ mA,h.Ns1 a mA/\∀ f,XM (fs.lookup f) (mA f)
 |.rng lo hi=>∃ t u v,h.get? a=some { cls:=.type "range",data:=.fields #[.int lo t,.int hi u,.int 1 v] }
 |.frz o u=>h.get? a=some o/\WY H h a u
 |.tbl ps=>h.get? a=some { cls:=.none,data:=.fields ps }
 |.met f x=>h.get? a=some (PySem.W.methodObj (.ref f) (.ref x))
 |.ext φ=>φ h/\(∃ o,h.get? a=some o)/\∀ h1 h2:Heap,φ h1->(∀ o,h1.get? a=some o->h2.get? a=some o)->φ h2
def XJ (H:Hp) (h:Heap):Prop:=∀ a o,H a=some o->WY P w H h a o
end
section
variable {P:Program} {w:World} {H H':Hp} {h h':Heap} {a:Addr} {o:HO}
def WY.lt (x:WY P w H h a o):a<h.objs.size:=by
 cases o with
 |lst xs=>obtain⟨_,_,_,_,e⟩:=x;exact zAr e
 |tup xs=>obtain⟨_,_,_,p⟩:=x;exact p.lt
 |dK kvs=>obtain⟨_,_,_,_,o,_,_,e,_⟩:=x;exact zAr e
 |dT kvs=>obtain⟨_,_,_,_,o,_,_,e,_⟩:=x;exact zAr e
 |set S n=>obtain⟨o,_,_,_,e,_⟩:=x;exact zAr e
 |ins C dx fs=>obtain⟨_,_,_,e,_⟩:=x;exact zAr e
 |own y=>obtain⟨_,e⟩:=x;exact zAr e
 |xd fs=>obtain⟨_,⟨_,_,_,e,_⟩,_⟩:=x;exact zAr e
 |rng lo hi=>obtain⟨_,_,_,e⟩:=x;exact zAr e
 |frz ob u=>obtain⟨e,_⟩:=x;exact zAr e
 |tbl ps=>exact zAr (show h.get? a=some _ from x)
 |met f y=>exact zAr (show h.get? a=some _ from x)
 |ext φ=>obtain⟨_,⟨_,e⟩,_⟩:=x;exact zAr e
theorem Paired.mapP {α β:Type} {F G:α->β->Prop}:∀ {l₁:List α} {l₂:List β},Paired F l₁ l₂->(∀ a b,F a b->G a b)->Paired G l₁ l₂
 |_,_,.nil,_=>.nil
 |_,_,.cons r t,f=>.cons (f _ _ r) (Paired.mapP t f)
def WY.stay (x:WY P w H h a o) (k:∀ b u,(b=a\/H b=some (.own a))->h.get? b=some u->h'.get? b=some u)
  (ho:∀ b,H b=some (.own a)->H' b=some (.own a)) (ht:∀ b xs,H b=some (.tup xs)->H' b=some (.tup xs)):WY P w H' h' a o:=by
 induction o with
 |lst xs=>obtain⟨z,its,n,r,e⟩:=x;exact⟨z,its,n,r,k _ _ (.inl rfl) e⟩
 |tup xs=>obtain⟨z,its,r,ob,e,c⟩:=x;exact⟨z,its,r,ob,k _ _ (.inl rfl) e,c⟩
 |dK kvs=>obtain⟨z,y,vs,r,ob,es,ep,e,c⟩:=x;exact⟨z,y,vs,r,ob,es,ep,k _ _ (.inl rfl) e,c⟩
 |dT kvs=>
  obtain⟨z,y,xs,r,ob,es,ep,e,c⟩:=x;exact⟨z,y,xs,Paired.mapP r λp q z=>⟨z.1,ht _ _ z.2.1,z.2.2⟩,ob,es,ep,k _ _ (.inl rfl) e,c⟩
 |set S n=>obtain⟨ob,es,ep,t,e,c⟩:=x;exact⟨ob,es,ep,t,k _ _ (.inl rfl) e,c⟩
 |ins C dx fs=>
  obtain⟨d,z,ne,e,mA,⟨od,es,ep,e2,c⟩,r⟩:=x;exact⟨ho _ d,z,ne,k _ _ (.inl rfl) e,mA,⟨od,es,ep,k _ _ (.inr d) e2,c⟩,r⟩
 |own y=>obtain⟨ob,e⟩:=x;exact⟨ob,k _ _ (.inl rfl) e⟩
 |xd fs=>obtain⟨mA,⟨od,es,ep,e,c⟩,r⟩:=x;exact⟨mA,⟨od,es,ep,k _ _ (.inl rfl) e,c⟩,r⟩
 |rng lo hi=>obtain⟨t,u,v,e⟩:=x;exact⟨t,u,v,k _ _ (.inl rfl) e⟩
 |frz ob u ih=>obtain⟨e,q⟩:=x;exact⟨k _ _ (.inl rfl) e,ih q⟩
 |tbl ps=>
  have e:h.get? a=some { cls:=.none,data:=.fields ps }:=x;show h'.get? a=some { cls:=.none,data:=.fields ps };exact k a _ (.inl rfl) e
 |met f y=>
  have e:h.get? a=some (PySem.W.methodObj (.ref f) (.ref y)):=x;show h'.get? a=some (PySem.W.methodObj (.ref f) (.ref y));exact k a _ (.inl rfl) e
 |ext φ=>obtain⟨p,⟨o,e⟩,st⟩:=x;exact⟨st _ _ p λo q=>k _ _ (.inl rfl) q,⟨o,k _ _ (.inl rfl) e⟩,st⟩
def XJ.lt (x:XJ P w H h) (e:H a=some o):a<h.objs.size:=(x a o e).lt
def XJ.fresh (x:XJ P w H h) (e:h.objs.size<=a):H a=none:=by
 cases q:H a with
 |none=>rfl
 |some u=>exact absurd (zAE (x.lt q) e) (zBC _)
def XJ.kept (x:XJ P w H h) (k:∀ b u,h.get? b=some u->h'.get? b=some u):XJ P w H h':=λa o e=>
 (x a o e).stay (λb u _ q=>k b u q) (λ_ q=>q) λ_ _ q=>q
def XJ.laid (x:XJ P w H h) (k:∀ b u,h.get? b=some u->h'.get? b=some u) (hp:h.objs.size<=a) (new:WY P w (upd H a o) h' a o):XJ P w (upd H a o) h':=λb u e=>by
 have hn:=x.fresh hp;by_cases hb:b=a
 .subst hb;rw[Ac] at e;cases e;exact new
 .rw[Au hb] at e
  exact (x b u e).stay (λc v _ q=>k c v q) (λc q=>by rw[Au (Ak q hn)];exact q) λc xs q=>by rw[Au (Ak q hn)];exact q
end
def Rd (H:Hp) (a:Addr) (u:HO):Prop:=H a=some u\/∃ o,H a=some (.frz o u)
def Rd.ok {P:Program} {w:World} {H:Hp} {h:Heap} {a:Addr} {u:HO} (r:Rd H a u) (x:XJ P w H h):WY P w H h a u:=by
 rcases r with r|⟨o,r⟩
 .exact x a u r
 .obtain⟨_,q⟩:=x a _ r
  exact q
def QO:Option HO->Prop
 |some (.lst _)=>True
 |some (.dK _)=>True
 |some (.dT _)=>True
 |some (.set _ _)=>True
 |some (.ins _ _ _)=>True
 |some (.ext _)=>True
 |_=>False
section
variable {P:Program} {w:World} {H:Hp} {h h':Heap} {x e:Addr} {o':HO}
def XJ.write (ok:XJ P w H h) (mu:QO (H x)) (he:e=x\/H e=some (.own x)) (k:∀ b u,b≠e->h.get? b=some u->h'.get? b=some u) (heo:∃ u,h'.get? e=some u)
  (new:WY P w (upd H x o') h' x o'):XJ P w (upd H x o') h':=λb u q=>by
 have nown:∀ c y,H c=some (.own y)->c≠x:=λc y r z=>by subst z;rw[r] at mu;exact mu
 have ntup:∀ c xs,H c=some (.tup xs)->c≠x:=λc xs r z=>by subst z;rw[r] at mu;exact mu
 by_cases hb:b=x
 .subst hb;rw[Ac] at q;cases q;exact new
 .rw[Au hb] at q
  by_cases hbe:b=e
  .have q':H b=some (.own x):=by
    rcases he with z|z
    .exact absurd (hbe.trans z) hb
    .rw[hbe];exact z
   rw[q] at q';cases q';obtain⟨v,hv⟩:=heo;exact⟨v,by rw[hbe];exact hv⟩
  .refine (ok b u q).stay (λc v hc r=>k c v ?_ r) (λc r=>by rw[Au (nown c b r)];exact r) λc xs r=>by rw[Au (ntup c xs r)];exact r
   rcases hc with rfl|hc
   .exact hbe
   .rintro rfl
    rcases he with z|z
    .exact nown c b hc z
    .rw[hc] at z;cases z;exact hb rfl
end
structure Un (fs ex:List Addr) (H H':Hp) (h h':Heap):Prop where
 keep:∀ b o,h.get? b=some o->H b=none->b∉fs->b∉ex->h'.get? b=some o
 slot:∀ b o,h.get? b=some o->H b=none->b∈fs->b∉ex->∃ sl,h'.get? b=some { o with slots:=sl }
 free:∀ b o,h.get? b=some o->H b=none->b∉ex->H' b=none
 there:∀ b o,h.get? b=some o->b∉ex->∃ o',h'.get? b=some o'
 tups:∀ b xs,H b=some (.tup xs)->H' b=some (.tup xs)
 frzs:∀ b o u,H b=some (.frz o u)->H' b=some (.frz o u)
 tbls:∀ b ps,H b=some (.tbl ps)->∃ more,H' b=some (.tbl (ps++more))
section
variable {fs ex:List Addr} {H H1:Hp} {h h1 h':Heap} {a x e:Addr} {o:HO}
def Un.any (u:Un fs ex H H1 h h1) {b:Addr} {ob:Obj} (q:h.get? b=some ob) (n:H b=none) (hx:b∉ex):∃ sl,h1.get? b=some { ob with slots:=sl }:=by
 by_cases hb:b∈fs
 .exact u.slot b ob q n hb hx
 .exact⟨ob.slots,u.keep b ob q n hb hx⟩
def Un.kept (k:∀ b u,h.get? b=some u->h'.get? b=some u):Un fs ex H H h h':=
 ⟨λb ob q _ _ _=>k b ob q,λb ob q _ _ _=>⟨ob.slots,k b ob q⟩,λ_ _ _ n _=>n,λb ob q _=>⟨ob,k b ob q⟩,λ_ _ q=>q,λ_ _ _ q=>q,λ_ ps q=>⟨#[],by rw[q];simp⟩⟩
def Un.refl:Un fs ex H H h h:=Un.kept λ_ _ q=>q
def Un.laid (k:∀ b u,h.get? b=some u->h'.get? b=some u) (hp:h.objs.size<=a) (hn:H a=none):Un fs ex H (upd H a o) h h' where
 keep:=λb u q _ _ _=>k b u q
 slot:=λb u q _ _ _=>⟨u.slots,k b u q⟩
 free:=λb u q n _=>by rw[Au (zAy (zAE (zAr q) hp))];exact n
 there:=λb u q _=>⟨u,k b u q⟩
 tups:=λb xs q=>by rw[Au (Ak q hn)];exact q
 frzs:=λb u xs q=>by rw[Au (Ak q hn)];exact q
 tbls:=λb ps q=>⟨#[],by rw[Au (Ak q hn),q];simp⟩
def Un.write (mu:QO (H x)) (he:e=x\/H e=some (.own x)) (k:∀ b u,b≠e->h.get? b=some u->h'.get? b=some u) (heo:∃ u,h'.get? e=some u):Un fs ex H (upd H x o) h h':=by
 have hx:∀ b,H b=none->b≠x:=λb n z=>by subst z;rw[n] at mu;exact mu
 have hb:∀ b,H b=none->b≠e:=λb n z=>by
  subst z;rcases he with r|r
  .exact hx b n r
  .rw[n] at r;cases r
 have hm:∀ b u,H b=some u->¬ QO (some u)->b≠x:=λb u q nm z=>by subst z;rw[q] at mu;exact nm mu
 refine⟨λb u q n _ _=>k b u (hb b n) q,λb u q n _ _=>⟨u.slots,k b u (hb b n) q⟩,λb u q n _=>by rw[Au (hx b n)];exact n,λb u q _=>?_,
  λb xs q=>by rw[Au (hm b _ q λz=>z)];exact q,λb u xs q=>by rw[Au (hm b _ q λz=>z)];exact q,λb ps q=>⟨#[],by rw[Au (hm b _ q λz=>z),q];simp⟩⟩
 by_cases hbe:b=e
 .subst hbe;exact heo
 .exact⟨u,k b u hbe q⟩
end
def SX (h:Heap) (H:Hp):List Addr:=(zAO h.objs.size).filter λa=>(H a).isSome
def L1 (h:Heap) (H:Hp):Heap:=PySem.W.hideAll h (SX h H)
def DV (h:Heap) (H:Hp):(L1 h H).objs.size=h.objs.size:=PySem.W.hideAll_size _ _
def JJ {h:Heap} {H:Hp} {b:Addr} {o:Obj} (e:h.get? b=some o) (n:H b=none):(L1 h H).get? b=some o:=
 PySem.W.hideAll_get _ e λhm=>by
  have q:(H b).isSome=true:=(List.mem_filter.mp hm).2;rw[n] at q;simp at q
def JZ {h:Heap} {H:Hp} {b:Addr} {o:Obj} (e:(L1 h H).get? b=some o):h.get? b=some o/\H b=none:=by
 have e':h.get? b=some o:=PySem.W.of_hideAll (SX h H) e;refine⟨e',?_⟩;cases q:H b with
 |none=>rfl
 |some x=>
  have hm:b∈SX h H:=List.mem_filter.mpr ⟨zBg.mpr (zAr e'),by simp [q]⟩;have z:(L1 h H).get? b=none:=PySem.W.hideAll_none (SX h H) hm;rw[z] at e;cases e
structure Mod (K:zAb) (mg:Str->Option Value) (base:Heap):Prop where
 kin:K.In base
 glob:base.Ns zCi mg
 blt:∃ mb,base.Ns builtinsNs mb/\∀ x:Str,x ≠ "__name__"->mb x=zCg x
 nolimit:base.NoLimit
structure Cx where
 prog:Program
 w:World
 K:zAb
 mg:Str->Option Value
 base:Heap
 A:Around
 N:List Str
 s₀:Shared
 H₀:Hp
 env:Env
 outer:List Env
 stack:List Env
 ex:List Addr
 fn:Str->Bool
 calm:Bool
 pn:List (Addr×Obj)
 xe:Value->Shared->Prop
def X5 (l:List Env):List Addr:=l.filterMap (·.frame)
abbrev Cx.fs (X:Cx):List Addr:=X5 X.outer
def TC (sc:Scope) (x:Str):Prop:=sc.names.lookup x=some .local\/sc.names.lookup x=some .cell\/sc.names.lookup x=some .free
def SU (sc:Scope) (x:Str):Prop:=sc.names.lookup x=some .local\/sc.names.lookup x=some .cell
def UF (env:Env) (h:Heap) (m:Str->Option Value) (x:Str) (u:Value):Prop:=
 (env.kindOf x=some .local/\m x=some u)\/((env.kindOf x=some .cell\/env.kindOf x=some .free)/\∃ c,env.cells.lookup x=some c/\h.IsCell c (some u))
structure Cx.Ok (X:Cx):Prop where
 mod:Mod X.K X.mg X.base
 kind:X.env.scope.kind=.function
 glob:X.env.globals=zCi
 blt:X.env.builtins=builtinsNs
 above:X.s₀.heap.objs.size<=X.env.locals
 inj:∀ x y c,X.env.cells.lookup x=some c->X.env.cells.lookup y=some c->x=y
 has:∀ x,(X.env.kindOf x=some .cell\/X.env.kindOf x=some .free)->∃ c,X.env.cells.lookup x=some c
 cab:∀ x c,X.fn x=true->X.env.cells.lookup x=some c->X.s₀.heap.objs.size<=c
 hd:X.calm=true->X.A.handled=none
 frames:X.A.frames=some X.stack
 stk:X.stack=X.outer\/(X.stack=X.env::X.outer/\X.env.frame=some X.env.locals)
 exf:∀ b∈X.ex,b≠X.env.locals/\∀ x c,X.env.cells.lookup x=some c->c≠b
 bs:∀ b o,X.base.get? b=some o->X.s₀.heap.get? b=some o/\X.H₀ b=none
 bsz:X.base.objs.size<=X.s₀.heap.objs.size
 noex:∀ b o,X.base.get? b=some o->b∉X.ex
 exfs:∀ b∈X.ex,b∉X.fs
 funs:X.s₀.heap.FunFrames X.base X.outer
 frf:∀ b∈X.fs,X.H₀ b=none
structure WM (X:Cx) (pins:List (Addr×Obj)) (σ:List (Option V)) (H:Hp) (s:Shared):Prop where
 ok:X.Ok
 os:s.os=X.s₀.os
 bare:AllBare s.gens
 base:Un X.fs X.ex X.H₀ H X.s₀.heap s.heap
 loc:∃ m,s.heap.Ns X.env.locals m/\∀ (i:Nat) (x:Str) (v:V),X.N[i]?=some x->σ[i]?=some (some v)->TC X.env.scope x->∃ u,WS v u/\UF X.env s.heap m x u
 cell:∀ x c,X.env.cells.lookup x=some c->∃ v,s.heap.IsCell c v
 free:H X.env.locals=none
 freeC:∀ x c,X.env.cells.lookup x=some c->H c=none
 pin:∀ p∈X.pn++pins,s.heap.get? p.1=some p.2/\H p.1=none/\p.1≠X.env.locals/\p.1∉X.fs/\∀ v,p.2.data≠.cell v
 hok:XJ X.prog X.w H s.heap
 len:σ.length=X.N.length
section
variable {X:Cx} {pins:List (Addr×Obj)} {σ:List (Option V)} {H H':Hp} {s:Shared} {h':Heap}
def Cx.Ok.nofr (ok:X.Ok) {b:Addr} {o:Obj} (e:X.base.get? b=some o):b∉X.fs:=λhb=>by
 have:=(ok.funs.mem hb).1;rw[e] at this;cases this
def WM.bs (I:WM X pins σ H s):∀ b o,X.base.get? b=some o->s.heap.get? b=some o/\H b=none:=λb o e=>
 ⟨I.base.keep b o (I.ok.bs b o e).1 (I.ok.bs b o e).2 (I.ok.nofr e) (I.ok.noex b o e),I.base.free b o (I.ok.bs b o e).1 (I.ok.bs b o e).2 (I.ok.noex b o e)⟩
def WM.bk (I:WM X pins σ H s):∀ b o,X.base.get? b=some o->s.heap.get? b=some o:=λb o e=>(I.bs b o e).1
def WM.mod (I:WM X pins σ H s):Mod X.K X.mg X.base:=I.ok.mod
def WM.kIn (I:WM X pins σ H s):X.K.In s.heap:=I.ok.mod.kin.keeps I.bk
def WM.lt (I:WM X pins σ H s):X.env.locals<s.heap.objs.size:=let ⟨_,hn,_⟩:=I.loc;hn.lt
def WM.sz (I:WM X pins σ H s):X.s₀.heap.objs.size<=s.heap.objs.size:=zAD I.ok.above (Nat.le_of_lt I.lt)
def WM.nofs (I:WM X pins σ H s) {a:Addr} (h:s.heap.objs.size<=a):a∉X.fs:=λhb=>by
 obtain⟨_,o,ho,_⟩:=I.ok.funs.mem hb;exact absurd (zAE (zAr ho) (zAD I.sz h)) (zBC _)
def WM.cne (I:WM X pins σ H s):∀ x c,X.env.cells.lookup x=some c->c≠X.env.locals:=λx c e z=>by
 obtain⟨v,o,ho,hd⟩:=I.cell x c e;obtain⟨m,⟨o',es,ep,ho',hd',_⟩,_⟩:=I.loc;rw[z,ho'] at ho;cases ho;rw[hd'] at hd;cases hd
def WM.funs (I:WM X pins σ H s):s.heap.FunFrames X.base X.outer:=by
 have all:∀ (l:List Env),(∀ b∈X5 l,b∈X.fs)->X.s₀.heap.FunFrames X.base l->s.heap.FunFrames X.base l:=by
  intro l
  induction l with
  |nil=>intro _ _;trivial
  |cons env r ih=>
   intro hs hl;obtain⟨hk,⟨L,o,hf,hn,ho,hd⟩,hr⟩:=hl;have hL:L∈X.fs:=hs L (by unfold X5;rw[zBb,hf];exact zAk);obtain⟨sl,e⟩:=I.base.slot L o ho (I.ok.frf L hL) hL λz=>I.ok.exfs L z hL;exact⟨hk,⟨L,_,hf,hn,e,hd⟩,ih (λb hb=>hs b (by unfold X5;rw[zBb,hf];exact zAi _ hb)) hr⟩
 exact all X.outer (λ_ hb=>hb) I.ok.funs
def WM.stack (I:WM X pins σ H s):s.heap.FunFrames X.base X.stack:=by
 rcases I.ok.stk with e|⟨e,hf⟩
 .rw[e];exact I.funs
 .rw[e]
  obtain⟨m,hn,_⟩:=I.loc;refine .cons (by rw[I.ok.kind];decide) hf hn ?_ I.funs;exact Heap.get?_none_of_le (zAD I.ok.bsz I.ok.above)
def WM.stkSub (I:WM X pins σ H s):∀ b∈X5 X.stack,b∈X.env.locals::X.fs:=λb hb=>by
 rcases I.ok.stk with e|⟨e,hf⟩
 .rw[e] at hb;exact zAi _ hb
 .rw[e] at hb
  unfold X5 at hb;rw[zBb,hf] at hb;exact hb
def WM.stkFree (I:WM X pins σ H s):∀ b∈X5 X.stack,H b=none:=λb hb=>by
 rcases zAj.mp (I.stkSub b hb) with e|hb
 .rw[e];exact I.free
 .obtain⟨_,o,ho,_⟩:=I.ok.funs.mem hb
  exact I.base.free b o ho (I.ok.frf b hb) λz=>I.ok.exfs b z hb
def WM.step {g':Array GenState} {t':Nat} {d':Drawn} {ch:List Addr} (I:WM X pins σ H s)
  (hch:∀ b∈ch,(b∈X.ex\/X.s₀.heap.objs.size<=b)/\b≠X.env.locals/\(∀ x c,X.env.cells.lookup x=some c->c≠b)/\∀ p∈X.pn++pins,p.1≠b)
  (keep:∀ b o,b≠X.env.locals->b∉X.fs->b∉ch->s.heap.get? b=some o->H b=none->h'.get? b=some o)
  (slot:∀ b o,b≠X.env.locals->b∈X.fs->b∉ch->s.heap.get? b=some o->H b=none->∃ sl,h'.get? b=some { o with slots:=sl }) (free:∀ b o,b∉ch->s.heap.get? b=some o->H b=none->H' b=none)
  (there:∀ b o,b∉ch->s.heap.get? b=some o->∃ o',h'.get? b=some o')
  (tups:∀ b xs,H b=some (.tup xs)->H' b=some (.tup xs)) (frzs:∀ b o u,H b=some (.frz o u)->H' b=some (.frz o u)) (tbls:∀ b ps,H b=some (.tbl ps)->∃ more,H' b=some (.tbl (ps++more)))
  (ns:∀ m,s.heap.Ns X.env.locals m->h'.Ns X.env.locals m) (hok:XJ X.prog X.w H' h') (hg:AllBare g') :
  WM X pins σ H' { s with heap:=h',gens:=g',drawn:=d',toks:=t' }:=by
 have neL:∀ b o,X.s₀.heap.get? b=some o->b≠X.env.locals:=λb o e=>zAy (zAE (zAr e) I.ok.above);have neC:∀ b o,X.s₀.heap.get? b=some o->b∉X.ex->b∉ch:=λb o e hx hb=>by
  rcases (hch b hb).1 with z|z
  .exact hx z
  .exact absurd (zAE (zAr e) z) (zBC _)
 have cellK:∀ x c,X.env.cells.lookup x=some c->∀ v,s.heap.IsCell c v->h'.IsCell c v:=λx c e v ⟨o,ho,hd⟩=>by
  have nch:c∉ch:=λz=>(hch c z).2.2.1 x c e rfl;by_cases hc:c∈X.fs
  .obtain⟨sl,q⟩:=slot c o (I.cne x c e) hc nch ho (I.freeC x c e)
   exact⟨_,q,hd⟩
  .exact⟨o,keep c o (I.cne x c e) hc nch ho (I.freeC x c e),hd⟩
 refine⟨I.ok,I.os,hg,⟨λb o e n hb hx=>?_,λb o e n hb hx=>?_,λb o e n hx=>?_,λb o e hx=>?_,λb xs e=>tups b xs (I.base.tups b xs e),λb o xs e=>frzs b o xs (I.base.frzs b o xs e),λb ps e=>?_⟩,?_,λx c e=>?_,?_,λx c e=>?_,λp hp=>?_,hok,I.len⟩
 .exact keep b o (neL b o e) hb (neC b o e hx) (I.base.keep b o e n hb hx) (I.base.free b o e n hx)
 .obtain⟨sl,e1⟩:=I.base.slot b o e n hb hx
  obtain⟨sl',e2⟩:=slot b _ (neL b o e) hb (neC b o e hx) e1 (I.base.free b o e n hx);exact⟨sl',e2⟩
 .obtain⟨o',e1⟩:=I.base.there b o e hx
  exact free b o' (neC b o e hx) e1 (I.base.free b o e n hx)
 .obtain⟨o',e1⟩:=I.base.there b o e hx
  exact there b o' (neC b o e hx) e1
 .obtain⟨m1,e1⟩:=I.base.tbls b ps e
  obtain⟨m2,e2⟩:=tbls b _ e1;exact⟨m1++m2,by rw[e2,Array.append_assoc]⟩
 .obtain⟨m,hn,hl⟩:=I.loc
  refine⟨m,ns m hn,λi x v e1 e2 e3=>?_⟩;obtain⟨u,r,l⟩:=hl i x v e1 e2 e3;refine⟨u,r,?_⟩;rcases l with l|⟨k,c,e,z⟩
  .exact .inl l
  .exact .inr ⟨k,c,e,cellK x c e _ z⟩
 .obtain⟨v,z⟩:=I.cell x c e
  exact⟨v,cellK x c e v z⟩
 .obtain⟨m,⟨o,_,_,ho,_⟩,_⟩:=I.loc
  exact free _ o (λz=>(hch _ z).2.1 rfl) ho I.free
 .obtain⟨v,o,ho,hd⟩:=I.cell x c e
  exact free c o (λz=>(hch c z).2.2.1 x c e rfl) ho (I.freeC x c e)
 .obtain⟨e,n,ne,nf,d⟩:=I.pin p hp
  have nch:p.1∉ch:=λz=>(hch p.1 z).2.2.2 p hp rfl;exact⟨keep p.1 p.2 ne nf nch e n,free p.1 p.2 nch e n,ne,nf,d⟩
def WM.un {t':Nat} (I:WM X pins σ H s) (u:Un X.fs [] H H' s.heap h') (hok:XJ X.prog X.w H' h'):WM X pins σ H' { s with heap:=h',toks:=t' }:=by
 obtain⟨m,⟨o,es,ep,ho,r⟩,_⟩:=id I.loc;obtain⟨sl,hL⟩:=u.any ho I.free (by simp);exact I.step (g':=s.gens) (d':=s.drawn) (ch:=[]) (λ_ z=>nomatch z) (λb o _ hb _ e n=>u.keep b o e n hb (by simp)) (λb o _ hb _ e n=>u.slot b o e n hb (by simp)) (λb o _ e n=>u.free b o e n (by simp)) (λb o _ e=>u.there b o e (by simp)) u.tups u.frzs u.tbls (λm' hm=>by
  obtain⟨o',es',ep',ho',r'⟩:=hm;rw[ho] at ho';cases ho';exact⟨_,es',ep',hL,r'⟩) hok I.bare
def WM.call {g':Array GenState} {t':Nat} {d':Drawn} {ch:List Addr} (I:WM X pins σ H s) (u:Un (X5 X.stack) ch H H' s.heap h') (hok:XJ X.prog X.w H' h') (hg:AllBare g')
  (hch:∀ b∈ch,(b∈X.ex\/X.s₀.heap.objs.size<=b)/\b≠X.env.locals/\(∀ x c,X.env.cells.lookup x=some c->c≠b)/\∀ p∈X.pn++pins,p.1≠b) :
  WM X pins σ H' { s with heap:=h',gens:=g',drawn:=d',toks:=t' }:=by
 obtain⟨m,⟨o,es,ep,ho,r⟩,_⟩:=id I.loc;obtain⟨sl,hL⟩:=u.any ho I.free λz=>(hch _ z).2.1 rfl;exact I.step (ch:=ch) hch (λb o hL hb hc e n=>u.keep b o e n (λz=>(zAj.mp (I.stkSub b z)).elim hL hb) hc) (λb o _ _ hc e n=>u.any e n hc) (λb o hc e n=>u.free b o e n hc) (λb o hc e=>u.there b o e hc) u.tups u.frzs u.tbls (λm' hm=>by
  obtain⟨o',es',ep',ho',r'⟩:=hm;rw[ho] at ho';cases ho';exact⟨_,es',ep',hL,r'⟩) hok hg
def WM.turned {t':Nat} {it:Addr} (I:WM X pins σ H s) (k:∀ b o,b≠it->s.heap.get? b=some o->h'.get? b=some o) (hn:H it=none) (hL:it≠X.env.locals)
  (h1:it∈X.ex\/X.s₀.heap.objs.size<=it) (h2:∀ x c,X.env.cells.lookup x=some c->c≠it) (h3:∀ p∈X.pn++pins,p.1≠it):WM X pins σ H { s with heap:=h',toks:=t' }:=by
 have nit:∀ b u,H b=some u->b≠it:=λb u e z=>by rw[z,hn] at e;cases e
 refine I.step (g':=s.gens) (d':=s.drawn) (ch:=[it]) (λb hb=>?_) (λb o _ _ hc e _=>k b o (λz=>hc (by simp [z])) e) (λb o _ _ hc e _=>⟨o.slots,k b o (λz=>hc (by simp [z])) e⟩) (λ_ _ _ _ n=>n)
  (λb o hc e=>⟨o,k b o (λz=>hc (by simp [z])) e⟩) (λ_ _ e=>e) (λ_ _ _ e=>e) (λb ps e=>⟨#[],by rw[e];simp⟩) (λm hm=>?_) (λb u e=>?_) I.bare
 .have e:b=it:=by simpa using hb
  subst e;exact⟨h1,hL,h2,h3⟩
 .obtain⟨o,es,ep,ho,r⟩:=hm
  exact⟨o,es,ep,k _ o (Ne.symm hL) ho,r⟩
 .refine (I.hok b u e).stay (λc v hc q=>k c v ?_ q) (λ_ q=>q) λ_ _ q=>q
  rcases hc with z|z
  .rw[z];exact nit b u e
  .exact nit c _ z
def WM.tok (I:WM X pins σ H s) (t:Nat):WM X pins σ H { s with toks:=t }:=I.un (h':=s.heap) (t':=t) Un.refl I.hok
def WM.kept {t':Nat} (I:WM X pins σ H s) (k:∀ b u,s.heap.get? b=some u->h'.get? b=some u):WM X pins σ H { s with heap:=h',toks:=t' }:=I.un (Un.kept k) (I.hok.kept k)
def WM.laid {a:Addr} {o:HO} {t':Nat} (I:WM X pins σ H s) (k:∀ b u,s.heap.get? b=some u->h'.get? b=some u) (hp:s.heap.objs.size<=a) (new:WY X.prog X.w (upd H a o) h' a o) :
  WM X pins σ (upd H a o) { s with heap:=h',toks:=t' }:=I.un (Un.laid k hp (I.hok.fresh hp)) (I.hok.laid k hp new)
def WM.write {x e:Addr} {o:HO} {t':Nat} (I:WM X pins σ H s) (mu:QO (H x)) (he:e=x\/H e=some (.own x)) (k:∀ b u,b≠e->s.heap.get? b=some u->h'.get? b=some u) (heo:∃ u,h'.get? e=some u)
  (new:WY X.prog X.w (upd H x o) h' x o):WM X pins σ (upd H x o) { s with heap:=h',toks:=t' }:=I.un (Un.write mu he k heo) (I.hok.write mu he k heo new)
def WM.pins_of {pins':List (Addr×Obj)} (I:WM X pins σ H s) (h:∀ p∈pins',s.heap.get? p.1=some p.2/\H p.1=none/\p.1≠X.env.locals/\p.1∉X.fs/\∀ v,p.2.data≠.cell v):WM X pins' σ H s:=
 ⟨I.ok,I.os,I.bare,I.base,I.loc,I.cell,I.free,I.freeC,λp hp=>(zAF.mp hp).elim (λz=>I.pin p (zBp _ z)) (h p),I.hok,I.len⟩
def O1 {N:List Str} (hN:N.Nodup) {i j:Nat} {x:Str} (a:N[i]?=some x) (b:N[j]?=some x):i=j:=by
 obtain⟨h1,e1⟩:=zAu.mp a;obtain⟨h2,e2⟩:=zAu.mp b;exact (List.getElem_inj hN).mp (e1.trans e2.symm)
def Zv {M:Model} {A:Around} {E:Value->Shared->Prop} {i:Nat} {x:Str} {v:V} {u:Value} {Q:Unit->Shared->Prop} (I:WM X pins σ H s) (hN:X.N.Nodup) (hi:X.N[i]?=some x) (hx:SU X.env.scope x) (r:WS v u)
  (h:∀ s',WM X pins (σ.set i (some v)) H s'->(∃ a,zBq a s.heap s'.heap/\(a=X.env.locals\/X.env.cells.lookup x=some a))->Q () s') (hf:X.fn x=true\/X.env.scope.names.lookup x=some .local:=by first|exact .inl rfl|exact .inr rfl|assumption):wpAny M A (storeName X.env x u) Q E s:=by
 obtain⟨m,hn,hl⟩:=id I.loc;have hcls:(X.env.scope.kind == .class||(X.env.scope.kind == .module&&X.env.locals != X.env.globals))=false:=by rw[I.ok.kind];rfl
 have hiσ:i<σ.length:=by rw[I.len];exact (zAu.mp hi).1
 have cne:=I.cne;have tracked:∀ {a:Addr} {h':Heap},(∃ o,s.heap.get? a=some o/\H a=none)->zBq a s.heap h'->XJ X.prog X.w H h':=λ{a h'} ha hs b ob e=>by
  obtain⟨_,_,hfree⟩:=ha;refine (I.hok b ob e).stay (λc w' hc q=>(hs.2 c ?_).trans q) (λ_ q=>q) λ_ _ q=>q;rintro rfl;rcases hc with rfl|hc
  .rw[hfree] at e;cases e
  .rw[hfree] at hc;cases hc
 rcases hx with hk|hk
 .refine wpAny_storeName_local hk hn (λh' hn' hs=>?_) hcls
  obtain⟨oL,_,_,hoL,_⟩:=id hn;refine h _ ⟨I.ok,I.os,I.bare,⟨λb o e n hb hx=>?_,λb o e n hb hx=>?_,I.base.free,λb o e hx=>?_,I.base.tups,I.base.frzs,I.base.tbls⟩,⟨_,hn',λj y v' e1 e2 e3=>?_⟩,λy c e=>?_,I.free,I.freeC,λp hp=>?_,tracked ⟨oL,hoL,I.free⟩ hs,by simpa using I.len⟩ ⟨_,hs,.inl rfl⟩
  .exact (hs.2 b (zAy (zAE (zAr e) I.ok.above))).trans (I.base.keep b o e n hb hx)
  .obtain⟨sl,e1⟩:=I.base.slot b o e n hb hx
   exact⟨sl,(hs.2 b (zAy (zAE (zAr e) I.ok.above))).trans e1⟩
  .obtain⟨o',e1⟩:=I.base.there b o e hx
   exact⟨o',(hs.2 b (zAy (zAE (zAr e) I.ok.above))).trans e1⟩
  .by_cases hj:j=i
   .subst hj
    rw[hi] at e1;cases e1;rw[List.getElem?_set_self hiσ] at e2;cases e2;exact⟨u,r,.inl ⟨hk,by simp⟩⟩
   .rw[List.getElem?_set_ne (Ne.symm hj)] at e2
    obtain⟨u',r',q⟩:=hl j y v' e1 e2 e3;refine⟨u',r',?_⟩;rcases q with ⟨k,e⟩|⟨k,c,e,z⟩
    .refine .inl ⟨k,?_⟩
     have:y≠x:=λe=>hj (O1 hN e1 (e▸hi));simp [this,e]
    .exact .inr ⟨k,c,e,z.sameBut hs (cne y c e)⟩
  .obtain⟨w',z⟩:=I.cell y c e
   exact⟨w',z.sameBut hs (cne y c e)⟩
  .obtain⟨e,n,ne,nf,d⟩:=I.pin p hp
   exact⟨(hs.2 p.1 ne).trans e,n,ne,nf,d⟩
 .have hfn:X.fn x=true:=by
   rcases hf with z|z
   .exact z
   .rw[z] at hk;cases hk
  obtain⟨c,hc⟩:=I.ok.has x (.inl hk);obtain⟨w',z⟩:=I.cell x c hc;refine wpAny_storeName_cell I.ok.kind hk hc z (λh' hc' hs=>?_);obtain⟨oc,hoc,hocd⟩:=id z;refine h { s with heap:=h' } ⟨I.ok,I.os,I.bare,⟨λb o e n hb hx=>?_,λb o e n hb hx=>?_,I.base.free,λb o e hx=>?_,I.base.tups,I.base.frzs,I.base.tbls⟩,⟨m,hn.sameBut hs (Ne.symm (cne x c hc)),λj y v' e1 e2 e3=>?_⟩,λy c' e=>?_,I.free,I.freeC,λp hp=>?_,tracked ⟨oc,hoc,I.freeC x c hc⟩ hs,by simpa using I.len⟩ ⟨c,hs,.inr hc⟩
  .exact (hs.2 b (zAy (zAE (zAr e) (I.ok.cab x c hfn hc)))).trans (I.base.keep b o e n hb hx)
  .obtain⟨sl,e1⟩:=I.base.slot b o e n hb hx
   exact⟨sl,(hs.2 b (zAy (zAE (zAr e) (I.ok.cab x c hfn hc)))).trans e1⟩
  .obtain⟨o',e1⟩:=I.base.there b o e hx
   exact⟨o',(hs.2 b (zAy (zAE (zAr e) (I.ok.cab x c hfn hc)))).trans e1⟩
  .by_cases hj:j=i
   .subst hj
    rw[hi] at e1;cases e1;rw[List.getElem?_set_self hiσ] at e2;cases e2;exact⟨u,r,.inr ⟨.inl hk,c,hc,hc'⟩⟩
   .rw[List.getElem?_set_ne (Ne.symm hj)] at e2
    obtain⟨u',r',q⟩:=hl j y v' e1 e2 e3;refine⟨u',r',?_⟩;rcases q with q|⟨k,c',e,z'⟩
    .exact .inl q
    .refine .inr ⟨k,c',e,z'.sameBut hs ?_⟩
     rintro rfl;exact hj (O1 hN e1 (I.ok.inj _ _ _ e hc▸hi))
  .by_cases hcc:c'=c
   .subst hcc;exact⟨_,hc'⟩
   .obtain⟨w2,z2⟩:=I.cell y c' e
    exact⟨w2,z2.sameBut hs hcc⟩
  .obtain⟨e,n,ne,nf,d⟩:=I.pin p hp
   refine⟨(hs.2 p.1 ?_).trans e,n,ne,nf,d⟩;intro q;rw[q,hoc] at e;have q':oc=p.2:=Option.some.inj e;exact d w' (by rw[<- q'];exact hocd)
def S7 {M:Model} {A:Around} {E:Value->Shared->Prop} {i:Nat} {x:Str} {v:V} {u:Value} {Q:Unit->Shared->Prop} (I:WM X pins σ H s) (hN:X.N.Nodup) (hi:X.N[i]?=some x) (hx:SU X.env.scope x) (r:WS v u)
  (h:∀ s',WM X pins (σ.set i (some v)) H s'->Q () s') (hf:X.fn x=true\/X.env.scope.names.lookup x=some .local:=by first|exact .inl rfl|exact .inr rfl|assumption):wpAny M A (storeName X.env x u) Q E s:=
 Zv I hN hi hx r (λs' I' _=>h s' I') hf
end
abbrev XK:=Value->Option Addr->Hp->Prop
abbrev St:=List (Option V)
abbrev VK:=V->Hp->Prop
abbrev TE:=St->Hp->VK->Prop
abbrev TT:=St->Hp->(Bool->Hp->Prop)->Prop
abbrev TA:=St->Hp->(List V->Hp->Prop)->Prop
structure Om where
 nx:St->Hp->Prop
 rt:VK
 bk:St->Hp->Prop:=λ_ _=>False
 ct:St->Hp->Prop:=λ_ _=>False
abbrev TS:=Om->St->Hp->Prop
def EP (X:Cx) (pins:List (Addr×Obj)) (σ:St) (Q:VK) (u:Value) (s':Shared):Prop:=∃ v H',WM X pins σ H' s'/\WS v u/\Q v H'
def TP (X:Cx) (pins:List (Addr×Obj)) (σ:St) (Q:Bool->Hp->Prop) (b:Bool) (s':Shared):Prop:=∃ H',WM X pins σ H' s'/\Q b H'
def AP (X:Cx) (pins:List (Addr×Obj)) (σ:St) (Q:List V->Hp->Prop) (us:List Value) (s':Shared):Prop:=∃ vs H',WM X pins σ H' s'/\WR vs us/\Q vs H'
def SP (X:Cx) (pins:List (Addr×Obj)) (D:Om) (f:Flow) (s':Shared):Prop:=
 match f with
 |.next=>∃ σ' H',WM X pins σ' H' s'/\D.nx σ' H'
 |.brk=>∃ σ' H',WM X pins σ' H' s'/\D.bk σ' H'
 |.cont=>∃ σ' H',WM X pins σ' H' s'/\D.ct σ' H'
 |.ret u=>∃ v σ' H',WM X pins σ' H' s'/\WS v u/\D.rt v H'
def PE (X:Cx) (e:Expr) (t:TE):Prop:=
 ∀ (pins:List (Addr×Obj)) (s:Shared) (σ:St) (H:Hp) (Q:VK),WM X pins σ H s->t σ H Q->wpAny (model X.prog X.w) X.A (eval e X.env) (EP X pins σ Q) X.xe s
def PT (X:Cx) (e:Expr) (t:TT):Prop:=
 ∀ (pins:List (Addr×Obj)) (s:Shared) (σ:St) (H:Hp) (Q:Bool->Hp->Prop),WM X pins σ H s->t σ H Q->wpAny (model X.prog X.w) X.A (isTrue e X.env (eval e X.env)) (TP X pins σ Q) X.xe s
def PW (X:Cx) (e:Expr) (t:TT):Prop:=
 ∀ (whole:Sem Value) (pins:List (Addr×Obj)) (s:Shared) (σ:St) (H:Hp) (Q:Bool->Hp->Prop),WM X pins σ H s->t σ H Q->wpAny (model X.prog X.w) X.A (isTrue e X.env whole) (TP X pins σ Q) X.xe s
def PW.pt {X:Cx} {e:Expr} {t:TT} (h:PW X e t):PT X e t:=h _
def PA (X:Cx) (es:List Expr) (t:TA):Prop:=
 ∀ (pos:Pos) (pins:List (Addr×Obj)) (s:Shared) (σ:St) (H:Hp) (Q:List V->Hp->Prop),WM X pins σ H s->t σ H Q->wpAny (model X.prog X.w) X.A (spliced (backTo pos (starEach es X.env))) (AP X pins σ Q) X.xe s
def PS (X:Cx) (st:Stmt) (t:TS):Prop:=
 ∀ (pins:List (Addr×Obj)) (s:Shared) (σ:St) (H:Hp) (D:Om),WM X pins σ H s->t D σ H->wpAny (model X.prog X.w) X.A (exec st X.env) (SP X pins D) X.xe s
def PSs (X:Cx) (st:List Stmt) (t:TS):Prop:=
 ∀ (pins:List (Addr×Obj)) (s:Shared) (σ:St) (H:Hp) (D:Om),WM X pins σ H s->t D σ H->wpAny (model X.prog X.w) X.A (execs st X.env) (SP X pins D) X.xe s
def Dx {α:Type} {t:Sem α} {Q Q':α->Shared->Prop} {M:Model} {A:Around} {E:Value->Shared->Prop} {s:Shared} (h:wpAny M A t Q E s) (hQ:∀ a s,Q a s->Q' a s):wpAny M A t Q' E s:=wpAny_mono h hQ λ_ _ x=>x
section
variable {X:Cx}
def WI {a b:Expr} {ta tb:TE} (ha:PE X a ta) (hb:PE X b tb) {pins:List (Addr×Obj)} {s:Shared} {σ:St} {H:Hp} {R:V->V->Hp->Prop} (I:WM X pins σ H s) (h:ta σ H λx H1=>tb σ H1 λy H2=>R x y H2)
  {α:Type} {Q:α->Shared->Prop} {f:Value->Value->Sem α}
  (hf:∀ v u s2 x y H2,WM X pins σ H2 s2->WS x v->WS y u->R x y H2->wpAny (model X.prog X.w) X.A (f v u) Q X.xe s2) :
  wpAny (model X.prog X.w) X.A (eval a X.env) (λv s₁=>wpAny (model X.prog X.w) X.A (eval b X.env) (λu s₂=>wpAny (model X.prog X.w) X.A (f v u) Q X.xe s₂) X.xe s₁) X.xe s:=by
 refine Dx (ha pins s σ H _ I h) λv s1 ⟨x,H1,I1,r1,q1⟩=>?_;refine Dx (hb pins s1 σ H1 _ I1 q1) λu s2 ⟨y,H2,I2,r2,q2⟩=>?_;exact hf v u s2 x y H2 I2 r1 r2 q2
def RW (i:Nat):TE:=λσ H Q=>∃ v,σ[i]?=some (some v)/\Q v H
def tC (v:V):TE:=λ_ H Q=>Q v H
def PV {i:Nat} {x:Str} {pos:Pos} (hN:X.N[i]?=some x) (hv:TC X.env.scope x) (hd:(x==("__debug__" : Str))=false:=by decide) (hcd:(x==("__classdict__" : Str))=false:=by decide):PE X (.Name x pos) (RW i):=by
 intro pins s σ H Q I h;obtain⟨v,e,h⟩:=h;obtain⟨m,hn,hl⟩:=I.loc;obtain⟨u,r,l⟩:=hl i x v hN e hv;have fin:EP X pins σ Q u s:=⟨v,H,I,r,h⟩;rcases l with ⟨hk,hm⟩|⟨hk,c,hc,hcell⟩
 .exact wpAny_Name (wpAny_loadName_local I.ok.kind hk hn hm fin) hd
 .rcases hk with hk|hk
  .exact wpAny_Name (wpAny_loadName_cell I.ok.kind hk hc hcell fin) hd
  .exact wpAny_Name (wpAny_loadName_free I.ok.kind hk hc hcell fin hcd) hd
def Ar {i j pos}:PE X (.Constant (.int i) j pos) (tC (.int i)):=λ_ _ _ H _ I h=>wpAny_Constant_int ⟨.int i,H,I.tok _,⟨_,rfl⟩,h⟩
def Fn {b j pos}:PE X (.Constant (.bool b) j pos) (tC (.bl b)):=λ_ _ _ H _ I h=>Constant_bool ⟨.bl b,H,I,rfl,h⟩
def Kh {j pos}:PE X (.Constant .none j pos) (tC .non):=λ_ _ _ H _ I h=>Constant_none ⟨.non,H,I,rfl,h⟩
def Bg {x j pos}:PE X (.Constant (.str x) j pos) (tC (.str x)):=λ_ _ _ H _ I h=>Calls.Constant_str ⟨.str x,H,I.tok _,⟨_,rfl⟩,h⟩
def Gl (X:Cx) (x:Str):Prop:=X.env.kindOf x=some .globalImplicit
def Lp {E:Value->Shared->Prop} {pins:List (Addr×Obj)} {s:Shared} {σ:St} {H:Hp} {x:Str} {u:Value} {pos:Pos} {Q:Value->Shared->Prop} (I:WM X pins σ H s) (hg:Gl X x) (hm:X.mg x=some u) (h:Q u s)
  (hd:(x==("__debug__" : Str))=false:=by decide):wpAny (model X.prog X.w) X.A (eval (.Name x pos) X.env) Q E s:=
 Calls.Name_function_global I.ok.kind hg (Calls.loadGlobal_global (by rw[I.ok.glob];exact I.mod.glob.keeps I.bk) hm h) hd
def My {E:Value->Shared->Prop} {pins:List (Addr×Obj)} {s:Shared} {σ:St} {H:Hp} {x:Str} {u:Value} {pos:Pos} {Q:Value->Shared->Prop} (I:WM X pins σ H s) (hg:Gl X x) (hm:X.mg x=none) (hv:zCg x=some u) (h:Q u s)
  (hn:x ≠ "__name__":=by decide) (hd:(x==("__debug__" : Str))=false:=by decide):wpAny (model X.prog X.w) X.A (eval (.Name x pos) X.env) Q E s:=by
 obtain⟨mb,h1,h2⟩:=I.mod.blt;exact Calls.Name_function_global I.ok.kind hg (Calls.loadGlobal_builtin (by rw[I.ok.glob];exact I.mod.glob.keeps I.bk) hm (by rw[I.ok.blt];exact h1.keeps I.bk) ((h2 x hn).trans hv) h) hd
def B8 {x:Str} {v:V} {u:Value} {pos:Pos} (hg:Gl X x) (hm:X.mg x=some u) (r:WS v u) (hd:(x==("__debug__" : Str))=false:=by decide):PE X (.Name x pos) (tC v):=
 λ_ _ _ H _ I h=>Lp I hg hm ⟨v,H,I,r,h⟩ hd
def LJ {x:Str} {v:V} {u:Value} {pos:Pos} (hg:Gl X x) (hm:X.mg x=none) (hv:zCg x=some u) (r:WS v u) (hn:x ≠ "__name__":=by decide) (hd:(x==("__debug__" : Str))=false:=by decide):PE X (.Name x pos) (tC v):=
 λ_ _ _ H _ I h=>My I hg hm hv ⟨v,H,I,r,h⟩ hn hd
variable {a b:Expr} {ta tb:TE} {pos:Pos}
def PC (X:Cx) (op:CmpOp) (a b:Expr) (t:TE):Prop:=
 ∀ (pins:List (Addr×Obj)) (s:Shared) (σ:St) (H:Hp) (Q:VK),WM X pins σ H s->t σ H Q ->
  wpAny (model X.prog X.w) X.A (eval a X.env) (λv s₁=>wpAny (model X.prog X.w) X.A (eval b X.env) (λu s₂=>wpAny (model X.prog X.w) X.A (compareOp op v u) (EP X pins σ Q) X.xe s₂) X.xe s₁) X.xe s
def tB (t:TE):TT:=λσ H Q=>t σ H λx H1=>∃ c,x=.bl c/\Q c H1
def UC {op:CmpOp} {t:TE} (h:PC X op a b t) (h1:behindInMarks op b=false:=by first|exact nobehind _ (by decide) (by decide)|rfl):PT X (.Compare a [op] [b] pos) (tB t):=by
 intro pins s σ H Q I hw;refine wpAny_isTrue_Compare1 (Dx (h pins s σ H _ I hw) λv s1 h1=>Dx h1 λu s2 h2=>Dx h2 λc s3 ⟨x,H1,I1,r1,q1⟩=>?_) h1;obtain⟨d,rfl,q⟩:=q1;cases r1;exact wpAny_truthy_bool ⟨H1,I1,q⟩
def Dc {e:Expr} {t:TE} (h:PE X e t) (he:∀ whole,isTrue e X.env whole=(do let v <- whole;standAt e.pos;holding [v] (truthy v)):=by intro _;rfl):PT X e (tB t):=by
 intro pins s σ H Q I hw;refine isTrue_plain (Dx (h pins s σ H _ I hw) λv s1 ⟨x,H1,I1,r1,q1⟩=>?_) (he _);obtain⟨d,rfl,q⟩:=q1;cases r1;exact wpAny_truthy_bool ⟨H1,I1,q⟩
variable {tA tB':TT} {rest:List Expr}
def VB (t u:TT):TT:=λσ H Q=>t σ H λc H1=>if c=true then u σ H1 Q else Q false H1
def VZ (t u:TT):TT:=λσ H Q=>t σ H λc H1=>if c=true then Q true H1 else u σ H1 Q
def VC (t:TT):TT:=λσ H Q=>t σ H λc H1=>Q (!c) H1
def Vg (ha:PT X a tA):PW X (.BoolOp .And [a] pos) tA:=by
 intro wh pins s σ H Q I h;refine isTrue_and (Dx (ha pins s σ H Q I h) λc s1 e=>?_);cases c with
 |true=>exact isTrue_and_nil e
 |false=>exact e
def Et (ha:PT X a tA):PW X (.BoolOp .Or [a] pos) tA:=by
 intro wh pins s σ H Q I h;refine isTrue_or (Dx (ha pins s σ H Q I h) λc s1 e=>?_);cases c with
 |false=>exact isTrue_or_nil e
 |true=>exact e
def N3 (ha:PT X a tA) (hb:PW X (.BoolOp .And (b::rest) pos) tB'):PW X (.BoolOp .And (a::b::rest) pos) (VB tA tB'):=by
 intro wh pins s σ H Q I h;refine isTrue_and (Dx (ha pins s σ H _ I h) λc s1 ⟨H1,I1,q1⟩=>?_);cases c with
 |true=>exact hb wh pins s1 σ H1 Q I1 q1
 |false=>exact⟨H1,I1,q1⟩
def Fe (ha:PT X a tA) (hb:PW X (.BoolOp .Or (b::rest) pos) tB'):PW X (.BoolOp .Or (a::b::rest) pos) (VZ tA tB'):=by
 intro wh pins s σ H Q I h;refine isTrue_or (Dx (ha pins s σ H _ I h) λc s1 ⟨H1,I1,q1⟩=>?_);cases c with
 |true=>exact⟨H1,I1,q1⟩
 |false=>exact hb wh pins s1 σ H1 Q I1 q1
def Ee (ha:PT X a tA):PT X (.UnaryOp .Not a pos) (VC tA):=by
 intro pins s σ H Q I h;exact isTrue_not (ha pins s σ H (λc H1=>Q (!c) H1) I h)
def RJ (ta tb:TE):TE:=λσ H Q=>ta σ H λx H1=>∃ c,x=.bl c/\if c=true then tb σ H1 Q else Q (.bl false) H1
def RL (ta:TE):TE:=λσ H Q=>ta σ H λx H1=>∃ c,x=.bl c/\Q (.bl (!c)) H1
def Sy {op} {t:TE} (h:PE X a t):PE X (.BoolOp op [a] pos) t:=λpins s σ H Q I hw=>BoolOp_one (h pins s σ H Q I hw)
def Tq (ha:PE X a ta) (hb:PE X (.BoolOp .And (b::rest) pos) tb):PE X (.BoolOp .And (a::b::rest) pos) (RJ ta tb):=by
 intro pins s σ H Q I h;refine BoolOp_and (Dx (ha pins s σ H _ I h) λv s1 ⟨x,H1,I1,r1,q1⟩=>?_);obtain⟨c,rfl,q1⟩:=q1;cases r1;refine wpAny_truthy_bool ?_;cases c with
 |true=>exact hb pins s1 σ H1 Q I1 q1
 |false=>exact⟨.bl false,H1,I1,rfl,q1⟩
def PD (ha:PE X a ta):PE X (.UnaryOp .Not a pos) (RL ta):=by
 intro pins s σ H Q I h;refine UnaryOp_ (Dx (ha pins s σ H _ I h) λv s1 ⟨x,H1,I1,r1,q1⟩=>?_);obtain⟨c,rfl,q1⟩:=q1;cases r1;exact not_of (wpAny_truthy_bool ⟨.bl (!c),H1,I1,rfl,q1⟩)
def WH (t:TT) (ta tb:TE):TE:=λσ H Q=>t σ H λc H1=>if c=true then ta σ H1 Q else tb σ H1 Q
def Iz {c:Expr} (hc:PT X c tA) (ha:PE X a ta) (hb:PE X b tb):PE X (.IfExp c a b pos) (WH tA ta tb):=by
 intro pins s σ H Q I h;refine wpAny_IfExp (Dx (hc pins s σ H _ I h) λd s1 ⟨H1,I1,q1⟩=>?_);cases d with
 |true=>exact ha pins s1 σ H1 Q I1 q1
 |false=>exact hb pins s1 σ H1 Q I1 q1
end
def WL (K:zAb) (H:Hp) (a:Addr) (xs:List V):Prop:=
 Rd H a (.lst xs) \/
  ∃ (o:Obj) (its:Array Value) (n:Nat),K.lookup a=some o/\o.cls=.type "list"/\o.dict=none/\o.data=.seq its n/\its.size<=sizeLine/\WR xs its.toList
def WX (K:zAb) (H:Hp) (a:Addr) (xs:List V):Prop:=
 Rd H a (.tup xs) \/
  ∃ (o:Obj) (its:Array Value) (n:Nat),K.lookup a=some o/\o.cls=.type "tuple"/\o.data=.seq its n/\its.size<=sizeLine/\WR xs its.toList
def VG:Value->Option V
 |.none=>some .non
 |.bool b=>some (.bl b)
 |.int i _=>some (.int i)
 |.str x _=>some (.str x)
 |.bytes b _=>some (.byt b)
 |.float b _=>some (.flt b)
 |.ref a=>some (.ref a)
 |.type n=>some (.ty n)
 |_=>none
def WS.abs {x:V} {u:Value} (r:WS x u):VG u=some x:=by
 cases x with
 |non=>cases r;rfl
 |bl _=>cases r;rfl
 |int _=>obtain⟨t,rfl⟩:=r;rfl
 |str _=>obtain⟨t,rfl⟩:=r;rfl
 |byt _=>obtain⟨t,rfl⟩:=r;rfl
 |flt _=>obtain⟨t,rfl⟩:=r;rfl
 |ref _=>cases r;rfl
 |ty _=>cases r;rfl
def WS.inj {x y:V} {u:Value} (r:WS x u) (q:WS y u):x=y:=Option.some.inj (r.abs.symm.trans q.abs)
theorem WR.inj:∀ {xs ys:List V} {us:List Value},WR xs us->WR ys us->xs=ys
 |_,_,_,.nil,.nil=>rfl
 |_,_,_,.cons r t,.cons r' t'=>by rw[r.inj r',WR.inj t t']
section
variable {X:Cx} {pins:List (Addr×Obj)} {σ:St} {H:Hp} {s:Shared} {a:Addr} {xs ys:List V}
def WL.of {K:zAb} (h:H a=some (.lst xs)):WL K H a xs:=.inl (.inl h)
def WX.of {K:zAb} (h:H a=some (.tup xs)):WX K H a xs:=.inl (.inl h)
def WM.list (I:WM X pins σ H s) (h:WL X.K H a xs):∃ its:List Value,WR xs its/\PlainL s.heap a its.toArray/\xs.length<=sizeLine:=by
 rcases h with h|⟨o,its,n,hk,hc,hd,hs,hz,r⟩
 .obtain⟨z,its,n,r,e⟩:=h.ok I.hok
  exact⟨its,r,⟨_,n,e,rfl,rfl,rfl⟩,z⟩
 .refine⟨its.toList,r,⟨o,n,I.kIn a o hk,hc,hd,by simpa using hs⟩,?_⟩
  have e:=r.length;simp only [zAR] at e;omega
def WM.tuple (I:WM X pins σ H s) (h:WX X.K H a xs):∃ its:List Value,WR xs its/\IsTup s.heap a its.toArray/\xs.length<=sizeLine:=by
 rcases h with h|⟨o,its,n,hk,hc,hs,hz,r⟩
 .obtain⟨z,its,r,p⟩:=h.ok I.hok
  exact⟨its,r,p,z⟩
 .refine⟨its.toList,r,⟨o,I.kIn a o hk,hc,n,by simpa using hs⟩,?_⟩
  have e:=r.length;simp only [zAR] at e;omega
def WM.list_inj (I:WM X pins σ H s) (h:WL X.K H a xs) (h':WL X.K H a ys):xs=ys:=by
 obtain⟨its,r,⟨o,n,e,_,_,d⟩,_⟩:=I.list h;obtain⟨its',r',⟨o',n',e',_,_,d'⟩,_⟩:=I.list h';rw[e] at e';cases e';rw[d] at d';injection d' with d1 _;have:its=its':=by simpa using congrArg Array.toList d1
 subst this;exact r.inj r'
def WM.tuple_inj (I:WM X pins σ H s) (h:WX X.K H a xs) (h':WX X.K H a ys):xs=ys:=by
 obtain⟨its,r,⟨o,e,_,n,d⟩,_⟩:=I.tuple h;obtain⟨its',r',⟨o',e',_,n',d'⟩,_⟩:=I.tuple h';rw[e] at e';cases e';rw[d] at d';injection d' with d1 _;have:its=its':=by simpa using congrArg Array.toList d1
 subst this;exact r.inj r'
end
abbrev Cx.wish (X:Cx) (E:Value->Shared->Prop):Cx:={ X with xe:=E }
abbrev Cx.nox (X:Cx):Cx:=X.wish λ_ _=>False
def Cx.Ok.wish {X:Cx} (ok:X.Ok) (E:Value->Shared->Prop):(X.wish E).Ok:=
 ⟨ok.mod,ok.kind,ok.glob,ok.blt,ok.above,ok.inj,ok.has,ok.cab,ok.hd,ok.frames,ok.stk,ok.exf,ok.bs,ok.bsz,ok.noex,ok.exfs,ok.funs,ok.frf⟩
def Cx.Ok.unwish {X:Cx} {E:Value->Shared->Prop} (ok:(X.wish E).Ok):X.Ok:=
 ⟨ok.mod,ok.kind,ok.glob,ok.blt,ok.above,ok.inj,ok.has,ok.cab,ok.hd,ok.frames,ok.stk,ok.exf,ok.bs,ok.bsz,ok.noex,ok.exfs,ok.funs,ok.frf⟩
section
variable {X:Cx} {pins:List (Addr×Obj)} {σ:St} {H:Hp} {s:Shared} {E:Value->Shared->Prop}
def WM.wish (I:WM X pins σ H s) (E:Value->Shared->Prop):WM (X.wish E) pins σ H s:=⟨I.ok.wish E,I.os,I.bare,I.base,I.loc,I.cell,I.free,I.freeC,I.pin,I.hok,I.len⟩
def WM.unwish (I:WM (X.wish E) pins σ H s):WM X pins σ H s:=⟨I.ok.unwish,I.os,I.bare,I.base,I.loc,I.cell,I.free,I.freeC,I.pin,I.hok,I.len⟩
def SP.unwish {D:Om} {f:Flow} {s':Shared} (h:SP (X.wish E) pins D f s'):SP X pins D f s':=by
 cases f with
 |next=>obtain⟨σ',H',I,q⟩:=h;exact⟨σ',H',I.unwish,q⟩
 |brk=>obtain⟨σ',H',I,q⟩:=h;exact⟨σ',H',I.unwish,q⟩
 |cont=>obtain⟨σ',H',I,q⟩:=h;exact⟨σ',H',I.unwish,q⟩
 |ret u=>obtain⟨v,σ',H',I,r,q⟩:=h;exact⟨v,σ',H',I.unwish,r,q⟩
def PSs.nox {st:List Stmt} {t:TS} (h:PSs X.nox st t):PSs X st t:=λpins s σ H D I hw=>
 wpAny_mono (h pins s σ H D (I.wish _) hw) (λ_ _ q=>q.unwish) λ_ _ z=>False.elim z
end
section
variable {X:Cx} {st:Stmt} {rest:List Stmt} {t u:TS} {e:Expr} {te:TE} {pos:Pos}
def RM:TS:=λD σ H=>D.nx σ H
def KM (t u:TS):TS:=λD σ H=>t { D with nx:=u D } σ H
def Bj:PSs X [] RM:=λ_ _ σ H _ I h=>wpAny_execs_nil ⟨σ,H,I,h⟩
def Ai (h1:PS X st t) (h2:PSs X rest u):PSs X (st::rest) (KM t u):=by
 intro pins s σ H D I h;refine wpAny_execs_cons (Dx (h1 pins s σ H { D with nx:=u D } I h) λf s1 q=>?_);cases f with
 |next=>
  obtain⟨σ',H',I',q⟩:=q;exact h2 pins s1 σ' H' D I' q
 |ret v=>exact q
 |brk=>exact q
 |cont=>exact q
def Aj (h1:PS X st t):PSs X [st] t:=by
 intro pins s σ H D I h;refine wpAny_execs_cons (Dx (h1 pins s σ H D I h) λf s1 q=>?_);cases f with
 |next=>exact wpAny_execs_nil q
 |ret v=>exact q
 |brk=>exact q
 |cont=>exact q
def WM.quiet {pins:List (Addr×Obj)} {σ:St} {H:Hp} {s:Shared} (I:WM X pins σ H s):interactive X.env=false:=by simp [interactive,I.ok.kind]
def SE (te:TE):TS:=λD σ H=>te σ H λ_ H1=>D.nx σ H1
def Bz (he:PE X e te) (hs:swapsWith e none pos.line X.env=pure false:=by rfl):PS X (.Expr e pos) (SE te):=by
 intro pins s σ H D I h;exact wpAny_Expr_any (Dx (he pins s σ H _ I h) λv s1 ⟨x,H1,I1,r1,q1⟩=>⟨σ,H1,I1,q1⟩) I.quiet hs
def UD (te:TE):TS:=λD σ H=>te σ H D.rt
def Bh (he:PE X e te):PS X (.Return (some e) pos) (UD te):=by
 intro pins s σ H D I h;exact wpAny_Return_some (Dx (he pins s σ H _ I h) λv s1 ⟨x,H1,I1,r1,q1⟩=>⟨x,σ,H1,I1,r1,q1⟩)
def UM (c:TT) (t u:TS):TS:=λD σ H=>c σ H λb H1=>if b=true then t D σ H1 else u D σ H1
def Bu {c:Expr} {a b:List Stmt} {tc:TT} (hc:PT X c tc) (ha:PSs X a t) (hb:PSs X b u):PS X (.If c a b pos) (UM tc t u):=by
 intro pins s σ H D I h;refine wpAny_If (Dx (hc pins s σ H _ I h) λd s1 ⟨H1,I1,q1⟩=>?_);cases d with
 |true=>exact ha pins s1 σ H1 D I1 q1
 |false=>exact hb pins s1 σ H1 D I1 q1
def OW:TS:=λ_ _ _=>False
def Cf:PS X st OW:=λ_ _ _ _ _ _ h=>h.elim
end
abbrev TG:=V->St->Hp->(St->Hp->Prop)->Prop
abbrev NA:=List V->St->Hp->(St->Hp->Prop)->Prop
def PG (X:Cx) (target:Expr) (t:TG):Prop:=
 ∀ (pins:List (Addr×Obj)) (s:Shared) (σ:St) (H:Hp) (v:V) (u:Value) (Q:St->Hp->Prop),WM X pins σ H s->WS v u->t v σ H Q ->
  wpAny (model X.prog X.w) X.A (assign target X.env u) (λ_ s'=>∃ σ' H',WM X pins σ' H' s'/\Q σ' H') X.xe s
def QZ (X:Cx) (ts:List Expr) (t:NA):Prop:=
 ∀ (pins:List (Addr×Obj)) (s:Shared) (σ:St) (H:Hp) (vs:List V) (us:List Value) (Q:St->Hp->Prop),WM X pins σ H s->WR vs us->t vs σ H Q ->
  wpAny (model X.prog X.w) X.A (assignInOrder ((assignEach ts X.env).map (·.2)) us) (λ_ s'=>∃ σ' H',WM X pins σ' H' s'/\Q σ' H') X.xe s
abbrev OP:=V->V->V->Hp->(Hp->Prop)->Prop
def SJ (X:Cx) (t:OP):Prop:=
 ∀ (pins:List (Addr×Obj)) (s:Shared) (σ:St) (H:Hp) (o i v:V) (ov iv u:Value) (Q:Hp->Prop),WM X pins σ H s->WS o ov->WS i iv->WS v u->t o i v H Q ->
  wpAny (model X.prog X.w) X.A (setItem ov iv u) (λ_ s'=>∃ H',WM X pins σ H' s'/\Q H') X.xe s
section
variable {X:Cx} {pos:Pos}
def He (i:Nat):TG:=λv σ H Q=>Q (σ.set i (some v)) H
def Bl {i:Nat} {x:Str} (hN:X.N.Nodup) (hi:X.N[i]?=some x) (hx:SU X.env.scope x) (hf:X.fn x=true\/X.env.scope.names.lookup x=some .local:=by first|exact .inl rfl|exact .inr rfl|assumption):PG X (.Name x pos) (He i):=by
 intro pins s σ H v u Q I r h;exact wpAny_assign_Name (S7 I hN hi hx r (λs' I'=>⟨_,H,I',h⟩) hf)
def FV:NA:=λvs σ H Q=>vs=[]/\Q σ H
def Rv (t:TG) (u:NA):NA:=λvs σ H Q=>∃ v r,vs=v::r/\t v σ H λσ' H'=>u r σ' H' Q
def Fz:QZ X [] FV:=by
 intro pins s σ H vs us Q I r h;obtain⟨e,h⟩:=h;subst e;cases r;exact assignInOrder_nil ⟨σ,H,I,h⟩
def By {e:Expr} {es:List Expr} {t:TG} {u:NA} (h1:PG X e t) (h2:QZ X es u)
  (hs:(assignEach (e::es) X.env).map (·.2)=assign e X.env::(assignEach es X.env).map (·.2):=by rfl):QZ X (e::es) (Rv t u):=by
 intro pins s σ H vs us Q I r h;obtain⟨v,vr,e1,h⟩:=h;subst e1;cases r with
 |cons r rr=>
  rw[hs];refine assignInOrder_cons (Dx (h1 pins s σ H _ _ _ I r h) λ_ s1 ⟨σ1,H1,I1,q1⟩=>?_);exact h2 pins s1 σ1 H1 _ _ Q I1 rr q1
def EG (K:zAb) (n:Nat) (t:NA):TG:=λv σ H Q=>∃ a xs,v=.ref a/\WX K H a xs/\xs.length=n/\t xs σ H Q
def Js {es:List Expr} {k:Nat} {t:NA} {n:Nat} (hc:X.calm=true) (h:QZ X es t)
  (hn:(assignEach es X.env).length=n:=by rfl) (hst:(assignEach es X.env).findIdx? (·.1)=none:=by rfl):PG X (.Tuple es k pos) (EG X.K n t):=by
 intro pins s σ H v u Q I r hw;obtain⟨a,xs,e1,hq,hl,hw⟩:=hw;subst e1;cases r;obtain⟨its,rv,ht,hz⟩:=I.tuple hq;refine assign_Tuple_tuple (I.ok.hd hc) ht (by simp [hn,<- hl,rv.length]) hst λh' hx=>?_;have I1:WM X pins σ H { s with heap:=h' }:=I.kept (t':=s.toks) λb o e=>hx b o (zAy (zAr e)) e;exact h pins _ σ H xs _ Q I1 (by simpa using rv) hw
def UW (to ti:TE) (t:OP):TG:=λv σ H Q=>to σ H λo H1=>ti σ H1 λi H2=>t o i v H2 λH3=>Q σ H3
def NQ {o i:Expr} {to ti:TE} {t:OP} (ho:PE X o to) (hi:PE X i ti) (hs:SJ X t)
  (ha:∀ v,assign (.Subscript o i pos) X.env v=(do
   let ov <- holding [v] (eval o X.env)
   let iv <- holding [v,ov] (eval i X.env)
   standAt pos
   holding [v,ov,iv] (setItem ov iv v)
   release [v,ov,iv] []):=by intro _;rfl):PG X (.Subscript o i pos) (UW to ti t):=by
 intro pins s σ H v u Q I r h;rw[ha];refine zCd (wpAny_holding (Dx (ho pins s σ H _ I h) λov s1 ⟨x,H1,I1,r1,q1⟩=>?_));refine zCd (wpAny_holding (Dx (hi pins s1 σ H1 _ I1 q1) λiv s2 ⟨y,H2,I2,r2,q2⟩=>?_));refine zCd (wpAny_standAt (zCd (wpAny_holding (Dx (hs pins s2 σ H2 x y v ov iv u _ I2 r1 r2 r q2) λ_ s3 ⟨H3,I3,q3⟩=>?_))));exact wpAny_release ⟨σ,H3,I3,q3⟩
def QE (te:TE) (g:TG):TS:=λD σ H=>te σ H λx H1=>g x σ H1 D.nx
def Wa {tg e:Expr} {te:TE} {g:TG} (he:PE X e te) (hg:PG X tg g) (hs:swapsWithSole [tg] e pos.line X.env=pure false:=by rfl) (hw:swappedStores [tg] e X.env=pure none:=by rfl)
  (h1:(assignEach [tg] X.env).map (·.2)=[assign tg X.env]:=by rfl):PS X (.Assign [tg] e pos) (QE te g):=by
 intro pins s σ H D I h;refine wpAny_Assign_stores (Dx (he pins s σ H _ I h) λv s1 ⟨x,H1,I1,r1,q1⟩=>?_) hs hw;rw[h1];exact Dx (hg pins s1 σ H1 x v _ I1 r1 q1) λ_ s2 q=>q
def Bn {i:Nat} {x:Str} {e:Expr} {te:TE} {pos':Pos} (hN:X.N.Nodup) (hi:X.N[i]?=some x) (hx:SU X.env.scope x) (he:PE X e te) (hs:swapsWith e (some (.Name x pos')) pos.line X.env=pure false:=by rfl) (hf:X.fn x=true\/X.env.scope.names.lookup x=some .local:=by first|exact .inl rfl|exact .inr rfl|assumption) :
  PS X (.Assign [.Name x pos'] e pos) (QE te (He i)):=by
 intro pins s σ H D I h;refine wpAny_Assign_Name (Dx (he pins s σ H _ I h) λv s1 ⟨y,H1,I1,r1,q1⟩=>?_) hs;exact S7 I1 hN hi hx r1 (λs2 I2=>⟨_,H1,I2,q1⟩) hf
def OQ (c:TT) (tb:TS):TS:=λD σ H=>∃ W:Nat->St->Hp->Prop,(∃ m,W m σ H)/\∀ m σ H,W m σ H ->
 c σ H λb H1=>if b=true then ∃ N:St->Hp->Prop,(∀ σ' H',N σ' H'->∃ m',m'<m/\W m' σ' H')/\tb { D with nx:=N,ct:=N,bk:=D.nx } σ H1 else D.nx σ H1
def S9 {c:Expr} {body:List Stmt} {tc:TT} {tb:TS} (hp:PassesOwn (model X.prog X.w) X.A X.env X.xe) (hc:PT X c tc) (hb:PSs X body tb):PS X (.While c body [] pos) (OQ tc tb):=by
 intro pins s σ H D I h;obtain⟨W,⟨m0,w0⟩,turn⟩:=h;refine wpAny_While (codeAny_whileLoop (λn s'=>∃ σ' H',WM X pins σ' H' s'/\W n σ' H') ?_ m0 ⟨σ,H,I,w0⟩);rintro n s1 ⟨σ1,H1,I1,w1⟩;refine wpAny_passesOwn hp (Dx (hc pins s1 σ1 H1 _ I1 (turn n σ1 H1 w1)) λb s2 ⟨H2,I2,q2⟩=>?_);cases b with
 |true=>
  obtain⟨N,hN,q2⟩:=q2;rw[if_pos rfl];refine wpAny_passesOwn hp (Dx (hb pins s2 σ1 H2 _ I2 q2) λf s3 q3=>?_);cases f with
  |next=>
   obtain⟨σ3,H3,I3,n3⟩:=q3;obtain⟨m',hm,w3⟩:=hN σ3 H3 n3;exact⟨m',hm,σ3,H3,I3,w3⟩
  |cont=>
   obtain⟨σ3,H3,I3,n3⟩:=q3;obtain⟨m',hm,w3⟩:=hN σ3 H3 n3;exact⟨m',hm,σ3,H3,I3,w3⟩
  |brk=>exact q3
  |ret v=>exact q3
 |false=>
  rw[if_neg zAo];exact wpAny_execs_nil ⟨σ1,H2,I2,q2⟩
end
structure It where
 go:Nat->Hp->Prop
 yld:Nat->Hp->V->Hp->Prop
 stop:Nat->Hp->Prop
def Tp (X:Cx) (pins:List (Addr×Obj)) (H:Hp) (b:Addr):Prop:=
 H b=none/\b≠X.env.locals/\b∉X.fs/\(b∈X.ex\/X.s₀.heap.objs.size<=b)/\(∀ x c,X.env.cells.lookup x=some c->c≠b)/\∀ p∈X.pn++pins,p.1≠b
def WM.fpOk {X:Cx} {pins:List (Addr×Obj)} {σ:St} {H H':Hp} {s:Shared} {b:Addr} (I:WM X pins σ H s) (hb:s.heap.objs.size<=b) (hn:H' b=none):Tp X pins H' b:=by
 refine⟨hn,zBr (zAE I.lt hb),I.nofs hb,.inr (zAD I.sz hb),λx c e z=>?_,λp hp z=>?_⟩
 .obtain⟨v,q⟩:=I.cell x c e
  exact absurd (zAE q.lt (by rw[z];exact hb)) (zBC _)
 .exact absurd (zAE (zAr (I.pin p hp).1) (by rw[z];exact hb)) (zBC _)
structure R5 (P:Program) (w:World) (K:zAb) (tg:Expr) (J:It) (fp:List Addr) (it:Addr) (tn:Nat->Heap->Prop):Prop where
 mem:it∈fp
 obj:∀ i h,tn i h->∀ b∈fp,∃ o,h.get? b=some o/\∀ v,o.data≠.cell v
 keep:∀ i h h',tn i h->(∀ b∈fp,∀ o,h.get? b=some o->h'.get? b=some o)->tn i h'
 item:∀ (X:Cx),X.prog=P->X.w=w->X.K=K->X.calm=true->∀ (i:Nat) (pins:List (Addr×Obj)) (s:Shared) (σ:St) (H:Hp) (E:Value->Shared->Prop),WM X pins σ H s->(∀ b∈fp,Tp X pins H b)->tn i s.heap->J.go i H ->
  wpAny (model P w) X.A (pyNext (.ref it)) (λr s1=>∃ u,r=some u /\
   wpAny (model P w) X.A (letOwnedTupleGo tg (.ref it) u) (λ_ s2=>∃ x H',WM X pins σ H' s2/\WS x u/\J.yld i H x H'/\tn (i+1) s2.heap/\∀ b∈fp,H' b=none) E s1) E s
 done:∀ (X:Cx),X.prog=P->X.w=w->X.K=K->X.calm=true->∀ (i:Nat) (pins:List (Addr×Obj)) (s:Shared) (σ:St) (H:Hp) (E:Value->Shared->Prop),WM X pins σ H s->(∀ b∈fp,Tp X pins H b)->tn i s.heap->J.stop i H ->
  wpAny (model P w) X.A (pyNext (.ref it)) (λr s1=>r=none/\WM X pins σ H s1) E s
 self:∀ (A:Around) (i:Nat) (s:Shared) (Q:Value->Shared->Prop) (E:Value->Shared->Prop),tn i s.heap->Q (.ref it) s->wpAny (model P w) A (pyIter (.ref it)) Q E s
abbrev TI:=St->Hp->(It->Hp->Prop)->Prop
def VI (X:Cx) (pins:List (Addr×Obj)) (σ:St) (tg:Expr) (R:It->Hp->Prop) (itv:Value) (s2:Shared):Prop:=
 ∃ (it:Addr) (fp:List Addr) (tn:Nat->Heap->Prop) (J:It) (H':Hp),itv=.ref it/\WM X pins σ H' s2/\R5 X.prog X.w X.K tg J fp it tn/\tn 0 s2.heap/\(∀ b∈fp,Tp X pins H' b)/\R J H'
def PI (X:Cx) (tg iter:Expr) (wi:TI):Prop:=
 ∀ (pins:List (Addr×Obj)) (s:Shared) (σ:St) (H:Hp) (R:It->Hp->Prop),WM X pins σ H s->wi σ H R ->
  wpAny (model X.prog X.w) X.A (eval iter X.env) (λv s1=>wpAny (model X.prog X.w) X.A (pyIter v) (VI X pins σ tg R) X.xe s1) X.xe s
def CQ {M:Model} {A:Around} {E:Value->Shared->Prop} {s:Shared} {tg:Expr} {it:Addr} {u:Value} {o:Obj} {n:String} {vs:Array Value} {Q:Unit->Shared->Prop} (ho:s.heap.get? it=some o) (hc:o.cls=.type n) (hd:o.data=.fields vs)
  (hn:["enumerate","zip","dict_itemiterator","dict_reverseitemiterator","odict_iterator","itertools.zip_longest","itertools.pairwise"].contains n=false) (hQ:Q () s):wpAny M A (letOwnedTupleGo tg (.ref it) u) Q E s:=by
 unfold letOwnedTupleGo;cases tg <;> first
  |exact zCe hQ
  | (cases u <;> first
    |exact zCe hQ
    | (refine zCd (wpAny_load ho ?_)
       rw[hc,hd];show wpAny M A (if (["enumerate","zip","dict_itemiterator","dict_reverseitemiterator","odict_iterator","itertools.zip_longest","itertools.pairwise"].contains n&&vs[0]?==some (rawInt _))=true then _ else _) Q E s;rw[if_neg (by intro h;rw[hn,Bool.false_and] at h;cases h)];exact zCe hQ))
def NY (K:zAb) (a:Addr):It:=
 ⟨λi H=>∃ xs x,WL K H a xs/\xs[i]?=some x,λi H x H'=>H'=H/\∀ xs,WL K H a xs->xs[i]?=some x,λi H=>∃ xs,WL K H a xs/\xs.length<=i⟩
def OT (lo:Int) (n:Nat):It:=⟨λi _=>i<n,λi H x H'=>H'=H/\x=.int (lo+i),λi _=>n<=i⟩
def DR {P:Program} {w:World} {K:zAb} {tg:Expr} (a it:Addr):R5 P w K tg (NY K a) [it] it (λi h=>h.IsListIter it a i) where
 mem:=by simp
 obj:=λi h st b hb=>by
  have e:b=it:=by simpa using hb
  subst e;obtain⟨o,e,c,d⟩:=st;exact⟨o,e,λv z=>by rw[d] at z;cases z⟩
 keep:=λi h h' st k=>st.at λo e=>k it (by simp) o e
 item:=by
  intro X hP hw hK hc i pins s σ H E I hf st hg;subst hP hw hK;obtain⟨xs,x,hq,hx⟩:=hg;obtain⟨its,rv,p,hz⟩:=I.list hq;obtain⟨u,hu,ru⟩:=rv.get hx;obtain⟨f0,f1,f2,f3,f4,f5⟩:=hf it (by simp);refine wpAny_pyNext_list_item st p.isList (x:=u) (by simpa using hu) λh' st' sb=>?_;have I1:WM X pins σ H { s with heap:=h' }:=I.turned (t':=s.toks) (λb o hb e=>(sb.2 b hb).trans e) f0 f1 f3 f4 f5;obtain⟨o,e,c,d⟩:=id st';exact⟨u,rfl,CQ (s:={ s with heap:=h' }) e c d (by decide) ⟨x,H,I1,ru,⟨rfl,λys hy=>by rw[I.list_inj hy hq];exact hx⟩,st',λb hb=>(hf b hb).1⟩⟩
 done:=by
  intro X hP hw hK hc i pins s σ H E I hf st hg;subst hP hw hK;obtain⟨xs,hq,hx⟩:=hg;obtain⟨its,rv,p,hz⟩:=I.list hq;obtain⟨f0,f1,f2,f3,f4,f5⟩:=hf it (by simp);have hl:=rv.length;exact wpAny_pyNext_list_end (I.ok.hd hc) st p.isList (by simp;omega) λh' eb=>⟨rfl,I.turned (t':=s.toks) (λb o hb e=>eb b o hb e) f0 f1 f3 f4 f5⟩
 self:=λ_ _ _ _ _ st h=>wpAny_pyIter_listiter st h
def Z0 {P:Program} {w:World} {K:zAb} {tg:Expr} (it:Addr) (lo:Int) (n:Nat):R5 P w K tg (OT lo n) [it] it (λi h=>IsRangeIter h it (lo+(i:Nat)*1) ((n:Int)-(i:Nat)) 1) where
 mem:=by simp
 obj:=λi h st b hb=>by
  have e:b=it:=by simpa using hb
  subst e;exact⟨_,st,λv z=>by
   have z':Data.fields _=Data.cell v:=z;cases z'⟩
 keep:=λi h h' st k=>k it (by simp) _ st
 item:=by
  intro X hP hw hK hc i pins s σ H E I hf st hg;subst hP hw hK;obtain⟨f0,f1,f2,f3,f4,f5⟩:=hf it (by simp);have W:=Walks.range (prog:=X.prog) (w:=X.w) (I.ok.hd hc) it lo 1 n;refine W.item i s _ _ hg st λv h' tk hv st' kk=>?_;obtain⟨t,rfl⟩:=hv;have I1:WM X pins σ H { s with heap:=h',toks:=tk }:=I.turned (λb o hb e=>kk b o (by simpa using hb) e) f0 f1 f3 f4 f5;refine⟨_,rfl,CQ (s:={ s with heap:=h',toks:=tk }) (n:="range_iterator") st' rfl rfl (by decide) ⟨.int (lo+i),H,I1,⟨t,?_⟩,⟨rfl,rfl⟩,st',λb hb=>(hf b hb).1⟩⟩;rw[Int.mul_one]
 done:=by
  intro X hP hw hK hc i pins s σ H E I hf st hg;subst hP hw hK;obtain⟨f0,f1,f2,f3,f4,f5⟩:=hf it (by simp);exact wpAny_pyNext_range_end (I.ok.hd hc) st (by have:n<=i:=hg;omega) λh' eb=>⟨rfl,I.turned (t':=s.toks) (λb o hb e=>eb b o hb e) f0 f1 f3 f4 f5⟩
 self:=λ_ _ _ _ _ st h=>wpAny_pyIter_rangeiter st h
section
variable {X:Cx} {tg:Expr}
def QX (K:zAb) (tl:TE):TI:=λσ H R=>tl σ H λx H1=>∃ a,x=.ref a/\(∃ xs,WL K H1 a xs)/\R (NY K a) H1
def Dg {l:Expr} {tl:TE} (hl:PE X l tl):PI X tg l (QX X.K tl):=by
 intro pins s σ H R I h;refine Dx (hl pins s σ H _ I h) λv s1 ⟨x,H1,I1,r1,q1⟩=>?_;obtain⟨a,e,⟨xs,hq⟩,q⟩:=q1;subst e;cases r1;obtain⟨its,rv,p,hz⟩:=I1.list hq;refine wpAny_pyIter_list p.isList ?_;refine⟨s1.heap.objs.size,[s1.heap.objs.size],_,_,H1,rfl,I1.kept (t':=s1.toks) λb o e=>zAm _ e,DR a _,⟨_,zAG _ rfl,rfl,rfl⟩,λb hb=>?_,q⟩;have e:b=s1.heap.objs.size:=by simpa using hb
 subst e;exact I1.fpOk (zAn _) (I1.hok.fresh (zAn _))
def FN {pins:List (Addr×Obj)} {σ:St} {H:Hp} {s:Shared} {R:It->Hp->Prop} {E:Value->Shared->Prop} {lo hi:Int} {t u v:Tok} {tk:Nat} (I:WM X pins σ H s) (h1 : -(2^62)<=lo) (h2:lo<2^62) (h3 : -(2^62)<=hi) (h4:hi<2^62)
  (q:R (OT lo (hi-lo).toNat) H):wpAny (model X.prog X.w) X.A (pyIter (.ref s.heap.objs.size)) (VI X pins σ tg R) E { s with heap:=s.heap.push { cls:=.type "range",data:=.fields #[.int lo t,.int hi u,.int 1 v] },toks:=tk }:=by
 refine wpAny_pyIter_range (IsRange.new ..) (small_one h1 h2 h3 h4) ?_;have I1:WM X pins σ H { s with heap:=s.heap.push { cls:=.type "range",data:=.fields #[.int lo t,.int hi u,.int 1 v] },toks:=tk }:=I.kept λb o e=>zAm _ e;refine⟨(s.heap.push { cls:=.type "range",data:=.fields #[.int lo t,.int hi u,.int 1 v] }).objs.size,[(s.heap.push { cls:=.type "range",data:=.fields #[.int lo t,.int hi u,.int 1 v] }).objs.size],_,_,H,rfl,
  I1.kept (t':=tk) λb o e=>zAm _ e,Z0 _ lo (hi-lo).toNat,?_,λb hb=>?_,q⟩
 .have e1:lo+((0:Nat):Int)*1=lo:=by simp
  have e2:(((hi-lo).toNat:Nat):Int)-((0:Nat):Int)=Builtin.Range.rangeSize lo hi 1:=by rw[rangeSize_one];split <;> omega
  show IsRangeIter _ _ (lo+((0:Nat):Int)*1) ((((hi-lo).toNat:Nat):Int)-((0:Nat):Int)) 1;rw[e1,e2];exact zAG _ rfl
 .have e:b=(s.heap.push { cls:=.type "range",data:=.fields #[.int lo t,.int hi u,.int 1 v] }).objs.size:=by simpa using hb
  subst e;exact I1.fpOk (zAn _) (I1.hok.fresh (zAn _))
def QM (ta:TA):TI:=λσ H R=>ta σ H λvs H1=>∃ j:Int,vs=[.int j]/\-(2^62)<=j/\j<2^62/\R (OT 0 j.toNat) H1
def Ea {a:Expr} {ta:TA} {p pos:Pos} (hg:Gl X "range") (hm:X.mg "range"=none) (ha:PA X [a] ta) (hs:starEach [a] X.env=[(false,eval a X.env)]:=by rfl):PI X tg (.Call (.Name "range" p) [a] [] pos) (QM ta):=by
 intro pins s σ H R I h;refine Call_ (My I hg hm boot_range (PyProof.Rows.callWith_type1 (Dx (ha pos pins s σ H _ I h) λus s1 ⟨vs,H1,I1,r1,q1⟩=>?_) hs rfl));obtain⟨j,e,q1,q2,q⟩:=q1;subst e;cases r1 with
 |cons r rr=>
  cases rr
  obtain⟨t,rfl⟩:=r;exact call_range_1 (FN I1 (by omega) (by omega) q1 q2 (by simpa using q))
def UZ (wi:TI) (g:TG) (tb:TS):TS:=λD σ H=>wi σ H λJ H1=>∃ W:Nat->Nat->St->Hp->Prop,(∃ m,W 0 m σ H1)/\∀ i m σ H,W i m σ H ->
 (J.stop i H/\D.nx σ H)\/(J.go i H/\∃ N:St->Hp->Prop,(∀ σ' H',N σ' H'->∃ m',m'<m/\W (i+1) m' σ' H')/\∀ x H',J.yld i H x H'->g x σ H' λσ2 H2=>tb { D with nx:=N,ct:=N,bk:=D.nx } σ2 H2)
def Ww (fp:List Addr) (h:Heap):List (Addr×Obj):=fp.filterMap λb=>(h.get? b).map λo=>(b,o)
def La {fp:List Addr} {h:Heap} {b:Addr} {o:Obj} (hb:b∈fp) (e:h.get? b=some o):(b,o)∈Ww fp h:=List.mem_filterMap.mpr ⟨b,hb,by rw[e];rfl⟩
def EN {fp:List Addr} {h:Heap} {p:Addr×Obj} (hp:p∈Ww fp h):p.1∈fp/\h.get? p.1=some p.2:=by
 obtain⟨b,hb,e⟩:=List.mem_filterMap.mp hp;cases q:h.get? b with
 |none=>rw[q] at e;cases e
 |some o=>
  rw[q] at e;have e':(b,o)=p:=Option.some.inj e;subst e';exact⟨hb,q⟩
def WM.pinned {pins:List (Addr×Obj)} {σ:St} {H:Hp} {s:Shared} {fp:List Addr} (I:WM X pins σ H s) (hf:∀ b∈fp,Tp X pins H b) (ho:∀ b∈fp,∃ o,s.heap.get? b=some o/\∀ v,o.data≠.cell v):WM X (pins++Ww fp s.heap) σ H s:=
 I.pins_of λp hp=>(zAF.mp hp).elim (λz=>I.pin p (zAM _ z)) λz=>by
  obtain⟨hb,e⟩:=EN z;obtain⟨f0,f1,f2,_⟩:=hf p.1 hb;obtain⟨o,e',d⟩:=ho p.1 hb;rw[e] at e';cases e';exact⟨e,f0,f1,f2,d⟩
def WM.unpinned {pins pl:List (Addr×Obj)} {σ:St} {H:Hp} {s:Shared} (I:WM X (pins++pl) σ H s):WM X pins σ H s:=I.pins_of λp hp=>I.pin p (zAM _ (zBp _ hp))
def El {iter:Expr} {body:List Stmt} {wi:TI} {g:TG} {tb:TS} {pos:Pos} (hp:PassesOwn (model X.prog X.w) X.A X.env X.xe) (hc:X.calm=true) (hi:PI X tg iter wi) (hg:PG X tg g) (hb:PSs X body tb)
  (hs:∀ x,foldedSetIterable iter X.env x=pure x:=by intro _;rfl):PS X (.For tg iter body [] pos) (UZ wi g tb):=by
 intro pins s σ H D I h;refine wpAny_For (Dx (hi pins s σ H _ I h) λv s1 h1=>Dx h1 λitv s2 h2=>?_) hs;obtain⟨it,fp,tn,J,H2,e,I2,T,st2,f2,W,⟨m0,w0⟩,turn⟩:=h2;subst e;have stat:∀ {H':Hp},(∀ b∈fp,H' b=none)->∀ b∈fp,Tp X pins H' b:=λhn b hb=>⟨hn b hb,(f2 b hb).2⟩;refine codeAny_forLoop_any (λn s'=>∃ i σ' H',WM X pins σ' H' s'/\tn i s'.heap/\(∀ b∈fp,H' b=none)/\W i n σ' H') ?_ m0 ⟨0,σ,H2,I2,st2,λb hb=>(f2 b hb).1,w0⟩;rintro n s3 ⟨i,σ3,H3,I3,st3,fr3,w3⟩;rcases turn i n σ3 H3 w3 with ⟨stop,qn⟩|⟨go,N,hN,step⟩
 .refine wpAny_passesOwn hp (Dx (T.done X rfl rfl rfl hc i pins s3 σ3 H3 X.xe I3 (stat fr3) st3 stop) λr s4 ⟨hr,I4⟩=>?_)
  subst hr;exact wpAny_execs_nil ⟨σ3,H3,I4,qn⟩
 .refine wpAny_passesOwn hp (Dx (T.item X rfl rfl rfl hc i pins s3 σ3 H3 X.xe I3 (stat fr3) st3 go) λr s4 ⟨u,hr,h4⟩=>?_)
  subst hr;refine wpAny_passesOwn hp (Dx h4 λ_ s5 ⟨x,H5,I5,r5,y5,st5,fr5⟩=>?_);have I5':=I5.pinned (stat fr5) (T.obj _ _ st5);refine wpAny_passesOwn hp (Dx (hg _ s5 σ3 H5 x u _ I5' r5 (step x H5 y5)) λ_ s6 ⟨σ6,H6,I6,q6⟩=>?_);refine wpAny_passesOwn hp (Dx (hb _ s6 σ6 H6 _ I6 q6) λf s7 q7=>?_);have again:∀ {σ7:St} {H7:Hp},WM X (pins++Ww fp s5.heap) σ7 H7 s7->N σ7 H7->∃ m,m<n/\∃ i σ' H',WM X pins σ' H' s7/\tn i s7.heap/\(∀ b∈fp,H' b=none)/\W i m σ' H':=λ{σ7 H7} I7 n7=>by
   obtain⟨m',hm,w7⟩:=hN σ7 H7 n7;refine⟨m',hm,i+1,σ7,H7,I7.unpinned,T.keep _ _ _ st5 λb hb o e=>(I7.pin (b,o) (zAM _ (zAM _ (La hb e)))).1,λb hb=>?_,w7⟩;obtain⟨o,e,d⟩:=T.obj _ _ st5 b hb;exact (I7.pin (b,o) (zAM _ (zAM _ (La hb e)))).2.1
  cases f with
  |next=>obtain⟨σ7,H7,I7,n7⟩:=q7;exact again I7 n7
  |cont=>obtain⟨σ7,H7,I7,n7⟩:=q7;exact again I7 n7
  |brk=>obtain⟨σ7,H7,I7,q7⟩:=q7;exact⟨σ7,H7,I7.unpinned,q7⟩
  |ret v=>obtain⟨x7,σ7,H7,I7,r7,q7⟩:=q7;exact⟨x7,σ7,H7,I7.unpinned,r7,q7⟩
end
def Nd {K:zAb} {a:Addr} {xs:List V} {g:TG} {tb:TS} {D:Om} {σ:St} {H:Hp} (Pv:Nat->St->Hp->Prop) (h0:Pv 0 σ H) (hl:∀ i σ H,i<=xs.length->Pv i σ H->WL K H a xs)
  (hs:∀ i x σ H,xs[i]?=some x->Pv i σ H->g x σ H λσ2 H2=>tb { D with nx:=Pv (i+1),ct:=Pv (i+1),bk:=D.nx } σ2 H2) (hd:∀ σ H,Pv xs.length σ H->D.nx σ H) :
  ∃ W:Nat->Nat->St->Hp->Prop,(∃ m,W 0 m σ H)/\∀ i m σ H,W i m σ H ->
   ((NY K a).stop i H/\D.nx σ H)\/((NY K a).go i H/\∃ N:St->Hp->Prop,(∀ σ' H',N σ' H'->∃ m',m'<m/\W (i+1) m' σ' H')/\∀ x H',(NY K a).yld i H x H'->g x σ H' λσ2 H2=>tb { D with nx:=N,ct:=N,bk:=D.nx } σ2 H2):=by
 refine⟨λi m σ H=>m=xs.length-i/\i<=xs.length/\Pv i σ H,⟨xs.length,by simp,zAB _,h0⟩,?_⟩;rintro i m σ H ⟨rfl,hi,p⟩;have q:=hl i σ H hi p;by_cases hlt:i<xs.length
 .refine .inr ⟨⟨xs,xs[i],q,by simp [hlt]⟩,Pv (i+1),λσ' H' p'=>⟨xs.length-(i+1),by omega,rfl,hlt,p'⟩,λx H' y=>?_⟩
  obtain⟨e,y⟩:=y;subst e;exact hs i x σ _ (y xs q) p
 .have e:i=xs.length:=by omega
  subst e;exact .inl ⟨⟨xs,q,zAn _⟩,hd σ H p⟩
def Ey {lo:Int} {n:Nat} {g:TG} {tb:TS} {D:Om} {σ:St} {H:Hp} (Pv:Nat->St->Hp->Prop) (h0:Pv 0 σ H)
  (hs:∀ i σ H,i<n->Pv i σ H->g (.int (lo+i)) σ H λσ2 H2=>tb { D with nx:=Pv (i+1),ct:=Pv (i+1),bk:=D.nx } σ2 H2) (hd:∀ σ H,Pv n σ H->D.nx σ H) :
  ∃ W:Nat->Nat->St->Hp->Prop,(∃ m,W 0 m σ H)/\∀ i m σ H,W i m σ H ->
   ((OT lo n).stop i H/\D.nx σ H)\/((OT lo n).go i H/\∃ N:St->Hp->Prop,(∀ σ' H',N σ' H'->∃ m',m'<m/\W (i+1) m' σ' H')/\∀ x H',(OT lo n).yld i H x H'->g x σ H' λσ2 H2=>tb { D with nx:=N,ct:=N,bk:=D.nx } σ2 H2):=by
 refine⟨λi m σ H=>m=n-i/\i<=n/\Pv i σ H,⟨n,by simp,zAB _,h0⟩,?_⟩;rintro i m σ H ⟨rfl,hi,p⟩;by_cases hlt:i<n
 .refine .inr ⟨hlt,Pv (i+1),λσ' H' p'=>⟨n-(i+1),by omega,rfl,hlt,p'⟩,λx H' y=>?_⟩
  obtain⟨e,y⟩:=y;subst e y;exact hs i σ _ hlt p
 .have e:i=n:=by omega
  subst e;exact .inl ⟨zAn _,hd σ H p⟩
abbrev R2:=V->V->Hp->VK->Prop
def Pa (X:Cx) (f:Value->Value->Sem Value) (r:R2):Prop:=
 ∀ (pins:List (Addr×Obj)) (s:Shared) (σ:St) (H:Hp) (x y:V) (v u:Value) (Q:VK),WM X pins σ H s->WS x v->WS y u->r x y H Q ->
  wpAny (model X.prog X.w) X.A (f v u) (EP X pins σ Q) X.xe s
def UA (X:Cx) (f:Value->Sem Value) (r:V->Hp->VK->Prop):Prop:=
 ∀ (pins:List (Addr×Obj)) (s:Shared) (σ:St) (H:Hp) (x:V) (v:Value) (Q:VK),WM X pins σ H s->WS x v->r x H Q ->
  wpAny (model X.prog X.w) X.A (f v) (EP X pins σ Q) X.xe s
def Oz (X:Cx) (f:Value) (r:List V->Hp->VK->Prop):Prop:=
 ∀ (pins:List (Addr×Obj)) (s:Shared) (σ:St) (H:Hp) (xs:List V) (us:List Value) (Q:VK),WM X pins σ H s->WR xs us->r xs H Q ->
  wpAny (model X.prog X.w) X.A (call f us) (EP X pins σ Q) X.xe s
def VH (X:Cx) (r:V->Hp->(Bool->Hp->Prop)->Prop):Prop:=
 ∀ (pins:List (Addr×Obj)) (s:Shared) (σ:St) (H:Hp) (x:V) (v:Value) (Q:Bool->Hp->Prop),WM X pins σ H s->WS x v->r x H Q ->
  wpAny (model X.prog X.w) X.A (truthy v) (TP X pins σ Q) X.xe s
def SY (r:R2) (ta tb:TE):TE:=λσ H Q=>ta σ H λx H1=>tb σ H1 λy H2=>r x y H2 Q
def WB (r:V->Hp->VK->Prop) (ta:TE):TE:=λσ H Q=>ta σ H λx H1=>r x H1 Q
def rI (C:Int->Int->Prop) (g:Int->Int->V):R2:=λx y H Q=>∃ i j,x=.int i/\y=.int j/\C i j/\Q (g i j) H
def NZ (g:Int->Int->V):R2:=λx y H Q=>∃ i j,x=.int i/\y=.int j/\Q (g i j) H
def rU (g:Int->V):V->Hp->VK->Prop:=λx H Q=>∃ i,x=.int i/\Q (g i) H
section
variable {X:Cx} {a b:Expr} {ta tb:TE} {pos:Pos}
def PQ (ha:PE X a ta) (hb:PE X b tb) {pins:List (Addr×Obj)} {s:Shared} {σ:St} {H:Hp} {R:V->V->Hp->Prop} (I:WM X pins σ H s)
  (h:ta σ H λx H1=>tb σ H1 λy H2=>R x y H2) {Q:Value->Shared->Prop} {f:Value->Value->Sem Value}
  (hf:∀ v u s2 x y H2,WM X pins σ H2 s2->WS x v->WS y u->R x y H2->wpAny (model X.prog X.w) X.A (f v u) Q X.xe s2) :
  wpAny (model X.prog X.w) X.A (eval a X.env) (λv s₁=>wpAny (model X.prog X.w) X.A (eval b X.env) (λu s₂=>wpAny (model X.prog X.w) X.A (f v u) Q X.xe s₂) X.xe s₁) X.xe s:=by
 refine Dx (ha pins s σ H _ I h) λv s1 ⟨x,H1,I1,r1,q1⟩=>?_;refine Dx (hb pins s1 σ H1 _ I1 q1) λu s2 ⟨y,H2,I2,r2,q2⟩=>?_;exact hf v u s2 x y H2 I2 r1 r2 q2
def Be {op:Operator} {r:R2} (ho:Pa X (binaryOp op) r) (ha:PE X a ta) (hb:PE X b tb):PE X (.BinOp a op b pos) (SY r ta tb):=by
 intro pins s σ H Q I h;exact wpAny_BinOp (PQ ha hb I h λv u s2 x y H2 I2 rx ry q=>ho pins s2 σ H2 x y v u Q I2 rx ry q)
def NL {op:UnaryOp} {r:V->Hp->VK->Prop} (ho:UA X (unaryOp op) r) (ha:PE X a ta):PE X (.UnaryOp op a pos) (WB r ta):=by
 intro pins s σ H Q I h;exact UnaryOp_ (Dx (ha pins s σ H _ I h) λv s1 ⟨x,H1,I1,r1,q1⟩=>ho pins s1 σ H1 x v Q I1 r1 q1)
def SW {f:Value->Value->Sem Value} {C:Int->Int->Prop} {g:Int->Int->Int}
  (rule:∀ (i j:Int) (t u:Tok) (s:Shared) (Q:Value->Shared->Prop) (E:Value->Shared->Prop),C i j->Q (.int (g i j) s.toks) { s with toks:=s.toks+1 }->wpAny (model X.prog X.w) X.A (f (.int i t) (.int j u)) Q E s) :
  Pa X f (rI C λi j=>.int (g i j)):=by
 intro pins s σ H x y v u Q I rx ry h;obtain⟨i,j,rfl,rfl,hc,q⟩:=h;obtain⟨t,rfl⟩:=rx;obtain⟨t',rfl⟩:=ry;exact rule i j t t' s _ _ hc ⟨.int (g i j),H,I.tok _,⟨_,rfl⟩,q⟩
def QS {f:Value->Value->Sem Value} {g:Int->Int->Int}
  (rule:∀ (i j:Int) (t u:Tok) (s:Shared) (Q:Value->Shared->Prop) (E:Value->Shared->Prop),Q (.int (g i j) s.toks) { s with toks:=s.toks+1 }->wpAny (model X.prog X.w) X.A (f (.int i t) (.int j u)) Q E s) :
  Pa X f (NZ λi j=>.int (g i j)):=by
 intro pins s σ H x y v u Q I rx ry h;obtain⟨i,j,rfl,rfl,q⟩:=h;obtain⟨t,rfl⟩:=rx;obtain⟨t',rfl⟩:=ry;exact rule i j t t' s _ _ ⟨.int (g i j),H,I.tok _,⟨_,rfl⟩,q⟩
def NP {f:Value->Value->Sem Value} {g:Int->Int->Bool}
  (rule:∀ (i j:Int) (t u:Tok) (s:Shared) (Q:Value->Shared->Prop) (E:Value->Shared->Prop),Q (.bool (g i j)) s->wpAny (model X.prog X.w) X.A (f (.int i t) (.int j u)) Q E s) :
  Pa X f (NZ λi j=>.bl (g i j)):=by
 intro pins s σ H x y v u Q I rx ry h;obtain⟨i,j,rfl,rfl,q⟩:=h;obtain⟨t,rfl⟩:=rx;obtain⟨t',rfl⟩:=ry;exact rule i j t t' s _ _ ⟨.bl (g i j),H,I,rfl,q⟩
def SZ (i j:Int):Prop:=0<j/\j<1073741824
def UH (i j:Int):Prop:=0<=j/\j<=1000000/\i.natAbs<2^64
def YN (i j:Int):Prop:=(-(2^64)<i/\i<2^64)\/(-(2^64)<j/\j<2^64)
def YN.ok {i j:Int} (h:YN i j):IntMulOk i j:=by
 rcases h with ⟨h1,h2⟩|⟨h1,h2⟩
 .exact .of_left (intBits_le_64 h1 h2)
 .exact .of_right (intBits_le_64 h1 h2)
def Da:Pa X (binaryOp .Add) (NZ λi j=>.int (i+j)):=QS λ_ _ _ _ _ _ _ q=>add_int q
def A5:Pa X (binaryOp .Sub) (NZ λi j=>.int (i-j)):=QS λ_ _ _ _ _ _ _ q=>sub_int q
def Ho:Pa X (binaryOp .Mult) (rI YN λi j=>.int (i*j)):=SW λ_ _ _ _ _ _ _ hc q=>mul_int q hc.ok
def Cm:Pa X (binaryOp .FloorDiv) (rI SZ λi j=>.int (i/j)):=SW λi j _ _ _ _ _ hc q=>by
 have h1:(0:Int)<j:=hc.1;have h2:j<1073741824:=hc.2;exact floordiv_int (by omega) (by rw[Int.fdiv_eq_ediv_of_nonneg i (by omega)];exact q) (.inl (PyProof.noPylong_small (by omega)))
def Cn:Pa X (binaryOp .Mod) (rI (λ_ j=>0<j) λi j=>.int (i%j)):=SW λi j _ _ _ _ _ hc q=>by
 have h1:(0:Int)<j:=hc;exact mod_int' (by omega) (by rw[Int.fmod_eq_emod_of_nonneg i (by omega)];exact q)
def PR:Pa X (binaryOp .Pow) (rI UH λi j=>.int (i^j.toNat)):=SW λ_ _ _ _ _ _ _ hc q=>pow_int_small hc.1 hc.2.1 hc.2.2 q
def WD {f:Value->Sem Value} {g:Int->Int}
  (rule:∀ (i:Int) (t:Tok) (s:Shared) (Q:Value->Shared->Prop) (E:Value->Shared->Prop),Q (.int (g i) s.toks) { s with toks:=s.toks+1 }->wpAny (model X.prog X.w) X.A (f (.int i t)) Q E s) :
  UA X f (rU λi=>.int (g i)):=by
 intro pins s σ H x v Q I rx h;obtain⟨i,rfl,q⟩:=h;obtain⟨t,rfl⟩:=rx;exact rule i t s _ _ ⟨.int (g i),H,I.tok _,⟨_,rfl⟩,q⟩
def HU:UA X (unaryOp .USub) (rU λi=>.int (-i)):=WD λ_ _ _ _ _ q=>neg_int q
end
def RB:V->V->Bool
 |.non,.non=>true|.non,.int _=>true|.int _,.non=>true|.non,.bl _=>true|.bl _,.non=>true|.non,.str _=>true|.str _,.non=>true
 |.int _,.int _=>true|.bl _,.bl _=>true|.str _,.str _=>true|.byt _,.byt _=>true
 |.int _,.str _=>true|.str _,.int _=>true|.bl _,.str _=>true|.str _,.bl _=>true
 |_,_=>false
def WG:R2:=λx y H Q=>RB x y=true/\Q (.bl (decide (x=y))) H
def VW:R2:=λx y H Q=>RB x y=true/\Q (.bl (!decide (x=y))) H
def AK {i j:Int}:decide (V.int i=V.int j)=(i==j):=by
 rw[Bool.eq_iff_iff];simp
def IY {i j:Bool}:decide (V.bl i=V.bl j)=(i==j):=by
 rw[Bool.eq_iff_iff];simp
def CU {i j:Str}:decide (V.str i=V.str j)=(i==j):=by
 rw[Bool.eq_iff_iff];simp
def CA {i j:Array UInt8}:decide (V.byt i=V.byt j)=(i.toList==j.toList):=by
 rw[Bool.eq_iff_iff];cases i;cases j;simp
section
variable {X:Cx} {a b c:Expr} {ta tb tc:TE} {pos:Pos}
def Cz {pins:List (Addr×Obj)} {σ:St} {H:Hp} {s:Shared} {Q:VK} {k k':Bool} (I:WM X pins σ H s) (q:Q (.bl k) H) (e:k=k'):EP X pins σ Q (.bool k') s:=by
 subst e;exact⟨.bl k,H,I,rfl,q⟩
def Db:Pa X (compareOp .Eq) WG:=by
 intro pins s σ H x y v u Q I rx ry h;obtain⟨hs,q⟩:=h;cases x with
 |non=>
  cases rx
  cases y with
  |non=>cases ry;exact PySem.EqNone.eq_none_none (Cz I q (by simp))
  |bl j=>cases ry;exact PySem.EqNone.eq_none_bool (Cz I q (by simp))
  |int j=>obtain⟨t',rfl⟩:=ry;exact PySem.EqNone.eq_none_int (Cz I q (by simp))
  |str j=>obtain⟨t',rfl⟩:=ry;exact PySem.EqNone.eq_none_str (Cz I q (by simp))
  |_=>exact absurd (show false=true from hs) zAo
 |bl i=>
  cases rx
  cases y with
  |non=>cases ry;exact PySem.EqNone.eq_bool_none (Cz I q (by simp))
  |bl j=>cases ry;exact eq_bool (Cz I q IY)
  |str j=>obtain⟨t',rfl⟩:=ry;exact PySem.EqMixed.eq_bool_str (Cz I q (by simp))
  |_=>exact absurd (show false=true from hs) zAo
 |int i=>
  obtain⟨t,rfl⟩:=rx;cases y with
  |non=>cases ry;exact PySem.EqNone.eq_int_none (Cz I q (by simp))
  |int j=>obtain⟨t',rfl⟩:=ry;exact eq_int (Cz I q AK)
  |str j=>obtain⟨t',rfl⟩:=ry;exact PySem.EqMixed.eq_int_str (Cz I q (by simp))
  |_=>exact absurd (show false=true from hs) zAo
 |str i=>
  obtain⟨t,rfl⟩:=rx;cases y with
  |non=>cases ry;exact PySem.EqNone.eq_str_none (Cz I q (by simp))
  |bl j=>cases ry;exact PySem.EqMixed.eq_str_bool (Cz I q (by simp))
  |int j=>obtain⟨t',rfl⟩:=ry;exact PySem.EqMixed.eq_str_int (Cz I q (by simp))
  |str j=>obtain⟨t',rfl⟩:=ry;exact eq_str (Cz I q CU)
  |_=>exact absurd (show false=true from hs) zAo
 |byt i=>
  obtain⟨t,rfl⟩:=rx;cases y with
  |byt j=>obtain⟨t',rfl⟩:=ry;exact PySem.W.eq_bytes (Cz I q CA)
  |_=>exact absurd (show false=true from hs) zAo
 |_=>cases y <;> exact absurd (show false=true from hs) zAo
def Pf:Pa X (compareOp .NotEq) VW:=by
 intro pins s σ H x y v u Q I rx ry h;obtain⟨hs,q⟩:=h;cases x with
 |non=>
  cases rx
  cases y with
  |non=>cases ry;exact PySem.EqNone.ne_none_none (Cz I q (by simp))
  |bl j=>cases ry;exact PySem.EqNone.ne_none_bool (Cz I q (by simp))
  |int j=>obtain⟨t',rfl⟩:=ry;exact PySem.EqNone.ne_none_int (Cz I q (by simp))
  |str j=>obtain⟨t',rfl⟩:=ry;exact PySem.EqNone.ne_none_str (Cz I q (by simp))
  |_=>exact absurd (show false=true from hs) zAo
 |bl i=>
  cases rx
  cases y with
  |non=>cases ry;exact PySem.EqNone.ne_bool_none (Cz I q (by simp))
  |bl j=>cases ry;exact ne_bool (Cz I q (congrArg not IY))
  |str j=>obtain⟨t',rfl⟩:=ry;exact PySem.EqMixed.ne_bool_str (Cz I q (by simp))
  |_=>exact absurd (show false=true from hs) zAo
 |int i=>
  obtain⟨t,rfl⟩:=rx;cases y with
  |non=>cases ry;exact PySem.EqNone.ne_int_none (Cz I q (by simp))
  |int j=>obtain⟨t',rfl⟩:=ry;exact ne_int (Cz I q (congrArg not AK))
  |str j=>obtain⟨t',rfl⟩:=ry;exact PySem.EqMixed.ne_int_str (Cz I q (by simp))
  |_=>exact absurd (show false=true from hs) zAo
 |str i=>
  obtain⟨t,rfl⟩:=rx;cases y with
  |non=>cases ry;exact PySem.EqNone.ne_str_none (Cz I q (by simp))
  |bl j=>cases ry;exact PySem.EqMixed.ne_str_bool (Cz I q (by simp))
  |int j=>obtain⟨t',rfl⟩:=ry;exact PySem.EqMixed.ne_str_int (Cz I q (by simp))
  |str j=>obtain⟨t',rfl⟩:=ry;exact ne_str (Cz I q (congrArg not CU))
  |_=>exact absurd (show false=true from hs) zAo
 |byt i=>
  obtain⟨t,rfl⟩:=rx;cases y with
  |byt j=>obtain⟨t',rfl⟩:=ry;exact PySem.W.ne_bytes (Cz I q (congrArg not CA))
  |_=>exact absurd (show false=true from hs) zAo
 |_=>cases y <;> exact absurd (show false=true from hs) zAo
def Mb:Pa X (compareOp .Lt) (NZ λi j=>.bl (decide (i<j))):=NP λ_ _ _ _ _ _ _ q=>lt_int q
def Ui:Pa X (compareOp .LtE) (NZ λi j=>.bl (decide (i<=j))):=NP λ_ _ _ _ _ _ _ q=>le_int q
def Uk:Pa X (compareOp .Gt) (NZ λi j=>.bl (decide (j<i))):=NP λ_ _ _ _ _ _ _ q=>gt_int q
def C8:Pa X (compareOp .Is) (λx y H Q=>y=.non/\Q (.bl (decide (x=.non))) H):=by
 intro pins s σ H x y v u Q I rx ry h;obtain⟨rfl,q⟩:=h;cases ry;refine is_none_gen (Cz I q ?_);cases x <;> first
  |(cases rx;rfl)
  |(obtain⟨t,rfl⟩:=rx;rfl)
def BW:Pa X (compareOp .IsNot) (λx y H Q=>y=.non/\Q (.bl (!decide (x=.non))) H):=by
 intro pins s σ H x y v u Q I rx ry h;obtain⟨rfl,q⟩:=h;cases ry;refine isnot_none_gen (Cz I q ?_);cases x <;> first
  |(cases rx;rfl)
  |(obtain⟨t,rfl⟩:=rx;rfl)
def Bk (b:Expr) {op:CmpOp} (h:op≠.In:=by decide) (h2:op≠.NotIn:=by decide):behindInMarks op b=false:=by
 have e1:(op==CmpOp.In)=false:=by cases op <;> first|rfl|exact absurd rfl h
 have e2:(op==CmpOp.NotIn)=false:=by cases op <;> first|rfl|exact absurd rfl h2
 cases b <;> simp [behindInMarks,e1,e2]
def Ku {op:CmpOp} {r:R2} (ho:Pa X (compareOp op) r) (ha:PE X a ta) (hb:PE X b tb) (hm:behindInMarks op b=false):PE X (.Compare a [op] [b] pos) (SY r ta tb):=by
 intro pins s σ H Q I h;exact wpAny_Compare1 (PQ ha hb I h λv u s2 x y H2 I2 rx ry q=>ho pins s2 σ H2 x y v u Q I2 rx ry q) hm
def RZ (t:TE):TT:=λσ H Q=>t σ H λx H'=>∃ k,x=.bl k/\Q k H'
def Bf {op:CmpOp} {r:R2} (ho:Pa X (compareOp op) r) (ha:PE X a ta) (hb:PE X b tb) (hm:behindInMarks op b=false):PT X (.Compare a [op] [b] pos) (RZ (SY r ta tb)):=by
 intro pins s σ H Q I h;refine wpAny_isTrue_Compare1 (Dx (ha pins s σ H _ I h) λv s1 ⟨x,H1,I1,r1,q1⟩=>Dx (hb pins s1 σ H1 _ I1 q1) λu s2 ⟨y,H2,I2,r2,q2⟩=>
  Dx (ho pins s2 σ H2 x y v u _ I2 r1 r2 q2) λc s3 ⟨z,H3,I3,r3,k,e,q3⟩=>?_) hm
 subst e;cases r3;exact wpAny_truthy_bool ⟨H3,I3,q3⟩
def OM (r r':R2) (ta tb tc:TE):TE:=λσ H Q=>ta σ H λx H1=>tb σ H1 λy H2=>r x y H2 λz H3=>∃ k,z=.bl k /\
 (if k=true then tc σ H3 λw' H4=>r' y w' H4 Q else Q (.bl false) H3)
def Wr {op op':CmpOp} {r r':R2} (ho:Pa X (compareOp op) r) (ho':Pa X (compareOp op') r') (ha:PE X a ta) (hb:PE X b tb) (hc:PE X c tc)
  (hm:lastMarks [op,op'] [b,c]=false:=by with_unfolding_all rfl):PE X (.Compare a [op,op'] [b,c] pos) (OM r r' ta tb tc):=by
 intro pins s σ H Q I h;refine Compare_chain (Dx (ha pins s σ H _ I h) λv s1 ⟨x,H1,I1,r1,q1⟩=>chain_link (Dx (hb pins s1 σ H1 _ I1 q1) λu s2 ⟨y,H2,I2,r2,q2⟩=>
  Dx (ho pins s2 σ H2 x y v u _ I2 r1 r2 q2) λd s3 ⟨z,H3,I3,r3,k,e,q3⟩=>?_)) hm
 subst e;cases r3;refine wpAny_truthy_bool ?_;cases k with
 |false=>exact ite_ff ⟨.bl false,H3,I3,rfl,q3⟩
 |true=>exact ite_tt (chain_last (Dx (hc pins s3 σ H3 _ I3 q3) λw' s4 ⟨z',H4,I4,r4,q4⟩=>ho' pins s4 σ H4 y z' u w' Q I4 r2 r4 q4))
def SL (K:zAb) (x:V) (H:Hp) (k:Bool):Prop:=
 match x with
 |.non=>k=false
 |.bl b=>k=b
 |.int i=>k=(i != 0)
 |.str y=>y.length<=sizeLine/\k=((y.length:Int) != 0)
 |.byt y=>y.size<=sizeLine/\k=((y.size:Int) != 0)
 |.ref p=>(∃ xs,WL K H p xs/\k = !xs.isEmpty)\/(∃ xs,WX K H p xs/\k = !xs.isEmpty)\/∃ kvs,H p=some (.dK kvs)/\k = !kvs.isEmpty
 |_=>False
def AD {κ:Type} {kvs:List (κ×V)} {vs:List (κ×Value)} (r:KV kvs vs):(!vs.isEmpty) = !kvs.isEmpty:=by
 cases r <;> rfl
def Xe {xs:List V} {its:List Value} (r:WR xs its):(!its.toArray.isEmpty) = !xs.isEmpty:=by
 cases r <;> simp
def Pn:(sizeLine:Nat)<2^63:=by rw[zCf];decide
def OZ:VH X (λx H Q=>∃ k,SL X.K x H k/\Q k H):=by
 intro pins s σ H x v Q I rx h;obtain⟨k,e,q⟩:=h;have hl:=Pn;have hs:sizeLine=16777216:=zCf;cases x with
 |non=>
  cases rx
  have e':k=false:=e;subst e';exact truthy_none ⟨H,I,q⟩
 |bl b=>
  cases rx
  have e':k=b:=e;subst e';exact wpAny_truthy_bool ⟨H,I,q⟩
 |int i=>
  obtain⟨t,rfl⟩:=rx;have e':k=(i != 0):=e;subst e';exact PySem.P.truthy_int ⟨H,I,q⟩
 |str y=>
  obtain⟨t,rfl⟩:=rx;obtain⟨hy,e'⟩:y.length<=sizeLine/\k=((y.length:Int) != 0):=e;subst e';exact PySem.P.truthy_str (by omega) ⟨H,I.tok _,q⟩
 |byt y=>
  obtain⟨t,rfl⟩:=rx;obtain⟨hy,e'⟩:y.size<=sizeLine/\k=((y.size:Int) != 0):=e;subst e';exact PySem.W.truthy_bytes (by omega) ⟨H,I.tok _,q⟩
 |ref p=>
  cases rx
  have e':(∃ xs,WL X.K H p xs/\k = !xs.isEmpty)\/(∃ xs,WX X.K H p xs/\k = !xs.isEmpty)\/∃ kvs,H p=some (.dK kvs)/\k = !kvs.isEmpty:=e;rcases e' with ⟨xs,hx,e'⟩|⟨xs,hx,e'⟩|⟨kvs,hx,e'⟩
  .subst e'
   obtain⟨its,r,pl,hz⟩:=I.list hx;have hlen:=r.length;exact wpAny_truthy_list pl.isList (by simp only [zAh];omega) ⟨H,I.tok _,by rw[Xe r];exact q⟩
  .subst e'
   obtain⟨its,r,pl,hz⟩:=I.tuple hx;have hlen:=r.length;exact truthy_tuple pl (by simp only [zAh];omega) ⟨H,I.tok _,by rw[Xe r];exact q⟩
  .subst e'
   obtain⟨hz,hS,vs,r,m⟩:kvs.length<=sizeLine/\(p==sysModules)=false/\∃ vs,KV kvs vs/\s.heap.DictOf (Ej X.prog X.w) p vs:=I.hok p _ hx;have hlen:kvs.length=vs.length:=Paired.length r;exact wpAny_truthy_dict hS m (by omega) ⟨H,I.tok _,by rw[AD r];exact q⟩
 |_=>exact (show False from e).elim
def Bw:Pa X (binaryOp .Add) (λx y H Q=>∃ i j,x=.str i/\y=.str j/\i.length+j.length<=sizeLine/\Q (.str (i++j)) H):=by
 intro pins s σ H x y v u Q I rx ry h;obtain⟨i,j,rfl,rfl,hz,q⟩:=h;obtain⟨t,rfl⟩:=rx;obtain⟨t',rfl⟩:=ry;exact add_str (λt' tk=>⟨.str (i++j),H,I.tok _,⟨_,rfl⟩,q⟩) hz
def Sg {x:V} {us:List Value} (r:WR [x] us):∃ u,us=[u]/\WS x u:=by
 cases r with
 |cons r1 r2=>cases r2;exact⟨_,rfl,r1⟩
def RV {x y:V} {us:List Value} (r:WR [x,y] us):∃ u w',us=[u,w']/\WS x u/\WS y w':=by
 cases r with
 |cons r1 r2=>
  cases r2 with
  |cons r3 r4=>cases r4;exact⟨_,_,rfl,r1,r3⟩
def EE:Oz X (.type "int") (λxs H Q=>(∃ i,xs=[.int i]/\Q (.int i) H)\/∃ k,xs=[.bl k]/\Q (.int (if k then 1 else 0)) H):=by
 intro pins s σ H xs us Q I r h;rcases h with ⟨i,rfl,q⟩|⟨k,rfl,q⟩
 .obtain⟨u,rfl,t,rfl⟩:=Sg r
  exact call_int_int ⟨.int i,H,I,⟨_,rfl⟩,q⟩
 .obtain⟨u,rfl,r1⟩:=Sg r
  cases r1
  exact call_int_bool ⟨.int (if k then 1 else 0),H,I.tok _,⟨_,rfl⟩,q⟩
def Dh:Oz X (.type "str") (λxs H Q=>∃ i,xs=[.int i]/\i.natAbs.log2<1920/\Q (.str (toString i)) H):=by
 intro pins s σ H xs us Q I r h;obtain⟨i,rfl,hz,q⟩:=h;obtain⟨u,rfl,t,rfl⟩:=Sg r;exact PySem.P.str_of_int hz ⟨.str _,H,I.tok _,⟨_,rfl⟩,q⟩
end
structure YA (h:Heap) (x dx C:Addr) (mA:Str->Option Value):Prop where
 obj:h.get? x=some (zAQ C dx)
 ns:h.Ns1 dx mA
 ne:dx≠x
set_option tactic.hygienic true in
def DO {h:Heap} {dx:Addr} {mA:Str->Option Value} (n:h.Ns1 dx mA):∃ od,h.get? dx=some od/\∀ name,PySem.W.lookIn name od=some (mA name):=by
 obtain⟨o,es,ep,ho,hd,hk,_,hm⟩:=n;refine⟨o,ho,λname=>?_⟩;have e:=hm name;unfold nsFind findBy at e;rw[<- Array.find?_toList] at e;unfold PySem.W.lookIn;rw[hd]
 dsimp only
 split
 .rename_i y q
  rw[q] at e;exact congrArg some e
 .rename_i q
  rw[q] at e;have a:es.toList.any (·.refKey)=false:=by
   rw[List.any_eq_false];intro y hy;obtain⟨z,t,hkey⟩:=hk y (Array.mem_toList_iff.mp hy);simp [DictEntry.refKey,hkey]
  have a':¬ es.toList.any (·.refKey)=true:=by rw[a];exact zAo
  rw[if_neg a'];exact congrArg some e
def YA.look {h:Heap} {x dx C:Addr} {mA:Str->Option Value} (I:YA h x dx C mA):∃ od,PySem.W.InstAt h x (zAQ C dx) C (some od)/\∀ name,PySem.W.lookIn name od=some (mA name):=
 let ⟨od,ho,hl⟩:=DO I.ns
 ⟨od,⟨I.obj,rfl,rfl,ho⟩,hl⟩
section
variable {prog:Program} {w:World} {A:Around} {E:Value->Shared->Prop} {s:Shared} {K:zAb} {x dx C f:Addr} {mA:Str->Option Value} {name:Str} {v:Value}
def ME {expr:Bool} {Q:Value->Shared->Prop} (X:K.In s.heap) (I:YA s.heap x dx C mA) (hg:zBL K C name=true) (hh:zBW K C=true)
  (ha:zAd K (.ref C) name=some none) (hv:mA name=some v) (hv':PySem.W.handedIn v=true) (h:Q v { s with toks:=s.toks+1 }) :
  wpAny (model prog w) A (getAttr (.ref x) name expr) Q E s:=by
 obtain⟨od,J,hl⟩:=I.look;exact PySem.W.get_value X J (PySem.W.plainGet_of hg).1 (PySem.W.findObj_own hh ha rfl (by rw[hl,hv])) hv' h
def JF {pl:Sem Bool} {Q:Value×List Value->Shared->Prop} (X:K.In s.heap) (I:YA s.heap x dx C mA) (hg:zBL K C name=true)
  (hf:zAd K (.ref C) name=some (some (.ref f))) (ht:zBs K (.ref f)=true) (hv:mA name=none) (h:Q (.ref f,[.ref x]) s) :
  wpAny (model prog w) A (getMethod (.ref x) name pl) Q E s:=by
 obtain⟨od,J,hl⟩:=I.look;exact PySem.W.method_fn X J (PySem.W.plainGet_of hg).1 (PySem.W.plainGet_of hg).2 hf (beq_iff_eq.mp ht) (by show (PySem.W.lookIn name od).map (·.isSome)=some false;rw[hl,hv];rfl) h
def MD {ns:List Str} {Q:Unit->Shared->Prop} (X:K.In s.heap) (I:YA s.heap x dx C mA)
  (hs:zAd K (.ref C) "__setattr__"=some (some (.builtin "object.__setattr__"))) (hp:PySem.W.plainOver K C=true) (ht:PySem.W.takerIn K C name=some none) (hh:zBW K C=true)
  (hw:PySem.Within mA ns) (hsz:ns.length<=sizeLine)
  (h:∀ h',YA h' x dx C (λy=>if y=name then some v else mA y)->zBq dx s.heap h'->Q () { s with heap:=h',toks:=s.toks+2 }) :
  wpAny (model prog w) A (setAttr (.ref x) name v) Q E s:=by
 obtain⟨od,J,hl⟩:=I.look;refine PySem.W.set_plain X J hs (PySem.W.osa_open (s:={ s with toks:=s.toks+1 }) (r:=none) X J hp ht λb=>?_);obtain⟨cd,hc,hd'⟩:=PySem.W.any_some hh;have hx:s.heap.get? x=some ⟨.ref C,some dx,.plain,#[]⟩:=I.obj;refine zCd (zCe (zCd (zCd (wpAny_loadPart hx (zCd (PySem.W.Looks.here (s:={ s with toks:=s.toks+1 }) (PySem.W.looks_clsIn X hc) ?_))))));rw[hd'];refine zCe (a:=some dx) (zCd (zCe (zCd ?_)));refine wpAny_nsSet1 (s:={ s with toks:=s.toks+1 }) I.ns λh' hn2 hs2=>?_;obtain⟨oD,esD,epD,hoD,hdD,hcD⟩:=hn2.count (PySem.Within.cons name v hw);refine zCd (wpAny_lookBehind hoD (by rw[hdD];exact pastItsLine_dict (zAD hcD (by rw[zAe];omega))) ?_);exact zCe (h _ ⟨(hs2.2 _ (Ne.symm I.ne)).trans I.obj,hn2,I.ne⟩ hs2)
def IW {R:Result->Shared->Prop} {vs:List Value} {kw:List (Str×Value)} (X:K.In s.heap) (hm:zBQ K C=true)
  (hi:zAd K (.ref C) "__init__"=some (some (.ref f))) (hf:PySem.W.typeIn K (.ref f)=some (.type "function"))
  (h:codeAny (model prog w) (A.under (.builtin "type.__call__" ⟨.ref C::vs,kw⟩)) (.call (.ref f) ⟨.ref (s.heap.objs.size+1)::vs,kw⟩) (PySem.W.InitBack (s.heap.objs.size+1) R)
   { s with heap:=(s.heap.push zAL).push (zAQ C s.heap.objs.size) }) :
  codeAny (model prog w) A (.call (.ref C) ⟨vs,kw⟩) R s:=by
 obtain⟨hh,g,d,t,os⟩:=s;exact PySem.W.make_core (PySem.W.makes_of X hm) (PySem.W.looks_findIn X hi) (λself=>PySem.W.bind_fn X self hf) (.inl rfl) h
def EI {R:Result->Shared->Prop} (X:K.In s.heap) (hm:zBQ K C=true)
  (hi:zAd K (.ref C) "__init__"=some (some (.builtin "object.__init__")))
  (hb:∀ self,PySem.W.Looks (model prog w) s.heap (bindSpecial (.builtin "object.__init__") self) (.builtin "object.__init__",[self]))
  (h:codeAny (model prog w) (A.under (.builtin "type.__call__" ⟨[.ref C],[]⟩)) (.call (.builtin "object.__init__") ⟨[.ref (s.heap.objs.size+1)],[]⟩) (PySem.W.InitBack (s.heap.objs.size+1) R)
   { s with heap:=(s.heap.push zAL).push (zAQ C s.heap.objs.size) }) :
  codeAny (model prog w) A (.call (.ref C) ⟨[],[]⟩) R s:=by
 obtain⟨hh,g,d,t,os⟩:=s;exact PySem.W.make_core (PySem.W.makes_of X hm) (PySem.W.looks_findIn X hi) hb (.inr ⟨rfl,rfl⟩) h
end
def Ca (f:Str) (v:V):List (Str×V)->List (Str×V)
 |[]=>[(f,v)]
 |(g,x)::r=>if g=f then (g,v)::r else (g,x)::Ca f v r
theorem Bm (f g:Str) (v:V):∀ fs:List (Str×V),(Ca f v fs).lookup g=if g=f then some v else fs.lookup g
 |[]=>by
  show zBP g [(f,v)]=_;by_cases h:g=f
  .have hb:(g==f)=true:=beq_iff_eq.mpr h
   simp only [zBP,hb,if_pos h]
  .have hb:(g==f)=false:=beq_eq_false_iff_ne.mpr h
   simp only [zBP,hb,if_neg h]
 |(k,x)::r=>by
  have ih:=Bm f g v r;rw[show Ca f v ((k,x)::r)=(if k=f then (k,v)::r else (k,x)::Ca f v r) from rfl];by_cases hk:k=f
  .rw[if_pos hk]
   by_cases h:g=k
   .have hb:(g==k)=true:=beq_iff_eq.mpr h
    simp only [zBP,hb,if_pos (h.trans hk)]
   .have hb:(g==k)=false:=beq_eq_false_iff_ne.mpr h
    simp only [zBP,hb,if_neg (λe:g=f=>h (e.trans hk.symm))]
  .rw[if_neg hk]
   by_cases h:g=k
   .have hb:(g==k)=true:=beq_iff_eq.mpr h
    simp only [zBP,hb,if_neg (λe:g=f=>hk (h.symm.trans e))]
   .have hb:(g==k)=false:=beq_eq_false_iff_ne.mpr h
    simp only [zBP,hb];exact ih
theorem Tw (f:Str) (v:V):∀ fs:List (Str×V),f∈(Ca f v fs).map (·.1)/\∀ g,g∈fs.map (·.1)->g∈(Ca f v fs).map (·.1)
 |[]=>⟨by simp [Ca],λg h=>by simp at h⟩
 |(k,x)::r=>by
  obtain⟨i1,i2⟩:=Tw f v r;rw[show Ca f v ((k,x)::r)=(if k=f then (k,v)::r else (k,x)::Ca f v r) from rfl];by_cases hk:k=f
  .rw[if_pos hk]
   subst hk;exact⟨by simp,λg h=>by simpa using h⟩
  .rw[if_neg hk]
   refine⟨?_,λg h=>?_⟩
   .rw[zAv]
    exact zAi _ i1
   .rw[zAv] at h ⊢
    rcases zAj.mp h with e|e
    .exact zAj.mpr (.inl e)
    .exact zAi _ (i2 g e)
theorem Ue (f:Str) (v:V):∀ fs:List (Str×V),(Ca f v fs).length<=fs.length+1
 |[]=>by simp [Ca]
 |(k,x)::r=>by
  have ih:=Ue f v r;rw[show Ca f v ((k,x)::r)=(if k=f then (k,v)::r else (k,x)::Ca f v r) from rfl];by_cases hk:k=f
  .rw[if_pos hk,zAe,zAe];omega
  .rw[if_neg hk,zAe,zAe];omega
def XM.some_of {v:V} {o:Option Value} (r:XM (some v) o):∃ u,o=some u/\WS v u:=by
 cases o with
 |none=>exact (show False from r).elim
 |some u=>exact⟨u,rfl,r⟩
def XM.none_of {o:Option Value} (r:XM none o):o=none:=by
 cases o with
 |none=>rfl
 |some u=>exact (show False from r).elim
def DG {v:V} {u:Value} (r:WS v u):PySem.W.handedIn u=true:=by
 cases v with
 |non=>cases (show u=Value.none from r);rfl
 |bl b=>cases (show u=Value.bool b from r);rfl
 |int i=>obtain⟨t,e⟩:=(show ∃ t,u=Value.int i t from r);cases e;rfl
 |str x=>obtain⟨t,e⟩:=(show ∃ t,u=Value.str x t from r);cases e;rfl
 |byt b=>obtain⟨t,e⟩:=(show ∃ t,u=Value.bytes b t from r);cases e;rfl
 |flt b=>obtain⟨t,e⟩:=(show ∃ t,u=Value.float b t from r);cases e;rfl
 |ref a=>cases (show u=Value.ref a from r);rfl
 |ty n=>cases (show u=Value.type n from r);rfl
section
variable {P:Program} {w:World} {H:Hp} {h:Heap} {a C dx:Addr} {fs:List (Str×V)}
def Vh (hok:XJ P w H h) (e:H a=some (.ins C dx fs)):∃ mA,YA h a dx C mA/\(∀ f,XM (fs.lookup f) (mA f))/\PySem.Within mA (fs.map (·.1))/\fs.length<=1000/\H dx=some (.own a):=by
 obtain⟨d,z,ne,ob,mA,n,r,q⟩:=(show WY P w H h a (.ins C dx fs) from hok a _ e);exact⟨mA,⟨ob,n,ne⟩,r,q,z,d⟩
end
structure XI (K:zAb) (C:Addr):Prop where
 pg:zBL K C Str.empty=true
 hd:zBW K C=true
 po:PySem.W.plainOver K C=true
 sa:zAd K (.ref C) "__setattr__"=some (some (.builtin "object.__setattr__"))
def XI.get {K:zAb} {C:Addr} (c:XI K C) (f:Str):zBL K C f=true:=c.pg
def WQ (K:zAb) (C:Addr) (f:Str):Prop:=zAd K (.ref C) f=some none
def WQ.taker {K:zAb} {C:Addr} {f:Str} (n:WQ K C f):PySem.W.takerIn K C f=some none:=by
 unfold PySem.W.takerIn;rw[show zAd K (.ref C) f=some none from n];rfl
structure Fa (K:zAb) (C:Addr) (m:Str) (f:Addr):Prop where
 at_:zAd K (.ref C) m=some (some (.ref f))
 fn:zBs K (.ref f)=true
 kp:zAJ K (.ref f)=true
section
variable {X:Cx} {pins:List (Addr×Obj)} {σ:St} {H:Hp} {s:Shared} {a C dx:Addr} {fs:List (Str×V)} {f:Str} {v:V} {A:Around} {E:Value->Shared->Prop}
def Z6 {b:Bool} {Q:Value->Shared->Prop} (I:WM X pins σ H s) (e:H a=some (.ins C dx fs)) (c:XI X.K C) (n:WQ X.K C f) (l:fs.lookup f=some v)
  (h:∀ u s',WM X pins σ H s'->WS v u->Q u s'):wpAny (model X.prog X.w) A (getAttr (.ref a) f b) Q E s:=by
 obtain⟨mA,O,r,_,_,_⟩:=Vh I.hok e;obtain⟨u,hu,ru⟩:=XM.some_of (v:=v) (o:=mA f) (by rw[<- l];exact r f);exact ME I.kIn O (c.get f) c.hd n hu (DG ru) (h u _ (I.tok _) ru)
def Le {m:Str} {g:Addr} {pl:Sem Bool} {Q:Value×List Value->Shared->Prop} (I:WM X pins σ H s) (e:H a=some (.ins C dx fs)) (c:XI X.K C) (k:Fa X.K C m g) (l:fs.lookup m=none)
  (h:Q (.ref g,[.ref a]) s):wpAny (model X.prog X.w) A (getMethod (.ref a) m pl) Q E s:=by
 obtain⟨mA,O,r,_,_,_⟩:=Vh I.hok e;have hn:mA m=none:=XM.none_of (by rw[<- l];exact r m);exact JF I.kIn O (c.get m) k.at_ k.fn hn h
def Z1 {y:V} {u:Value} {Q:Unit->Shared->Prop} (I:WM X pins σ H s) (e:H a=some (.ins C dx fs)) (c:XI X.K C) (n:WQ X.K C f) (hl:fs.length<1000) (ry:WS y u)
  (h:∀ s',WM X pins σ (upd H a (.ins C dx (Ca f y fs))) s'->Q () s'):wpAny (model X.prog X.w) A (setAttr (.ref a) f u) Q E s:=by
 obtain⟨mA,O,r,wi,_,ho⟩:=Vh I.hok e;have hz:(fs.map (·.1)).length<=sizeLine:=by rw[zAa,zCf];omega
 refine MD I.kIn O c.sa c.po n.taker c.hd wi hz λh' O' sb=>h _ ?_;have hd:∃ o,h'.get? dx=some o:=let ⟨o,_,_,e',_⟩:=O'.ns;⟨o,e'⟩
 refine I.write (x:=a) (e:=dx) (by rw[e];exact True.intro) (.inr ho) (λb q hb z=>(sb.2 b hb).trans z) hd ?_;refine⟨by rw[Au O.ne];exact ho,?_,O.ne,O'.obj,_,O'.ns,λg=>?_,λg hg=>?_⟩
 .have:=Ue f y fs;omega
 .show XM ((Ca f y fs).lookup g) (if g=f then some u else mA g)
  rw[Bm];by_cases q:g=f
  .rw[if_pos q,if_pos q];exact ry
  .rw[if_neg q,if_neg q];exact r g
 .by_cases q:g=f
  .rw[q];exact (Tw f y fs).1
  .refine (Tw f y fs).2 g (wi g λz=>hg ?_)
   show (if g=f then some u else mA g)=none;rw[if_neg q];exact z
def WM.made (I:WM X pins σ H s):WM X pins σ (upd (upd H s.heap.objs.size (.own (s.heap.objs.size+1))) (s.heap.objs.size+1) (.ins C s.heap.objs.size []))
  { s with heap:=(s.heap.push zAL).push (zAQ C s.heap.objs.size) }:=by
 have e1:(s.heap.push zAL).get? s.heap.objs.size=some zAL:=zAG s.heap rfl;have e2:((s.heap.push zAL).push (zAQ C s.heap.objs.size)).get? (s.heap.objs.size+1)=some (zAQ C s.heap.objs.size):=by
  have:=zAG (s.heap.push zAL) (o:=zAQ C s.heap.objs.size) rfl
  rwa [zBV] at this
 have e3:(s.heap.push zAL).Ns s.heap.objs.size (λ_=>none):=⟨zAL,#[],_,e1,rfl,(λe he=>absurd he (by simp)),λ_=>rfl⟩;have I1:=I.laid (a:=s.heap.objs.size) (o:=.own (s.heap.objs.size+1)) (h':=s.heap.push zAL) (t':=s.toks) (λb u q=>zAm _ q) (zAn _) ⟨_,e1⟩;refine I1.laid (a:=s.heap.objs.size+1) (o:=.ins C s.heap.objs.size []) (t':=s.toks) (λb u q=>zAm _ q) (Nat.le_of_eq (zBV _ _)) ?_;have ne:s.heap.objs.size≠s.heap.objs.size+1:=zAy (zCa _);refine⟨by rw[Au ne,Ac],zAB _,ne,e2,λ_=>none,(Heap.Ns1.of_empty e3).at λo q=>zAm _ q,λ_=>True.intro,λy hy=>absurd rfl hy⟩
def LV {prog:Program} {w:World} {env:Env} {e:Expr} {f:Str} {pos:Pos} {s:Shared} {Q:Value->Shared->Prop} (hb:attributeBase e f env (eval e env)=eval e env)
  (h:wpAny (model prog w) A (eval e env) (λo s₁=>wpAny (model prog w) A (getAttr o f true) Q E s₁) E s):wpAny (model prog w) A (eval (.Attribute e f pos) env) Q E s:=
 Attribute_any_ h (by rw[arm_eval_Attribute,hb])
end
def SG (K:zAb) (ta:TE) (f:Str):TE:=λσ H Q=>ta σ H λx H1=>∃ a C dx fs v,x=.ref a/\H1 a=some (.ins C dx fs)/\XI K C/\WQ K C f/\fs.lookup f=some v/\Q v H1
def TX (K:zAb) (ta tv:TE) (f:Str):TS:=λD σ H=>tv σ H λy H1=>ta σ H1 λx H2=>∃ a C dx fs,x=.ref a/\H2 a=some (.ins C dx fs)/\XI K C/\WQ K C f/\fs.length<1000 /\
 D.nx σ (upd H2 a (.ins C dx (Ca f y fs)))
section
variable {X:Cx} {o e value:Expr} {f:Str} {pos pos':Pos} {ta tv:TE}
def Bx (he:PE X e ta) (hb:attributeBase e f X.env (eval e X.env)=eval e X.env):PE X (.Attribute e f pos) (SG X.K ta f):=by
 intro pins s σ H Q I h;refine LV hb (Dx (he pins s σ H _ I h) λu s1 ⟨x,H1,I1,rx,a,C,dx,fs,v,ex,ea,c,n,l,q⟩=>?_);subst ex;obtain rfl:u=Value.ref a:=rx;exact Z6 I1 ea c n l λu' s2 I2 ru=>⟨v,H1,I2,ru,q⟩
def Ct (ha:PE X o ta) (hv:PE X value tv) (hs:swapsWith value (some (.Attribute o f pos')) pos.line X.env=pure false):PS X (.Assign [.Attribute o f pos'] value pos) (TX X.K ta tv f):=by
 intro pins s σ H D I h;refine plainObj_wpAny_Assign_Attribute (Dx (hv pins s σ H _ I h) λu s1 ⟨y,H1,I1,ry,q⟩=>Dx (ha pins s1 σ H1 _ I1 q) λov s2 ⟨x,H2,I2,rx,a,C,dx,fs,ex,ea,c,n,l,q2⟩=>?_) hs;subst ex;obtain rfl:ov=Value.ref a:=rx;exact Z1 I2 ea c n l ry λs3 I3=>⟨σ,_,I3,q2⟩
def NJ {pl:Sem Bool} {m:Str} {apos:Pos} {args:List Expr} {pins:List (Addr×Obj)} {s:Shared} {σ:St} {H:Hp} {Q:Value->Shared->Prop} {te:TE} (he:PE X e te) (I:WM X pins σ H s)
  (h:te σ H λx H1=>∃ a C dx fs g,x=.ref a/\H1 a=some (.ins C dx fs)/\XI X.K C/\Fa X.K C m g/\fs.lookup m=none /\
   ∀ s1,WM X pins σ H1 s1->wpAny (model X.prog X.w) X.A (callWith pos (.ref g) [.ref a] (backTo pos (starEach args X.env)) (backToKw pos (keywordEach [] X.env))) Q X.xe s1)
  (ht:eval (.Call (.Attribute e m apos) args [] pos) X.env=(do
   let ov <- eval e X.env
   standAt apos.atName
   let (f,first) <- holding [ov] (getMethod ov m pl)
   callWith pos f first (backTo pos (starEach args X.env)) (backToKw pos (keywordEach [] X.env)))) :
  wpAny (model X.prog X.w) X.A (eval (.Call (.Attribute e m apos) args [] pos) X.env) Q X.xe s:=by
 refine zBz (pl:=pl) (Dx (he pins s σ H _ I h) λu s1 ⟨x,H1,I1,rx,a,C,dx,fs,g,ex,ea,c,k,l,q⟩=>?_) ht;subst ex;obtain rfl:u=Value.ref a:=rx;exact Le I1 ea c k l (q s1 I1)
end
section
variable {X:Cx} {pins:List (Addr×Obj)} {σ:St} {H:Hp} {s:Shared} {A:Around} {E:Value->Shared->Prop} {Q:Value->Shared->Prop} {c:Value} {b:Bool}
inductive Lw (K:zAb) (H:Hp):V->Value->Prop where
 |non:Lw K H .non (.type "NoneType")
 |bl (x:Bool):Lw K H (.bl x) (.type "bool")
 |int (i:Int):Lw K H (.int i) (.type "int")
 |str (x:Str):Lw K H (.str x) (.type "str")
 |flt (x:UInt64):Lw K H (.flt x) (.type "float")
 |lst {a:Addr} {xs:List V} (e:H a=some (.lst xs)):Lw K H (.ref a) (.type "list")
 |frz {a:Addr} {o:Obj} {xs:List V} (e:H a=some (.frz o (.lst xs))):Lw K H (.ref a) (.type "list")
 |tup {a:Addr} {xs:List V} (e:H a=some (.tup xs)):Lw K H (.ref a) (.type "tuple")
 |dK {a:Addr} {kvs:List (Jq×V)} (e:H a=some (.dK kvs)):Lw K H (.ref a) (.type "dict")
 |dT {a:Addr} {kvs:List (List Jq×V)} (e:H a=some (.dT kvs)):Lw K H (.ref a) (.type "dict")
 |ins {a C dx:Addr} {fs:List (Str×V)} (e:H a=some (.ins C dx fs)) (cl:XI K C) (ha:zAd K (.ref C) "__class__"=some (some (.builtin "object.__class__")))
   (hn:zBD K (.builtin "object.__class__") "__get__"=some (some (.builtin "getset_descriptor.__get__"))) (htk:PySem.W.takesIn K (.builtin "object.__class__")=some true)
   (hm:PySem.W.mroIn K C (.type "object")=some true):Lw K H (.ref a) (.ref C)
def EO {x:V} {u t:Value} (I:WM X pins σ H s) (rx:WS x u) (ty:Lw X.K H x t) (e:zBh X.K t c=some b) (h:∀ tk,Q (.bool b) { s with toks:=tk }) :
  wpAny (model X.prog X.w) A (call (.builtin "isinstance") [u,c]) Q E s:=by
 cases ty with
 |non=>cases (show u=Value.none from rx);exact zAY PySem.W.kitx_none I.kIn True.intro e (λz=>nomatch z) h
 |bl y=>cases (show u=Value.bool y from rx);exact zAY PySem.W.kitx_bool I.kIn True.intro e (λz=>nomatch z) h
 |int i=>obtain⟨t,q⟩:=(show ∃ t,u=Value.int i t from rx);cases q;exact zAY PySem.W.kitx_int I.kIn True.intro e (λz=>nomatch z) h
 |str y=>obtain⟨t,q⟩:=(show ∃ t,u=Value.str y t from rx);cases q;exact zAY PySem.W.kitx_str I.kIn True.intro e (λz=>nomatch z) h
 |flt y=>obtain⟨t,q⟩:=(show ∃ t,u=Value.float y t from rx);cases q;exact zAY PySem.W.kitx_float I.kIn True.intro e (λz=>nomatch z) h
 |@lst a xs ea=>
  cases (show u=Value.ref a from rx)
  obtain⟨_,_,n,_,h1⟩:=(show WY X.prog X.w H s.heap a (.lst xs) from I.hok a _ ea);exact zAY PySem.W.kitx_list I.kIn ⟨_,h1,rfl⟩ e (λz=>nomatch z) h
 |@frz a ob xs ea=>
  cases (show u=Value.ref a from rx)
  obtain⟨_,_,_,n,_,h1⟩:=(show WY X.prog X.w H s.heap a (.frz ob (.lst xs)) from I.hok a _ ea);exact zAY PySem.W.kitx_list I.kIn ⟨_,h1,rfl⟩ e (λz=>nomatch z) h
 |@tup a xs ea=>
  cases (show u=Value.ref a from rx)
  obtain⟨_,_,_,p⟩:=(show WY X.prog X.w H s.heap a (.tup xs) from I.hok a _ ea);obtain⟨o,h1,h2,_⟩:=p;exact zAY PySem.W.kitx_tuple I.kIn ⟨o,h1,h2⟩ e (λz=>nomatch z) h
 |@dK a kvs ea=>
  cases (show u=Value.ref a from rx)
  obtain⟨_,_,vs,_,p⟩:=(show WY X.prog X.w H s.heap a (.dK kvs) from I.hok a _ ea);obtain⟨o,es,ep,h1,h2,_⟩:=p;exact zAY PySem.W.kitx_dict I.kIn ⟨o,h1,h2.1⟩ e (λz=>nomatch z) h
 |@dT a kvs ea=>
  cases (show u=Value.ref a from rx)
  obtain⟨_,_,xs,_,o,es,ep,h1,h2,_⟩:=(show WY X.prog X.w H s.heap a (.dT kvs) from I.hok a _ ea);exact zAY PySem.W.kitx_dict I.kIn ⟨o,h1,h2.1⟩ e (λz=>nomatch z) h
 |@ins a C dx fs ea cl ha hn htk hm=>
  cases (show u=Value.ref a from rx)
  obtain⟨mA,O,_⟩:=Vh I.hok ea;obtain⟨od,J,_⟩:=O.look;exact zAY (PySem.W.kitx_own (cl.get _) cl.hd ha hn htk hm) I.kIn J e (λz=>nomatch z) h
end
structure XA (k:Nat) (A:Around):Prop where
 hd:A.handled=none
 dp:A.depth+3*k+5<recursionLimit
 un:A.units+16*k+200<cLine
def XA.mono {j k:Nat} {A:Around} (r:XA k A) (h:j<=k):XA j A:=⟨r.hd,by have:=r.dp;omega,by have:=r.un;omega⟩
def XA.deeper {k:Nat} {A:Around} (r:XA (k+1) A) (env:Env):XA k (A.deeper env):=
 ⟨r.hd,by have:=r.dp;show A.depth+1+3*k+5<_;omega,by have:=r.un;show A.units+3+16*k+200<_;omega⟩
def Z7 {A:Around} {C:Addr} {us:List Value} {kw:List (Str×Value)}:(A.under (.builtin "type.__call__" ⟨.ref C::us,kw⟩)).depth=A.depth+1:=by
 first|rfl|simp [Around.under,Code.weight,Code.isCreation,Code.isGuard,Code.isCaller,Code.frames,Code.isFrame,guardIds]
def Z2 {A:Around} {C:Addr} {us:List Value} {kw:List (Str×Value)}:(A.under (.builtin "type.__call__" ⟨.ref C::us,kw⟩)).units=A.units+1:=by
 first|rfl|simp [Around.under,Code.cUnits,Code.frames,Code.isFrame]
def XA.make {k:Nat} {A:Around} (r:XA (k+1) A) (C:Addr) (us:List Value) (kw:List (Str×Value)):XA k (A.under (.builtin "type.__call__" ⟨.ref C::us,kw⟩)):=
 ⟨r.hd,by have:=r.dp;rw[Z7];omega,by have:=r.un;rw[Z2];omega⟩
def XA.depth {k:Nat} {A:Around} (r:XA k A):A.depth<recursionLimit:=by have:=r.dp;omega
def XA.units {k:Nat} {A:Around} (r:XA k A):A.units+64<cLine:=by have:=r.un;omega
def XA.units0 {k:Nat} {A:Around} (r:XA k A):A.units<cLine:=by have:=r.un;omega
def KJ:TA:=λ_ H Q=>Q [] H
def SO (ta:TE) (tr:TA):TA:=λσ H Q=>ta σ H λx H1=>tr σ H1 λxs H2=>Q (x::xs) H2
section
variable {X:Cx} {e:Expr} {es:List Expr} {te:TE} {t:TA} {pos:Pos}
def Ag:PA X [] KJ:=λ_ _ _ _ H Q I h=>Calls.spliced_nil ⟨[],H,I,.nil,h⟩
def Aa (ha:PE X e te) (hr:PA X es t) (hs:starEach (e::es) X.env=(false,eval e X.env)::starEach es X.env:=by rfl):PA X (e::es) (SO te t):=by
 intro pos pins s σ H Q I h;rw[hs];show wpAny _ _ (spliced ((false,eval e X.env)::backTo pos (starEach es X.env))) _ _ s;refine Calls.spliced_cons (Dx (ha pins s σ H _ I h) λu s1 ⟨x,H1,I1,r1,q1⟩=>?_);exact Dx (hr pos pins s1 σ H1 _ I1 q1) λus s2 ⟨xs,H2,I2,r2,q2⟩=>⟨x::xs,H2,I2,.cons r1 r2,q2⟩
def TQ (t:TA):TE:=λσ H Q=>t σ H λxs H1=>xs.length<=sizeLine/\∀ p,H1 p=none->Q (.ref p) (upd H1 p (.tup xs))
def UL (t:TA):TE:=λσ H Q=>t σ H λxs H1=>xs.length<=sizeLine/\∀ p,H1 p=none->Q (.ref p) (upd H1 p (.lst xs))
def Cw {x1} (h:PA X es t):PE X (.Tuple es x1 pos) (TQ t):=by
 intro pins s σ H Q I hq;refine wpAny_Tuple_spliced (Dx (h pos pins s σ H _ I hq) λus s1 ⟨xs,H1,I1,r,z,q⟩=>⟨by rw[<- r.length];exact z,?_⟩);have hf:H1 s1.heap.objs.size=none:=I1.hok.fresh (zAn _);refine⟨.ref s1.heap.objs.size,upd H1 s1.heap.objs.size (.tup xs),I1.laid (t':=s1.toks) (λb u e=>zAm _ e) (zAn _) ?_,rfl,q _ hf⟩;exact⟨z,us,r,⟨_,zAG _ rfl,rfl,_,rfl⟩⟩
def Cb (h:PA X es t):PE X (.List es pos) (UL t):=by
 intro pins s σ H Q I hq;refine wpAny_List_spliced (Dx (h pos pins s σ H _ I hq) λus s1 ⟨xs,H1,I1,r,z,q⟩=>⟨by rw[<- r.length];exact z,?_⟩);have hf:H1 s1.heap.objs.size=none:=I1.hok.fresh (zAn _);refine⟨.ref s1.heap.objs.size,upd H1 s1.heap.objs.size (.lst xs),I1.laid (t':=s1.toks) (λb u e=>zAm _ e) (zAn _) ?_,rfl,q _ hf⟩;exact⟨z,us,0,r,zAG _ rfl⟩
end
abbrev Sp:=List V->Hp->VK->XK->Prop
abbrev ES:=List Env->Hp->Shared->XK->Value->Shared->Prop
structure YB (P:Program) (w:World) (K:zAb) (mg:Str->Option Value) (base:Heap) (A:Around) (outer:List Env) (s:Shared) (H:Hp):Prop where
 frames:A.frames=some outer
 mod:Mod K mg base
 bs:∀ b o,base.get? b=some o->s.heap.get? b=some o/\H b=none
 bsz:base.objs.size<=s.heap.objs.size
 funs:s.heap.FunFrames base outer
 frf:∀ b∈X5 outer,H b=none
 hok:XJ P w H s.heap
 bare:AllBare s.gens
def CE (outer:List Env) (P:Program) (w:World) (H:Hp) (s:Shared) (Q:VK) (u:Value) (s':Shared):Prop:=
 ∃ v H',s'.os=s.os/\AllBare s'.gens/\Un (X5 outer) [] H H' s.heap s'.heap/\XJ P w H' s'.heap/\WS v u/\Q v H'
def CR (CX:ES) (outer:List Env) (P:Program) (w:World) (H:Hp) (s:Shared) (Q:VK) (E:XK) (r:Result) (s':Shared):Prop:=
 match r with
 |.ok (.ret u)=>CE outer P w H s Q u s'
 |.ok _=>False
 |.error e=>CX outer H s E e s'
structure WN (P:Program) (w:World) (K:zAb) (mg:Str->Option Value) (base:Heap) (CX:ES) (k:Nat) (f:Addr) (fd:zCh) (ps:List Str) (sp:Sp):Prop where
 len:∀ vs H Q E,sp vs H Q E->vs.length=ps.length
 run:∀ (A:Around) (outer:List Env) (s:Shared) (H:Hp) (args:Args) (us:List Value) (vs:List V) (Q:VK) (E:XK),XA k A->YB P w K mg base A outer s H->BindsTo s fd args (ps.zip us)->WR vs us->sp vs H Q E ->
  codeAny (model P w) A (.call (.ref f) args) (CR CX outer P w H s Q E) s
def WN.mono {P:Program} {w:World} {K:zAb} {mg:Str->Option Value} {base:Heap} {CX:ES} {j k:Nat} {f:Addr} {fd:zCh} {ps:List Str} {sp:Sp} (F:WN P w K mg base CX j f fd ps sp) (h:j<=k) :
  WN P w K mg base CX k f fd ps sp:=⟨F.len,λA outer s H args us vs Q E hr=>F.run A outer s H args us vs Q E (hr.mono h)⟩
def YB.make {P:Program} {w:World} {K:zAb} {mg:Str->Option Value} {base:Heap} {A:Around} {outer:List Env} {s:Shared} {H:Hp} (e:YB P w K mg base A outer s H) (C:Addr) (us:List Value) (kw:List (Str×Value)) :
  YB P w K mg base (A.under (.builtin "type.__call__" ⟨.ref C::us,kw⟩)) outer s H:=⟨by first|exact e.frames|(simpa [Around.under,Code.envs,Code.isFrame,pushEnvs] using e.frames),e.mod,e.bs,e.bsz,e.funs,e.frf,e.hok,e.bare⟩
section
variable {X:Cx} {pins:List (Addr×Obj)} {σ:St} {H:Hp} {s s':Shared}
def WM.env0 (I:WM X pins σ H s):YB X.prog X.w X.K X.mg X.base X.A X.stack s H:=
 ⟨I.ok.frames,I.ok.mod,I.bs,zAD I.ok.bsz I.sz,I.stack,I.stkFree,I.hok,I.bare⟩
def WM.after {Q:VK} {u:Value} (I:WM X pins σ H s) (h:CE X.stack X.prog X.w H s Q u s'):EP X pins σ Q u s':=by
 obtain⟨v,H',os,bare,un,hok,r,q⟩:=h;obtain⟨hh,g,d,t,os'⟩:=s';obtain rfl:os'=s.os:=os;exact⟨v,H',I.call (h':=hh) (g':=g) (d':=d) (t':=t) (ch:=[]) un hok bare (λb z=>absurd z (by simp)),r,q⟩
end
def EX (sp:Sp) (dvs:List V) (E:XK) (t:TA):TE:=λσ H Q=>t σ H λvs H1=>sp (vs++dvs) H1 Q E
def BY (C:Addr) (m:Str) (sp:Sp) (dvs:List V) (E:XK) (ta:TE) (t:TA):TE:=λσ H Q=>ta σ H λx H1=>∃ a dx fs,x=.ref a/\H1 a=some (.ins C dx fs)/\fs.lookup m=none /\
 t σ H1 λvs H2=>sp (x::(vs++dvs)) H2 Q E
def MU (C:Addr) (sp:Sp) (dvs:List V) (E:XK) (t:TA):TE:=λσ H Q=>t σ H λvs H1=>∀ x dx,H1 x=none->H1 dx=none->dx≠x ->
 sp (.ref x::(vs++dvs)) (upd (upd H1 dx (.own x)) x (.ins C dx [])) (λv H2=>v=.non/\Q (.ref x) H2) E
def XB (K:zAb) (fd:zCh) (ps:List Str) (ds:List Value):Prop:=
 ∀ (s:Shared) (us:List Value),K.In s.heap->(us++ds).length=ps.length->BindsTo s fd ⟨us,[]⟩ (ps.zip (us++ds))
def XB.all {K:zAb} {fd:zCh} {ps:List Str} (h:∀ us:List Value,us.length=ps.length->bindArgs fd ⟨us,[]⟩=pure (ps.zip us)):XB K fd ps []:=λs us _ hl=>by
 rw[zAI] at hl ⊢;exact .of_eq (h us hl)
def Pq (CX:ES) (X:Cx) (E:XK):Prop:=∀ (pins:List (Addr×Obj)) (σ:St) (H:Hp) (s:Shared) (e:Value) (s':Shared),WM X pins σ H s->CX X.stack H s E e s'->X.xe e s'
section
variable {X:Cx} {CX:ES} {k:Nat} {f C:Addr} {fd:zCh} {ps:List Str} {sp:Sp} {dvs:List V} {ds:List Value} {E:XK} {x m:Str} {p pos apos:Pos} {e o:Expr} {es:List Expr} {ta:TE} {t:TA}
def Wx {pins:List (Addr×Obj)} {σ:St} {H:Hp} {s:Shared} {Q:VK} {us:List Value} {vs:List V} (F:WN X.prog X.w X.K X.mg X.base CX k f fd ps sp) (hr:XA k X.A) (hb:XB X.K fd ps ds) (hd:WR dvs ds) (hx:Pq CX X E)
  (I:WM X pins σ H s) (r:WR vs us) (h:sp (vs++dvs) H Q E):wpAny (model X.prog X.w) X.A (call (.ref f) us) (EP X pins σ Q) X.xe s:=by
 have r2:WR (vs++dvs) (us++ds):=r.append hd;have hl:(us++ds).length=ps.length:=by rw[<- r2.length];exact F.len _ _ _ _ h
 refine wpAny_call (codeAny_mono (F.run X.A X.stack s H ⟨us,[]⟩ (us++ds) (vs++dvs) Q E hr I.env0 (hb s us I.kIn hl) r2 h) λr s' hq=>?_);cases r with
 |error e=>exact hx pins σ H s e s' I hq
 |ok fl=>
  cases fl with
  |ret u=>exact I.after hq
  |next=>exact False.elim hq
  |brk=>exact False.elim hq
  |cont=>exact False.elim hq
def LX (F:WN X.prog X.w X.K X.mg X.base CX k f fd ps sp) (hr:XA k X.A) (hg:Gl X x) (hm:X.mg x=some (.ref f)) (hk:zAJ X.K (.ref f)=true) (hb:XB X.K fd ps ds) (hd:WR dvs ds) (hx:Pq CX X E)
  (ha:PA X (e::es) t) (hdb:(x==("__debug__" : Str))=false:=by decide) (he:starEach (e::es) X.env=(false,eval e X.env)::starEach es X.env:=by rfl) (hpl:(backTo pos (starEach es X.env)).any (·.1)=false:=by rfl) :
  PE X (.Call (.Name x p) (e::es) [] pos) (EX sp dvs E t):=by
 intro pins s σ H Q I h;refine wpAny_Call_Name_kw (Lp I hg hm ?_ hdb);refine zBT (h₀:=X.base) I.ok.mod.kin hk (Dx (ha pos pins s σ H _ I h) λus s1 ⟨vs,H1,I1,r,q⟩=>⟨I1.kIn,?_⟩) he hpl;exact Wx F hr hb hd hx I1 r q
def LU {pl:Sem Bool} (he:PE X o ta) (c:XI X.K C) (hm:Fa X.K C m f) (F:WN X.prog X.w X.K X.mg X.base CX k f fd ps sp) (hr:XA k X.A) (hb:XB X.K fd ps ds) (hd:WR dvs ds) (hx:Pq CX X E) (ha:PA X (e::es) t)
  (hst:starEach (e::es) X.env=(false,eval e X.env)::starEach es X.env:=by rfl) (hpl:(backTo pos (starEach es X.env)).any (·.1)=false:=by rfl)
  (ht:eval (.Call (.Attribute o m apos) (e::es) [] pos) X.env=(do
   let ov <- eval o X.env
   standAt apos.atName
   let (f,first) <- holding [ov] (getMethod ov m pl)
   callWith pos f first (backTo pos (starEach (e::es) X.env)) (backToKw pos (keywordEach [] X.env))):=by rfl) :
  PE X (.Call (.Attribute o m apos) (e::es) [] pos) (BY C m sp dvs E ta t):=by
 intro pins s σ H Q I h;refine zBz (pl:=pl) (Dx (he pins s σ H _ I h) λu s1 ⟨x,H1,I1,rx,a,dx,fs,ex,ea,l,q⟩=>?_) ht;subst ex;obtain rfl:u=Value.ref a:=rx;refine Le I1 ea c hm l ?_;refine zBT (first:=[.ref a]) (h₀:=X.base) I.ok.mod.kin hm.kp (Dx (ha pos pins s1 σ H1 _ I1 q) λus s2 ⟨vs,H2,I2,r,q2⟩=>⟨I2.kIn,?_⟩) hst hpl;exact Wx (us:=.ref a::us) (vs:=.ref a::vs) F hr hb hd hx I2 (.cons rfl r) q2
def GS {pl:Sem Bool} (he:PE X o ta) (c:XI X.K C) (hm:Fa X.K C m f) (F:WN X.prog X.w X.K X.mg X.base CX k f fd ps sp) (hr:XA k X.A) (hb:XB X.K fd ps ds) (hd:WR dvs ds) (hx:Pq CX X E)
  (ht:eval (.Call (.Attribute o m apos) [] [] pos) X.env=(do
   let ov <- eval o X.env
   standAt apos.atName
   let (f,first) <- holding [ov] (getMethod ov m pl)
   callWith pos f first (backTo pos (starEach [] X.env)) (backToKw pos (keywordEach [] X.env))):=by rfl) :
  PE X (.Call (.Attribute o m apos) [] [] pos) (BY C m sp dvs E ta KJ):=by
 intro pins s σ H Q I h;refine zBz (pl:=pl) (Dx (he pins s σ H _ I h) λu s1 ⟨x,H1,I1,rx,a,dx,fs,ex,ea,l,q⟩=>?_) ht;subst ex;obtain rfl:u=Value.ref a:=rx;refine Le I1 ea c hm l ?_;exact PySem.W.callWith_K0 (first:=[.ref a]) I1.kIn hm.kp (Wx (us:=[.ref a]) (vs:=[.ref a]) F hr hb hd hx I1 (.cons rfl .nil) q)
structure Mk (K:zAb) (C f:Addr):Prop where
 makes:zBQ K C=true
 init:zAd K (.ref C) "__init__"=some (some (.ref f))
 fn:zBs K (.ref f)=true
 kp:zAJ K (.ref C)=true
def GF {pins:List (Addr×Obj)} {σ:St} {H:Hp} {s:Shared} {Q:VK} {us:List Value} {vs:List V} (M:Mk X.K C f) (F:WN X.prog X.w X.K X.mg X.base CX k f fd ps sp) (hr:XA (k+1) X.A) (hb:XB X.K fd ps ds) (hd:WR dvs ds)
  (hx:Pq CX X E) (I:WM X pins σ H s) (r:WR vs us)
  (h:∀ x dx,H x=none->H dx=none->dx≠x->sp (.ref x::(vs++dvs)) (upd (upd H dx (.own x)) x (.ins C dx [])) (λv H2=>v=.non/\Q (.ref x) H2) E) :
  wpAny (model X.prog X.w) X.A (call (.ref C) us) (EP X pins σ Q) X.xe s:=by
 have hq:=h (s.heap.objs.size+1) s.heap.objs.size (I.hok.fresh (zBY _)) (I.hok.fresh (zAn _)) (zAy (zCa _));have I2:=WM.made (C:=C) I;have r2:WR (V.ref (s.heap.objs.size+1)::(vs++dvs)) (Value.ref (s.heap.objs.size+1)::(us++ds)):=.cons rfl (r.append hd);have hl:(Value.ref (s.heap.objs.size+1)::us++ds).length=ps.length:=by
  have e:=r2.length;rw[F.len _ _ _ _ hq] at e;exact e.symm
 refine wpAny_call (IW (f:=f) I.kIn M.makes M.init (beq_iff_eq.mp M.fn) (codeAny_mono (F.run _ X.stack _ _ ⟨Value.ref (s.heap.objs.size+1)::us,[]⟩ (Value.ref (s.heap.objs.size+1)::(us++ds)) _ _ E (hr.make C us [])
  (I2.env0.make C us []) (hb _ (Value.ref (s.heap.objs.size+1)::us) I2.kIn hl) r2 hq) λr s' hq'=>?_))
 cases r with
 |error e=>exact hx pins σ _ _ e s' I2 hq'
 |ok fl=>
  cases fl with
  |ret u=>
   obtain⟨v,H',I3,rv,ev,q3⟩:=I2.after hq';subst ev;exact⟨rv,⟨V.ref (s.heap.objs.size+1),H',I3,rfl,q3⟩⟩
  |next=>exact False.elim hq'
  |brk=>exact False.elim hq'
  |cont=>exact False.elim hq'
def KF (M:Mk X.K C f) (F:WN X.prog X.w X.K X.mg X.base CX k f fd ps sp) (hr:XA (k+1) X.A) (hg:Gl X x) (hm:X.mg x=some (.ref C)) (hb:XB X.K fd ps ds) (hd:WR dvs ds) (hx:Pq CX X E)
  (ha:PA X (e::es) t) (hdb:(x==("__debug__" : Str))=false:=by decide) (he:starEach (e::es) X.env=(false,eval e X.env)::starEach es X.env:=by rfl) (hpl:(backTo pos (starEach es X.env)).any (·.1)=false:=by rfl) :
  PE X (.Call (.Name x p) (e::es) [] pos) (MU C sp dvs E t):=by
 intro pins s σ H Q I h;refine wpAny_Call_Name_kw (Lp I hg hm ?_ hdb);refine zBT (h₀:=X.base) I.ok.mod.kin M.kp (Dx (ha pos pins s σ H _ I h) λus s1 ⟨vs,H1,I1,r,q⟩=>⟨I1.kIn,?_⟩) he hpl;exact GF M F hr hb hd hx I1 r q
end
structure Bc (N P:List Str) (sc:Scope):Prop where
 kind:sc.kind=.function
 co:sc.isCoroutine=false
 gen:sc.isGenerator=false
 nd:N.Nodup
 pre:N.take P.length=P
 par:∀ x∈P,sc.names.lookup x=some .local\/sc.names.lookup x=some .cell
 nofree:∀ y∈sc.names,y.2≠.free
theorem Za {kindOf:Str->Option NameKind} {x:Str}:∀ {binds:List (Str×Value)} {m:Str->Option Value},(∀ v,(x,v)∉binds)->bindL kindOf binds m x=m x
 |[],_,_=>rfl
 |(n,v)::r,m,h=>by
  unfold bindL;rw[Za λw hw=>h w (zAi _ hw)]
  split
  .have:x≠n:=by rintro rfl;exact h v zAk
   simp [this]
  .rfl
theorem Zk {kindOf:Str->Option NameKind} {x:Str}:∀ {binds:List (Str×Value)} {m:Str->Option Value},(∀ v,(x,v)∉binds)->bindC kindOf binds m x=m x
 |[],_,_=>rfl
 |(n,v)::r,m,h=>by
  unfold bindC;rw[Zk λw hw=>h w (zAi _ hw)]
  split
  .rfl
  .have:x≠n:=by rintro rfl;exact h v zAk
   simp [this]
theorem Yv {kindOf:Str->Option NameKind} {x:Str} {v:Value}:∀ {P:List Str} {vs:List Value} {i:Nat} {m:Str->Option Value},P.Nodup->P[i]?=some x->vs[i]?=some v->kindOf x=some .local ->
  bindL kindOf (P.zip vs) m x=some v
 |[],_,_,_,_,h,_,_=>by simp at h
 |_::_,[],_,_,_,_,h,_=>by simp at h
 |p::P,w::vs,0,m,nd,h1,h2,hk=>by
  simp at h1 h2;subst h1;subst h2;show bindL kindOf ((p,w)::P.zip vs) m p=_;unfold bindL;rw[Za λv hv=>(zBd.mp nd).1 (List.of_mem_zip hv).1,if_pos hk];simp
 |p::P,w::vs,i+1,m,nd,h1,h2,hk=>by
  show bindL kindOf ((p,w)::P.zip vs) m x=_;unfold bindL;exact Yv (i:=i) (zBd.mp nd).2 (by simpa using h1) (by simpa using h2) hk
theorem Zy {kindOf:Str->Option NameKind} {x:Str} {v:Value}:∀ {P:List Str} {vs:List Value} {i:Nat} {m:Str->Option Value},P.Nodup->P[i]?=some x->vs[i]?=some v->kindOf x≠some .local ->
  bindC kindOf (P.zip vs) m x=some v
 |[],_,_,_,_,h,_,_=>by simp at h
 |_::_,[],_,_,_,_,h,_=>by simp at h
 |p::P,w::vs,0,m,nd,h1,h2,hk=>by
  simp at h1 h2;subst h1;subst h2;show bindC kindOf ((p,w)::P.zip vs) m p=_;unfold bindC;rw[Zk λv hv=>(zBd.mp nd).1 (List.of_mem_zip hv).1,if_neg hk];simp
 |p::P,w::vs,i+1,m,nd,h1,h2,hk=>by
  show bindC kindOf ((p,w)::P.zip vs) m x=_;unfold bindC;exact Zy (i:=i) (zBd.mp nd).2 (by simpa using h1) (by simpa using h2) hk
def Rf (N:List Str) (vs:List V):St:=vs.map some++zAC (N.length-vs.length) none
def X6 (CX:ES) (P:Program) (w:World) (K:zAb) (mg:Str->Option Value) (base:Heap) (N:List Str) (qual:Str) (scope:Scope) (f:Addr) (cd:Value) (A:Around) (outer:List Env) (s:Shared) (H:Hp) (E:XK):Cx where
 prog:=P
 w:=w
 K:=K
 mg:=mg
 base:=base
 A:=A.deeper (envOfC qual scope s.heap.objs.size f cd)
 N:=N
 s₀:=s
 H₀:=H
 env:=envOfC qual scope s.heap.objs.size f cd
 outer:=outer
 stack:=envOfC qual scope s.heap.objs.size f cd::outer
 ex:=[]
 calm:=true
 fn:=λ_=>true
 pn:=[]
 xe:=λe s'=>wpAny (model P w) (A.deeper (envOfC qual scope s.heap.objs.size f cd)) (leaving (envOfC qual scope s.heap.objs.size f cd) e) (λ_ s''=>CX outer H s E e s'') (λe' s''=>CX outer H s E e' s'') s'
def U1 {sc:Scope} {n:Nat} {x:Str} (h:sc.names.lookup x=some .cell):∃ c,(cellsFrom n sc.names []).lookup x=some c:=by
 have q:=PySem.W.cellsFrom_some sc.names n [] (.inl h);exact Option.isSome_iff_exists.mp q
def DJ {CX:ES} {P:Program} {w:World} {K:zAb} {mg:Str->Option Value} {base:Heap} {N ps:List Str} {qual:Str} {scope:Scope} {f:Addr} {cd:Value} {A:Around} {outer:List Env} {s s1:Shared} {H:Hp} {E:XK} {us:List Value} {vs:List V}
  (S:Bc N ps scope) (hd:A.handled=none) (e0:YB P w K mg base A outer s H) (hl:vs.length=ps.length) (r:WR vs us)
  (x:InCallC s s.heap.objs.size (bindL (envOfC qual scope s.heap.objs.size f cd).kindOf (ps.zip us) λ_=>none) (cellsFrom (s.heap.objs.size+1) scope.names []) (bindC (envOfC qual scope s.heap.objs.size f cd).kindOf (ps.zip us) λ_=>none) s1) :
  WM (X6 CX P w K mg base N qual scope f cd A outer s H E) [] (Rf N vs) H s1:=by
 have hpl:ps.length<=N.length:=by have:=congrArg List.length S.pre;rw[zAw] at this;omega
 obtain⟨h1,tk,rfl,hk⟩:=x.done;have noA:∀ b:Addr,b∉(X6 CX P w K mg base N qual scope f cd A outer s H E).ex:=λb z=>absurd (show b∈([]:List Addr) from z) (by simp);refine⟨⟨e0.mod,S.kind,rfl,rfl,zAn _,λy z c h1 h2=>?_,λy hy=>?_,λy c _ h=>?_,λ_=>hd,Around.frames_deeper e0.frames,.inr ⟨rfl,rfl⟩,λb z=>absurd z (noA b),e0.bs,e0.bsz,λb _ _=>noA b,λb z=>absurd z (noA b),e0.funs,e0.frf⟩,
  rfl,e0.bare,Un.kept hk,⟨_,x.toInCall.ns,λi y v h1 h2 h3=>?_⟩,λy c h=>⟨_,x.cell y c h⟩,e0.hok.fresh (zAn _),λy c h=>?_,λp hp=>absurd (show p∈([]:List (Addr×Obj)) from hp) (by simp),e0.hok.kept hk,?_⟩
 .exact name_of_addr x.apart (PySem.mem_of_lookup h1) (PySem.mem_of_lookup h2)
 .have hy:scope.names.lookup y=some .cell\/scope.names.lookup y=some .free:=hy
  rcases hy with hy|hy
  .exact U1 hy
  .exact absurd rfl (S.nofree _ (PySem.mem_of_lookup hy))
 .exact Nat.le_of_lt (x.above y c (PySem.mem_of_lookup h))
 .have hi:i<vs.length:=by
   unfold Rf at h2;by_cases hi:i<vs.length
   .exact hi
   .rw[zBO (by simpa using hi)] at h2
    rw[List.getElem?_replicate] at h2
    split at h2 <;> cases h2
  have ha:vs[i]?=some v:=by
   unfold Rf at h2;rw[List.getElem?_append_left (by simpa using hi),zAx] at h2;cases e:vs[i]? with
   |none=>rw[e] at h2;cases h2
   |some a=>rw[e] at h2;cases h2;rfl
  obtain⟨u,hu,rv⟩:=r.get ha;have hp:ps[i]?=some y:=by
   rw[<- S.pre,List.getElem?_take_of_lt (by omega)];exact h1
  have ndP:ps.Nodup:=by rw[<- S.pre];exact S.nd.sublist (List.take_sublist _ _)
  refine⟨u,rv,?_⟩;rcases S.par y (zAs hp) with k|k
  .exact .inl ⟨k,Yv ndP hp hu k⟩
  .obtain⟨c,e⟩:=U1 (n:=s.heap.objs.size+1) k
   refine .inr ⟨.inl k,c,e,?_⟩;have q:=x.cell y c e;rw[Zy ndP hp hu (by show scope.names.lookup y≠_;rw[k];decide)] at q;exact q
 .exact e0.hok.fresh (Nat.le_of_lt (x.above y c (PySem.mem_of_lookup h)))
 .unfold Rf
  show _=N.length;rw[zAc,zAa,zAS];omega
def MX {CX:ES} {P:Program} {w:World} {K:zAb} {mg:Str->Option Value} {base:Heap} {k:Nat} {f:Addr} {name qual:Str} {params:Arguments} {body:List Stmt} {scope:Scope} {dV kV doc pm cdv ct oc:Value} {an od:Option Addr}
  {osl:Array (Option Value)} {N ps:List Str} {sp:Sp} (lk:K.lookup f=some ⟨oc,od,.func (zAK name qual params body scope dV kV doc pm an cdv ct),osl⟩) (hcd:zAP K cdv qual=true) (S:Bc N ps scope)
  (len:∀ vs H Q E,sp vs H Q E->vs.length=ps.length)
  (hbody:∀ (A:Around) (outer:List Env) (s:Shared) (H:Hp) (vs:List V) (Q:VK) (E:XK),XA k (A.deeper (envOfC qual scope s.heap.objs.size f cdv))->sp vs H Q E ->
   ∃ t,PSs (X6 CX P w K mg base N qual scope f cdv A outer s H E) body t/\t { nx:=λ_ H'=>Q .non H',rt:=Q } (Rf N vs) H) :
  WN P w K mg base CX (k+1) f (zAK name qual params body scope dV kV doc pm an cdv ct) ps sp:=by
 refine⟨len,λA outer s H args us vs Q E hr e0 hb r hsp=>?_⟩;have hl:=len _ _ _ _ hsp;have KX:K.In s.heap:=e0.mod.kin.keeps λb o e=>(e0.bs b o e).1;have lim:s.heap.NoLimit:=e0.mod.nolimit.keeps λb o e=>(e0.bs b o e).1;have hkind:∀ y∈ps.zip us,scope.names.lookup y.1=some .local\/(scope.names.lookup y.1=some .cell/\((cellsFrom (s.heap.objs.size+1) scope.names []).lookup y.1).isSome=true):=λ⟨n,v⟩ hy=>by
  rcases S.par n (List.of_mem_zip hy).1 with q|q
  .exact .inl q
  .exact .inr ⟨q,PySem.W.cellsFrom_some _ _ _ (.inl q)⟩
 refine codeAny_call_function hr.depth (KX _ _ lk) rfl S.co S.gen rfl (PySem.W.codeRec_of KX hcd) (hb _ _ _ _ ?_);refine wpAny_newFunctionEnv_cells S.kind hkind λenv he s1 x=>?_;subst he;refine⟨lim.keeps x.toInCall.keep,codeAny_func ?_⟩;obtain⟨t,ht,hq⟩:=hbody A outer s H vs Q E (hr.deeper _) hsp;have I:WM (X6 CX P w K mg base N qual scope f cdv A outer s H E) [] (Rf N vs) H s1:=DJ S hr.hd e0 hl r x;refine wpAny_mono (ht [] s1 (Rf N vs) H _ I hq) (λfl s' hs=>?_) λe s' hs=>hs;have fin:∀ {σ':St} {H':Hp} {v:V} {u:Value},WM (X6 CX P w K mg base N qual scope f cdv A outer s H E) [] σ' H' s'->WS v u->Q v H'->CE outer P w H s Q u s':=
  λ{σ' H' v u} J rv q=>⟨v,H',J.os,J.bare,J.base,J.hok,rv,q⟩
 cases fl with
 |ret u=>
  obtain⟨v,σ',H',J,rv,q⟩:=hs;exact fin J rv q
 |next=>
  obtain⟨σ',H',J,q⟩:=hs;exact fin (v:=V.non) (u:=Value.none) J rfl q
 |brk=>
  obtain⟨_,_,_,q⟩:=hs;exact False.elim q
 |cont=>
  obtain⟨_,_,_,q⟩:=hs;exact False.elim q
section
variable {X:Cx} {x:Str} {p pos:Pos} {e:Expr} {es:List Expr} {t:TA} {id T:String} {r:List V->Hp->VK->Prop}
def VQ (r:List V->Hp->VK->Prop) (t:TA):TE:=λσ H Q=>t σ H λvs H1=>r vs H1 Q
def Bq (hc:Oz X (.builtin id) r) (hg:Gl X x) (hm:X.mg x=none) (hv:zCg x=some (.builtin id)) (ha:PA X (e::es) t) (hn:x ≠ "__name__":=by decide) (hdb:(x==("__debug__" : Str))=false:=by decide)
  (he:starEach (e::es) X.env=(false,eval e X.env)::starEach es X.env:=by rfl) (hpl:(backTo pos (starEach es X.env)).any (·.1)=false:=by rfl):PE X (.Call (.Name x p) (e::es) [] pos) (VQ r t):=by
 intro pins s σ H Q I h;refine wpAny_Call_Name_kw (My I hg hm hv ?_ hn hdb);exact PyProof.Rows.callWith_builtin1 (Dx (ha pos pins s σ H _ I h) λus s1 ⟨vs,H1,I1,r1,q1⟩=>hc pins s1 σ H1 vs us Q I1 r1 q1) he hpl
def Ck (hc:Oz X (.type T) r) (hg:Gl X x) (hm:X.mg x=none) (hv:zCg x=some (.type T)) (ha:PA X (e::es) t) (hn:x ≠ "__name__":=by decide) (hdb:(x==("__debug__" : Str))=false:=by decide)
  (he:starEach (e::es) X.env=(false,eval e X.env)::starEach es X.env:=by rfl) (hpl:(backTo pos (starEach es X.env)).any (·.1)=false:=by rfl):PE X (.Call (.Name x p) (e::es) [] pos) (VQ r t):=by
 intro pins s σ H Q I h;refine wpAny_Call_Name_kw (My I hg hm hv ?_ hn hdb);exact PyProof.Rows.callWith_type1 (Dx (ha pos pins s σ H _ I h) λus s1 ⟨vs,H1,I1,r1,q1⟩=>hc pins s1 σ H1 vs us Q I1 r1 q1) he hpl
end
end L2
namespace HT
open PySem PyProof.Rows
section
def sIx (n d:Nat):Option Int->Nat
 |none=>d
 |some v=>if v<0 then (v+(n:Int)).toNat else min v.toNat n
def sIx_none (n d:Nat):sIx n d none=d:=rfl
def sIx_nat (n d k:Nat):sIx n d (some (k:Int))=min k n:=by
 show (if (k:Int)<0 then ((k:Int)+(n:Int)).toNat else min (k:Int).toNat n)=min k n;rw[if_neg (by omega),Int.toNat_natCast]
end
end HT
namespace L2
open PySem PySem.Spec PyProof.Rows
abbrev TO:=St->Hp->(Option Int->Hp->Prop)->Prop
def PO (X:Cx) (e:Option Expr) (t:TO):Prop:=
 ∀ (pins:List (Addr×Obj)) (s:Shared) (σ:St) (H:Hp) (Q:Option Int->Hp->Prop),WM X pins σ H s->t σ H Q ->
  wpAny (model X.prog X.w) X.A (evalPart e X.env) (λu s'=>∃ o H',WM X pins σ H' s'/\IsPart u o/\Q o H') X.xe s
def KH:TO:=λ_ H Q=>Q none H
def RF (t:TE):TO:=λσ H Q=>t σ H λx H1=>∃ i,x=.int i/\Q (some i) H1
def Y1 {ns:List Int}:∀ {us:List Value},WR (ns.map V.int) us->IntsAre us ns:=by
 induction ns with
 |nil=>intro us r;rw[zBy] at r;cases r;exact .nil
 |cons n ns ih=>
  intro us r;rw[zAv] at r;cases r with
  |cons r1 r2=>
   obtain⟨t,e⟩:=r1;subst e;exact .cons n t (ih r2)
section
variable {X:Cx} {e:Expr} {te:TE} {lo hi:Option Expr} {tl th:TO} {pos p2:Pos}
def Qw:PO X none KH:=by
 intro pins s σ H Q I h;rw[evalPart_none];exact zCe ⟨none,H,I,.none,h⟩
def Rw (h:PE X e te):PO X (some e) (RF te):=by
 intro pins s σ H Q I hw;rw[evalPart_some];refine Dx (h pins s σ H _ I hw) λu s1 ⟨x,H1,I1,r1,q1⟩=>?_;obtain⟨i,rfl,q⟩:=q1;obtain⟨t,rfl⟩:=r1;exact⟨some i,H1,I1,.int i t,q⟩
def VO (X:Cx) (r:V->Option Int->Option Int->Hp->VK->Prop):Prop:=
 ∀ (pins:List (Addr×Obj)) (s:Shared) (σ:St) (H:Hp) (x:V) (v vl vu:Value) (lo hi:Option Int) (sl:Addr) (Q:VK),WM X pins σ H s->WS x v->s.heap.IsSliceOf sl vl vu .none->IsPart vl lo->IsPart vu hi->r x lo hi H Q ->
  ∃ T id,typeLookup (.type T) "__getitem__"=pure (some (.builtin id))/\s.TypeIs v T/\wpAny (model X.prog X.w) X.A (getItem v (.ref sl)) (EP X pins σ Q) X.xe s
def VX (r:V->Option Int->Option Int->Hp->VK->Prop) (te:TE) (tl th:TO):TE:=λσ H Q=>te σ H λx H1=>tl σ H1 λl H2=>th σ H2 λu H3=>r x l u H3 Q
def Mx {r:V->Option Int->Option Int->Hp->VK->Prop} (hr:VO X r) (he:PE X e te) (hl:PO X lo tl) (hu:PO X hi th):PE X (.Subscript e (.Slice lo hi none p2) pos) (VX r te tl th):=by
 intro pins s σ H Q I h;refine Subscript_ (Dx (he pins s σ H _ I h) λv s1 ⟨x,H1,I1,r1,q1⟩=>?_);refine wpAny_Slice (Dx (hl pins s1 σ H1 _ I1 q1) λvl s2 ⟨l,H2,I2,pl,q2⟩=>Dx (hu pins s2 σ H2 _ I2 q2) λvu s3 ⟨u,H3,I3,pu,q3⟩=>?_);rw[evalPart_none];refine zCe ?_;have I4:WM X pins σ H3 { s3 with heap:=s3.heap.push { cls:=.type "slice",data:=.fields #[vl,vu,.none] } }:=I3.kept (t':=s3.toks) λb ob q=>zAm _ q;obtain⟨T,id,hT,ht,hg⟩:=hr pins { s3 with heap:=s3.heap.push { cls:=.type "slice",data:=.fields #[vl,vu,.none] } } σ H3 x v vl vu l u s3.heap.objs.size Q I4 r1 (Heap.IsSliceOf.new ..) pl pu q3;show wpAny (model X.prog X.w) X.A (subscriptTail e (.Slice lo hi none p2) v (.ref s3.heap.objs.size)) (EP X pins σ Q) X.xe { s3 with heap:=s3.heap.push { cls:=.type "slice",data:=.fields #[vl,vu,.none] } };exact tail_any (ops:=[.ref s3.heap.objs.size,v]) ht hT hg (by with_unfolding_all rfl)
def Mq (xs:List V) (lo hi:Option Int):List V:=(xs.drop (HT.sIx xs.length 0 lo)).take (HT.sIx xs.length xs.length hi-HT.sIx xs.length 0 lo)
def U9 (xs:List V) (lo hi:Option Int):(Mq xs lo hi).length<=xs.length:=by
 unfold Mq;rw[zAw,zBE];omega
end
def HM (n:Nat) (i:Int):Option Nat:=if 0<=i then (if i<n then some i.toNat else none) else if -(n:Int)<=i then some (i+n).toNat else none
def Nx {α:Type} (xs:List α) (i:Int):Option α:=(HM xs.length i).bind λj=>xs[j]?
def CF {n:Nat} {i:Int} {j:Nat} (h:HM n i=some j):seqIndex? i n=some j/\j<n/\-(n:Int)<=i/\i<n:=by
 unfold HM at h;by_cases h0:0<=i
 .rw[if_pos h0] at h
  by_cases h1:i<n
  .rw[if_pos h1] at h
   have e:i.toNat=j:=Option.some.inj h;exact⟨by rw[seqIndex_of h0 h1,e],by omega,by omega,h1⟩
  .rw[if_neg h1] at h;cases h
 .rw[if_neg h0] at h
  by_cases h1 : -(n:Int)<=i
  .rw[if_pos h1] at h
   have e:(i+n).toNat=j:=Option.some.inj h;exact⟨by rw[seqIndex_neg (by omega) h1,e],by omega,h1,by omega⟩
  .rw[if_neg h1] at h;cases h
def A6 {α:Type} {xs:List α} {i:Int} {v:α} (h:Nx xs i=some v):∃ j,seqIndex? i xs.length=some j/\xs[j]?=some v/\j<xs.length/\-(xs.length:Int)<=i/\i<xs.length:=by
 unfold Nx at h;cases e:HM xs.length i with
 |none=>rw[e] at h;cases h
 |some j=>
  rw[e] at h;obtain⟨h1,h2,h3,h4⟩:=CF e;exact⟨j,h1,h,h2,h3,h4⟩
def Fd {α:Type} {xs:List α} {j:Nat} {v:α} (h:xs[j]?=some v):Nx xs (j:Int)=some v:=by
 have hj:j<xs.length:=(zAu.mp h).1;have e:HM xs.length (j:Int)=some j:=by
  unfold HM;rw[if_pos (by omega),if_pos (by omega)];simp
 unfold Nx;rw[e];exact h
def KR (b:Expr):Prop:=∀ o i,subscripted b false o i=operate [o,i] (getItem o i)
def QI (X:Cx) (r:R2):Prop:=
 ∀ (value slice:Expr) (pins:List (Addr×Obj)) (s:Shared) (σ:St) (H:Hp) (x y:V) (v u:Value) (Q:VK),WM X pins σ H s->WS x v->WS y u->r x y H Q ->
  subscripted slice false v u=operate [v,u] (getItem v u)->wpAny (model X.prog X.w) X.A (subscriptTail value slice v u) (EP X pins σ Q) X.xe s
def UR (X:Cx) (id:String) (r:V->List V->Hp->VK->Prop):Prop:=
 ∀ (pins:List (Addr×Obj)) (s:Shared) (σ:St) (H:Hp) (x:V) (xs:List V) (v:Value) (us:List Value) (Q:VK),WM X pins σ H s->WS x v->WR xs us->r x xs H Q ->
  wpAny (model X.prog X.w) X.A (call (.builtin id) (v::us)) (EP X pins σ Q) X.xe s
section
variable {X:Cx} {a b:Expr} {ta tb:TE} {pos:Pos}
def Cc {r:R2} (hr:QI X r) (ha:PE X a ta) (hb:PE X b tb) (hs:KR b):PE X (.Subscript a b pos) (SY r ta tb):=by
 intro pins s σ H Q I h;exact Subscript_ (PQ ha hb I h λv u s2 x y H2 I2 rx ry q=>hr a b pins s2 σ H2 x y v u Q I2 rx ry q (hs _ _))
def SK (K:zAb):R2:=λx y H Q=>∃ p xs i v,x=.ref p/\y=.int i/\WL K H p xs/\Nx xs i=some v/\Q v H
def RK (K:zAb):R2:=λx y H Q=>∃ p xs i v,x=.ref p/\y=.int i/\WX K H p xs/\Nx xs i=some v/\Q v H
def TB:R2:=λx y H Q=>∃ z i c,x=.str z/\y=.int i/\z.length<=sizeLine/\Nx z.cps.toList i=some c/\Q (.str ⟨#[c]⟩) H
def Bt:QI X (SK X.K):=by
 intro value slice pins s σ H x y v u Q I rx ry h hs;obtain⟨p,xs,i,z,rfl,rfl,hq,he,q⟩:=h;cases rx;obtain⟨t,rfl⟩:=ry;obtain⟨its,r,pl,hz⟩:=I.list hq;obtain⟨j,h1,h2,h3,h4,h5⟩:=A6 he;obtain⟨w,ew,rw'⟩:=r.get h2;have hl:=r.length;have hn:=Pn;have fin:EP X pins σ Q w s:=⟨z,H,I,rw',q⟩;by_cases h0:0<=i
 .have hj:i.toNat=j:=by
   rw[seqIndex_of h0 h5] at h1;exact Option.some.inj h1
  exact item_listR pl.isList h0 (by omega) (by rw[hj];simpa using ew) fin hs
 .have hj:(i+(its.toArray.size:Int)).toNat=j:=by
   rw[seqIndex_neg (by omega) h4] at h1;rw[zAh,<- hl];exact Option.some.inj h1
  exact subscriptTail_builtinR (x:=w) pl.isList.typeIs slot_list_getitem.lookup
   (wpAny_getItem_list_neg (Q:=λr s'=>r=w/\EP X pins σ Q r s') pl.isList (by omega) (by rw[zAh] <;> omega) (by omega) (by rw[hj];simpa using ew) ⟨rfl,fin⟩) hs
def Gz:QI X (RK X.K):=by
 intro value slice pins s σ H x y v u Q I rx ry h hs;obtain⟨p,xs,i,z,rfl,rfl,hq,he,q⟩:=h;cases rx;obtain⟨t,rfl⟩:=ry;obtain⟨its,r,pl,hz⟩:=I.tuple hq;obtain⟨j,h1,h2,h3,h4,h5⟩:=A6 he;obtain⟨w,ew,rw'⟩:=r.get h2;have hl:=r.length;have hn:=Pn;have fin:EP X pins σ Q w s:=⟨z,H,I,rw',q⟩;exact subscriptTail_builtinR (x:=w) pl.typeIs slot_tuple_getitem.lookup
  (getItem_tuple (j:=j) (Q:=λr s'=>r=w/\EP X pins σ Q r s') pl (by omega) (by omega) (by rw[zAh,<- hl];exact h1) (by simpa using ew) ⟨rfl,fin⟩) hs
def W6:QI X TB:=by
 intro value slice pins s σ H x y v u Q I rx ry h hs;obtain⟨z,i,c,rfl,rfl,hz,he,q⟩:=h;obtain⟨t,rfl⟩:=rx;obtain⟨t',rfl⟩:=ry;obtain⟨j,h1,h2,h3,h4,h5⟩:=A6 he;have hl:z.cps.toList.length=z.length:=by simp [Str.length]
 rw[hl] at h1 h4 h5;have hn:=Pn;exact tail_any (typeIs_str s z t) slot_str_getitem.lookup (getItem_str (c:=c) (by
  have e1:decide (i < -(2^63:Int))=false:=decide_eq_false (by omega);have e2:decide (i≥2^63)=false:=decide_eq_false (by omega);rw[e1,e2,Bool.or_false]) (by rw[h1];simpa using h2) ⟨.str ⟨#[c]⟩,H,I.tok _,⟨_,rfl⟩,q⟩) hs
def X7 (its:List Value) (n j:Nat) (u:Value):Obj.mapSeq (·.setIfInBounds j u) { cls:=.type "list",data:=.seq its.toArray n }={ cls:=.type "list",data:=.seq (its.set j u).toArray n }:=by
 simp [Obj.mapSeq]
def WM.lst {pins:List (Addr×Obj)} {σ:St} {H:Hp} {s:Shared} {p:Addr} {xs:List V} (I:WM X pins σ H s) (h:H p=some (.lst xs)) :
  ∃ (its:List Value) (n:Nat),WR xs its/\s.heap.get? p=some { cls:=.type "list",data:=.seq its.toArray n }/\xs.length<=sizeLine:=by
 obtain⟨z,its,n,r,e⟩:=I.hok p _ h;exact⟨its,n,r,e,z⟩
def WM.lstUpd {pins:List (Addr×Obj)} {σ:St} {H:Hp} {s:Shared} {p:Addr} {xs ys:List V} {its its':List Value} {n n':Nat} {f:Obj->Obj} (I:WM X pins σ H s) (h:H p=some (.lst xs))
  (ho:s.heap.get? p=some { cls:=.type "list",data:=.seq its.toArray n }) (hf:f { cls:=.type "list",data:=.seq its.toArray n }={ cls:=.type "list",data:=.seq its'.toArray n' }) (r:WR ys its') (hz:ys.length<=sizeLine) (t:Nat) :
  WM X pins σ (upd H p (.lst ys)) { s with heap:=s.heap.update p f,toks:=t }:=by
 have e:(s.heap.update p f).get? p=some { cls:=.type "list",data:=.seq its'.toArray n' }:=by
  rw[zBK f ho (by rw[hf] <;> rfl),hf]
 refine I.write (x:=p) (e:=p) (by rw[h];trivial) (.inl rfl) (λb u hb q=>(zBj _ _ (Ne.symm hb)).trans q) ⟨_,e⟩ ?_;exact⟨hz,its',n',r,e⟩
def SF:V->V->V->Hp->(Hp->Prop)->Prop:=λo i v H Q=>∃ p xs k j,o=.ref p/\i=.int k/\H p=some (.lst xs)/\HM xs.length k=some j/\Q (upd H p (.lst (xs.set j v)))
def HS:SJ X SF:=by
 intro pins s σ H o i v ov iv u Q I ro ri rv h;obtain⟨p,xs,k,j,rfl,rfl,hp,hj,q⟩:=h;cases ro;obtain⟨t,rfl⟩:=ri;obtain⟨its,n,r,ho,hz⟩:=I.lst hp;obtain⟨h1,h2,h3,h4⟩:=CF hj;have hl:=r.length;have hn:=Pn;have I':WM X pins σ (upd H p (.lst (xs.set j v))) { s with heap:=s.heap.update p (Obj.mapSeq (·.setIfInBounds j u)) }:=
  I.lstUpd hp ho (X7 its n j u) (r.set rv j) (by rw[List.length_set];exact hz) s.toks
 by_cases h0:0<=k
 .have hk:k.toNat=j:=by
   rw[seqIndex_of h0 h4] at h1;exact Option.some.inj h1
  exact PySem.W.ki_setAt ho h0 (by omega) (by rw[zAh,<- hl];exact h4) (by rw[hk];exact⟨_,I',q⟩)
 .have hk:(k+(its.toArray.size:Int)).toNat=j:=by
   rw[seqIndex_neg (by omega) h3] at h1;rw[zAh,<- hl];exact Option.some.inj h1
  exact PySem.W.ki_setBack ho (by omega) (by rw[zAh,<- hl];exact h3) (by omega) (by rw[hk];exact⟨_,I',q⟩)
def F1 (lo hi:Option Int) (n:Nat):(sliceBounds lo hi none n).1=((HT.sIx n 0 lo:Nat):Int)/\(sliceBounds lo hi none n).2.1=((HT.sIx n n hi:Nat):Int)/\(sliceBounds lo hi none n).2.2=1:=by
 refine⟨?_,?_,rfl⟩
 .cases lo with
  |none=>simp [sliceBounds,HT.sIx]
  |some i=>
   simp only [sliceBounds,HT.sIx,Option.getD_none,show (1:Int)>0 by decide,if_true];by_cases h:i<0
   .simp only [h,if_true] <;> omega
   .simp only [h,if_false] <;> omega
 .cases hi with
  |none=>simp [sliceBounds,HT.sIx]
  |some i=>
   simp only [sliceBounds,HT.sIx,Option.getD_none,show (1:Int)>0 by decide,if_true];by_cases h:i<0
   .simp only [h,if_true] <;> omega
   .simp only [h,if_false] <;> omega
def Xw (its:List Value) (lo hi:Option Int):slicePick its.toArray lo hi none=((its.drop (HT.sIx its.length 0 lo)).take (HT.sIx its.length its.length hi-HT.sIx its.length 0 lo)).toArray:=by
 obtain⟨h1,h2,h3⟩:=F1 lo hi its.toArray.size;unfold slicePick;rw[h1,h2,h3];simp only [sliceRange_one,pick_run,zAh] <;> rfl
def TN (K:zAb):V->Option Int->Option Int->Hp->VK->Prop:=λx lo hi H Q=>∃ a xs,x=.ref a/\WL K H a xs/\∀ p,H p=none->Q (.ref p) (upd H p (.lst (Mq xs lo hi)))
def Rx:VO X (TN X.K):=by
 intro pins s σ H x v vl vu lo hi sl Q I rx hs pl pu h;obtain⟨a,xs,rfl,hx,q⟩:=h;cases rx;obtain⟨its,r,ht,hz⟩:=I.list hx;have hlen:=r.length;refine⟨"list",_,slot_list_getitem.lookup,ht.isList.typeIs,?_⟩;refine wpAny_getItem_list_slice ht.isList hs pl pu .none (by simp) ?_ (by rw[zAh] <;> omega);rw[Xw,<- hlen];refine⟨.ref s.heap.objs.size,_,I.laid (t':=s.toks) (o:=.lst (Mq xs lo hi)) (λb ob q=>zAm _ q) (zAn _) ?_,rfl,q _ (I.hok.fresh (zAn _))⟩;exact⟨zAD (U9 xs lo hi) hz,_,0,(r.drop (HT.sIx xs.length 0 lo)).take (HT.sIx xs.length xs.length hi-HT.sIx xs.length 0 lo),zAG _ rfl⟩
def Ff:V->Bool
 |.non=>true
 |.bl _=>true
 |.int _=>true
 |.str _=>true
 |_=>false
def Sq:V->V->Bool
 |.non,.non=>true
 |.bl a,.bl b=>a==b
 |.bl a,.int b=>(if a then 1 else 0)==b
 |.int a,.bl b=>a==(if b then 1 else 0)
 |.int a,.int b=>a==b
 |.str a,.str b=>a==b
 |_,_=>false
def W2 {A:Around} {s:Shared} {y x:V} {u v:Value} (ry:WS y u) (rx:WS x v) (fy:Ff y=true) (fx:Ff x=true):SeqAt.EqAt A s u v (Sq y x):=by
 cases y with
 |non=>
  cases ry
  cases x with
  |non=>cases rx;exact SeqAt.EqAt.same _
  |bl b=>cases rx;exact SeqAt.EqAt.none_bool b
  |int b=>obtain⟨t,rfl⟩:=rx;exact SeqAt.EqAt.none_int b t
  |str b=>obtain⟨t,rfl⟩:=rx;exact SeqAt.EqAt.none_str b t
  |_=>exact absurd (show false=true from fx) zAo
 |bl a=>
  cases ry
  cases x with
  |non=>cases rx;exact SeqAt.EqAt.bool_none a
  |bl b=>cases rx;exact SeqAt.EqAt.bool_bool a b
  |int b=>obtain⟨t,rfl⟩:=rx;exact SeqAt.EqAt.bool_int a b t
  |str b=>obtain⟨t,rfl⟩:=rx;exact SeqAt.EqAt.bool_str a b t
  |_=>exact absurd (show false=true from fx) zAo
 |int a=>
  obtain⟨t',rfl⟩:=ry;cases x with
  |non=>cases rx;exact SeqAt.EqAt.int_none a t'
  |bl b=>cases rx;exact SeqAt.EqAt.int_bool a t' b
  |int b=>obtain⟨t,rfl⟩:=rx;exact SeqAt.EqAt.int_int a t' b t
  |str b=>obtain⟨t,rfl⟩:=rx;exact SeqAt.EqAt.int_str a t' b t
  |_=>exact absurd (show false=true from fx) zAo
 |str a=>
  obtain⟨t',rfl⟩:=ry;cases x with
  |non=>cases rx;exact SeqAt.EqAt.str_none a t'
  |bl b=>cases rx;exact SeqAt.EqAt.str_bool a t' b
  |int b=>obtain⟨t,rfl⟩:=rx;exact SeqAt.EqAt.str_int a t' b t
  |str b=>obtain⟨t,rfl⟩:=rx;exact SeqAt.EqAt.str_str a t' b t
  |_=>exact absurd (show false=true from fx) zAo
 |_=>exact absurd (show false=true from fy) zAo
def Y4 (x:V) (u:Value):Bool:=match u with
 |.none=>Sq .non x
 |.bool b=>Sq (.bl b) x
 |.int i _=>Sq (.int i) x
 |.str z _=>Sq (.str z) x
 |_=>false
def IU {x y:V} {u:Value} (r:WS y u) (f:Ff y=true):Y4 x u=Sq y x:=by
 cases y with
 |non=>cases r;rfl
 |bl b=>cases r;rfl
 |int i=>obtain⟨t,rfl⟩:=r;rfl
 |str z=>obtain⟨t,rfl⟩:=r;rfl
 |_=>exact absurd (show false=true from f) zAo
theorem Rh {x:V}:∀ {xs:List V} {us:List Value},WR xs us->xs.all Ff=true->us.any (Y4 x)=xs.any λy=>Sq y x
 |_,_,.nil,_=>rfl
 |y::xs,u::us,.cons r t,f=>by
  rw[zBZ,zBF] at f;rw[List.any_cons,List.any_cons,IU r f.1,Rh t f.2]
theorem Mj {A:Around} {s:Shared} {x:V} {v:Value} (rx:WS x v) (fx:Ff x=true):∀ {xs:List V} {us:List Value},WR xs us->xs.all Ff=true->∀ u∈us,SeqAt.EqAt A s u v (Y4 x u)
 |_,_,.nil,_=>λu hu=>by cases hu
 |y::xs,u::us,.cons r t,f=>λu' hu=>by
  rw[zBZ,zBF] at f;rcases zAj.mp hu with rfl|hu
  .rw[IU r f.1];exact W2 r rx f.1 fx
  .exact Mj rx fx t f.2 u' hu
def JX (x:V) (xs:List V):Bool:=xs.any λy=>Sq y x
def VL (K:zAb) (neg:Bool):R2:=λx y H Q=>∃ p xs,y=.ref p/\(WL K H p xs\/WX K H p xs)/\Ff x=true/\xs.all Ff=true/\Q (.bl (if neg then !JX x xs else JX x xs)) H
def Tk:Pa X (compareOp .In) (VL X.K false):=by
 intro pins s σ H x y v u Q I rx ry h;obtain⟨p,xs,rfl,hq,fx,fs,q⟩:=h;cases ry;rcases hq with hq|hq
 .obtain⟨its,r,pl,hz⟩:=I.list hq
  refine SeqAt.in_listAt (Y4 x) pl.isList (λw hw=>Mj rx fx r fs w (by simpa using hw)) ⟨.bl _,H,I,rfl,?_⟩;rw[show its.toArray.any (Y4 x)=its.any (Y4 x) by simp,Rh r fs];exact q
 .obtain⟨its,r,pl,hz⟩:=I.tuple hq
  refine SeqAt.in_tupleAt (Y4 x) pl (λw hw=>Mj rx fx r fs w (by simpa using hw)) ⟨.bl _,H,I,rfl,?_⟩;rw[show its.toArray.any (Y4 x)=its.any (Y4 x) by simp,Rh r fs];exact q
def Rn:Pa X (compareOp .NotIn) (VL X.K true):=by
 intro pins s σ H x y v u Q I rx ry h;obtain⟨p,xs,rfl,hq,fx,fs,q⟩:=h;cases ry;rcases hq with hq|hq
 .obtain⟨its,r,pl,hz⟩:=I.list hq
  refine SeqAt.notIn_listAt (Y4 x) pl.isList (λw hw=>Mj rx fx r fs w (by simpa using hw)) ⟨.bl _,H,I,rfl,?_⟩;rw[show its.toArray.any (Y4 x)=its.any (Y4 x) by simp,Rh r fs];exact q
 .obtain⟨its,r,pl,hz⟩:=I.tuple hq
  refine SeqAt.notIn_tupleAt (Y4 x) pl (λw hw=>Mj rx fx r fs w (by simpa using hw)) ⟨.bl _,H,I,rfl,?_⟩;rw[show its.toArray.any (Y4 x)=its.any (Y4 x) by simp,Rh r fs];exact q
def H0:Pa X (compareOp .NotIn) (λx y H Q=>∃ i j,x=.str i/\y=.str j/\Q (.bl (!(!(Builtin.Str.occurrences j i 0 j.length 1).isEmpty))) H):=by
 intro pins s σ H x y v u Q I rx ry h;obtain⟨i,j,rfl,rfl,q⟩:=h;obtain⟨t,rfl⟩:=rx;obtain⟨t',rfl⟩:=ry;exact notIn_str ⟨.bl _,H,I,rfl,q⟩
def Bp:Oz X (.builtin "len") (λxs H Q=>∃ p ys,xs=[.ref p]/\(WL X.K H p ys\/WX X.K H p ys)/\Q (.int ys.length) H):=by
 intro pins s σ H xs us Q I r h;obtain⟨p,ys,rfl,hq,q⟩:=h;obtain⟨u,rfl,rx⟩:=Sg r;cases rx;have hn:=Pn;rcases hq with hq|hq
 .obtain⟨its,r',pl,hz⟩:=I.list hq
  have hlen:=r'.length;exact Calls.call_len_list pl.isList (by simp only [zAh] <;> omega) ⟨.int ys.length,H,I.tok _,⟨s.toks+1,by rw[zAh,hlen]⟩,q⟩
 .obtain⟨its,r',pl,hz⟩:=I.tuple hq
  have hlen:=r'.length;exact len_tuple pl (by simp only [zAh] <;> omega) ⟨.int ys.length,H,I.tok _,⟨s.toks+1,by rw[zAh,hlen]⟩,q⟩
def Gs:Oz X (.builtin "len") (λxs H Q=>∃ z,xs=[.str z]/\z.length<=sizeLine/\Q (.int z.length) H):=by
 intro pins s σ H xs us Q I r h;obtain⟨z,rfl,hz,q⟩:=h;obtain⟨u,rfl,t,rfl⟩:=Sg r;have hn:=Pn;exact len_str (by omega) ⟨.int z.length,H,I.tok _,⟨_,rfl⟩,q⟩
def Er:Oz X (.type "list") (λxs H Q=>∃ p ys,xs=[.ref p]/\(WL X.K H p ys\/WX X.K H p ys)/\∀ l,H l=none->Q (.ref l) (upd H l (.lst ys))):=by
 intro pins s σ H xs us Q I r h;obtain⟨p,ys,rfl,hq,q⟩:=h;obtain⟨u,rfl,rx⟩:=Sg r;cases rx;have fin:∀ (its:List Value),WR ys its->ys.length<=sizeLine->∀ (h':Heap) (c':Nat),(∀ b o',s.heap.get? b=some o'->h'.get? b=some o') ->
   h'.get? s.heap.objs.size=some { cls:=.type "list",dict:=none,data:=.seq its.toArray c',slots := #[] }->EP X pins σ Q (.ref s.heap.objs.size) { s with heap:=h' }:=λits r' hz h' c' kp e=>
  ⟨.ref s.heap.objs.size,_,I.laid (t':=s.toks) kp (zAn _) (show WY X.prog X.w _ h' _ (.lst ys) from ⟨hz,its,c',r',e⟩),rfl,q _ (I.hok.fresh (zAn _))⟩
 rcases hq with hq|hq
 .obtain⟨its,r',pl,hz⟩:=I.list hq
  have hlen:=r'.length;obtain⟨o,ho,hc,n,hd⟩:=pl.isList;exact call_list_seq p (.inl rfl) ho hc hd (λh' c' kp e=>fin its r' hz h' c' kp e) (by simp only [zAh] <;> omega)
 .obtain⟨its,r',pl,hz⟩:=I.tuple hq
  have hlen:=r'.length;obtain⟨o,ho,hc,n,hd⟩:=pl;exact call_list_seq p (.inr rfl) ho hc hd (λh' c' kp e=>fin its r' hz h' c' kp e) (by simp only [zAh] <;> omega)
def TZ (K:zAb) (T:String) (x:V) (H:Hp):Prop:=match x with
 |.str _=>T="str"
 |.int _=>T="int"
 |.ref p=>(T="list"/\∃ xs,WL K H p xs)\/(T="tuple"/\∃ o,K.lookup p=some o/\o.cls=.type "tuple"/\o.dict=none) \/
   (T="dict"/\((∃ kvs,H p=some (.dK kvs))\/∃ kvs,H p=some (.dT kvs)))\/(T="set"/\∃ S n,H p=some (.set S n))
 |_=>False
def HD {pins:List (Addr×Obj)} {σ:St} {H:Hp} {s:Shared} {T:String} {x:V} {v:Value} (I:WM X pins σ H s) (r:WS x v) (ty:TZ X.K T x H) :
  s.TypeIs v T/\∀ a,v=.ref a->∃ ob,s.heap.get? a=some ob/\ob.dict=none:=by
 cases x with
 |str z=>
  obtain⟨t,rfl⟩:=r;cases (show T="str" from ty);exact⟨typeIs_str s z t,λ_ e=>nomatch e⟩
 |int i=>
  obtain⟨t,rfl⟩:=r;cases (show T="int" from ty);exact⟨typeIs_int s i t,λ_ e=>nomatch e⟩
 |ref p=>
  cases r
  rcases ty with ⟨rfl,xs,hq⟩|⟨rfl,o,hk,hc,hd⟩|⟨rfl,hk⟩|⟨rfl,S,n,hk⟩
  .obtain⟨its,_,pl,_⟩:=I.list hq
   refine⟨pl.isList.typeIs,λa e=>?_⟩;cases e;obtain⟨o,n,e,c,hd,_⟩:=pl;exact⟨o,e,hd⟩
  .refine⟨⟨o,I.kIn p o hk,hc⟩,λa e=>?_⟩
   cases e
   exact⟨o,I.kIn _ o hk,hd⟩
  .have z:∃ o,s.heap.get? p=some o/\o.ExactDict:=by
    rcases hk with ⟨kvs,hk⟩|⟨kvs,hk⟩
    .obtain⟨_,_,_,_,o,_,_,e,ex,_⟩:=I.hok p _ hk
     exact⟨o,e,ex⟩
    .obtain⟨_,_,_,_,o,_,_,e,ex,_⟩:=I.hok p _ hk
     exact⟨o,e,ex⟩
   obtain⟨o,e,ex⟩:=z;refine⟨⟨o,e,ex.1⟩,λa e2=>?_⟩;cases e2;exact⟨o,e,ex.2.1⟩
  .obtain⟨o,_,_,_,e,ex,_⟩:=I.hok p _ hk
   refine⟨⟨o,e,ex.1⟩,λa e2=>?_⟩;cases e2;exact⟨o,e,ex.2.1⟩
 |_=>exact False.elim ty
def UI (K:zAb) (T:String) (r:V->List V->Hp->VK->Prop) (to:TE):TE:=λσ H Q=>to σ H λx H1=>TZ K T x H1/\r x [] H1 Q
def VP (K:zAb) (T:String) (r:V->List V->Hp->VK->Prop) (to:TE) (t:TA):TE:=λσ H Q=>to σ H λx H1=>TZ K T x H1/\t σ H1 λxs H2=>r x xs H2 Q
variable {o e:Expr} {es:List Expr} {to:TE} {t:TA} {name:Str} {apos cpos:Pos} {T id:String} {r:V->List V->Hp->VK->Prop}
def OC (pa:PlainAttrs T) (slot:Slot T name id) (hty:typeOf (.builtin id)=pure (.type "method_descriptor")) (hm:UR X id r) (ho:PE X o to)
  (hbase:attributeBase o name X.env (eval o X.env)=eval o X.env:=by rfl) (hline:(apos.endLine==cpos.line)=true:=by rfl):PE X (.Call (.Attribute o name apos) [] [] cpos) (UI X.K T r to):=by
 intro pins s σ H Q I h;refine wpAny_Call_method0_late hbase hline (Dx (ho pins s σ H _ I h) λv s1 ⟨x,H1,I1,r1,ty,q1⟩=>?_);obtain⟨h1,h2⟩:=HD I1 r1 ty;exact⟨T,id,pa,slot,hty,h1,h2,Calls.callWith_builtin rfl (PySem.evalArgs_none (hm pins s1 σ H1 x [] v [] Q I1 r1 .nil q1))⟩
def Dy (pa:PlainAttrs T) (slot:Slot T name id) (hty:typeOf (.builtin id)=pure (.type "method_descriptor")) (hm:UR X id r) (ho:PE X o to) (ha:PA X (e::es) t)
  (hbase:attributeBase o name X.env (eval o X.env)=eval o X.env:=by rfl)
  (hfew:((backTo cpos (starEach (e::es) X.env)).all (λx => !x.1)&&(backToKw cpos (keywordEach [] X.env)).all (λx=>x.1.isSome)
   && decide ((e::es).length+([]:List Keyword).length+(if ([]:List Keyword).isEmpty then 0 else 1)<30))=true:=by rfl)
  (hline:(apos.endLine==cpos.line)=true:=by rfl) (hs:starEach (e::es) X.env=(false,eval e X.env)::starEach es X.env:=by rfl) (hplain:(backTo cpos (starEach es X.env)).any (·.1)=false:=by rfl) :
  PE X (.Call (.Attribute o name apos) (e::es) [] cpos) (VP X.K T r to t):=by
 intro pins s σ H Q I h;refine wpAny_Call_method_late hbase hfew hline rfl (Dx (ho pins s σ H _ I h) λv s1 ⟨x,H1,I1,r1,ty,q1⟩=>?_);obtain⟨h1,h2⟩:=HD I1 r1 ty;refine⟨T,id,pa,slot,hty,h1,h2,?_⟩;have hA:=ha cpos pins s1 σ H1 _ I1 q1;rw[hs] at hA ⊢;refine Calls.callWith_builtin (by show (false||(backTo cpos (starEach es X.env)).any (·.1))=false;rw[hplain] <;> rfl) (Calls.evalArgs_plain ?_);exact Dx hA λus s2 ⟨vs,H2,I2,r2,q2⟩=>hm pins s2 σ H2 x vs v us Q I2 r1 r2 q2
end
def MI (X:Cx) (id:String) (r:V->List V->Hp->VK->Prop):Prop:=
 ∀ (pins:List (Addr×Obj)) (s:Shared) (σ:St) (H:Hp) (x:V) (xs:List V) (v:Value) (us:List Value) (Q:VK),WM X pins σ H s->WS x v->WR xs us->r x xs H Q ->
  wpAny (model X.prog X.w) X.A (call (.builtin id) (v::us)) (EP X pins σ Q) X.xe s
theorem WR.one:∀ {x:V} {us:List Value},WR [x] us->∃ u,us=[u]/\WS x u
 |_,_,.cons r .nil=>⟨_,rfl,r⟩
theorem WR.zero:∀ {us:List Value},WR [] us->us=[]
 |_,.nil=>rfl
def WR.dropLast {xs:List V} {us:List Value} (h:WR xs us):WR xs.dropLast us.dropLast:=by
 induction h with
 |nil=>exact .nil
 |cons r t ih=>
  cases t with
  |nil=>exact .nil
  |cons q t'=>exact .cons r ih
def Z4 {α:Type} (l:List α):l.eraseIdx (l.length-1)=l.dropLast:=by
 induction l with
 |nil=>rfl
 |cons a r ih=>
  cases r with
  |nil=>rfl
  |cons b r=>
   have e:(a::b::r).length-1=((b::r).length-1)+1:=by
    have h1:(a::b::r).length=r.length+2:=rfl;have h2:(b::r).length=r.length+1:=rfl;omega
   rw[e,List.eraseIdx_cons_succ,ih]
   all_goals rfl
section
variable {X:Cx} {pins:List (Addr×Obj)} {σ:St} {H:Hp} {s:Shared} {l:Addr} {xs ys:List V}
def WM.lset {its its':List Value} {n:Nat} {f:Array Value->Array Value} {t':Nat} (I:WM X pins σ H s) (hH:H l=some (.lst xs))
  (e:s.heap.get? l=some { cls:=.type "list",data:=.seq its.toArray n }) (hf:f its.toArray=its'.toArray) (hv:WR ys its') (hz:ys.length<=sizeLine) :
  WM X pins σ (upd H l (.lst ys)) { s with heap:=s.heap.update l (Obj.mapSeq f),toks:=t' }:=by
 have q:=PySem.IsL.update e f;rw[hf] at q;refine I.write (x:=l) (e:=l) (by rw[hH];exact trivial) (.inl rfl) (λb' u hb hu=>(zBj s.heap (Obj.mapSeq f) (Ne.symm hb)).trans hu) ⟨_,q⟩ ?_;exact⟨hz,its',_,hv,q⟩
def WM.lnew {its:List Value} {t':Nat} (I:WM X pins σ H s) (hv:WR ys its) (hz:ys.length<=sizeLine) :
  WM X pins σ (upd H s.heap.objs.size (.lst ys)) { s with heap:=s.heap.push { cls:=.type "list",data:=.seq its.toArray },toks:=t' }:=
 I.laid (λ_ _ q=>zAm _ q) (zAn _) ⟨hz,its,0,hv,zAG _ rfl⟩
def WM.fresh (I:WM X pins σ H s):H s.heap.objs.size=none:=I.hok.fresh (zAn _)
def WM.lstM (I:WM X pins σ H s) (hH:H l=some (.lst xs)):xs.length<=sizeLine/\∃ (its:List Value) (n:Nat),WR xs its/\xs.length=its.length/\s.heap.get? l=some { cls:=.type "list",data:=.seq its.toArray n }:=by
 obtain⟨z,its,n,r,e⟩:=I.hok l _ hH;exact⟨z,its,n,r,r.length,e⟩
def GH {n:Nat} (h:n<=sizeLine):Builtin.List.listTooLong n=false:=by
 unfold Builtin.List.listTooLong;exact decide_eq_false (by omega)
end
section
variable {X:Cx}
def LK:V->List V->Hp->VK->Prop:=λx vs H Q=>∃ l xs y,x=.ref l/\vs=[y]/\H l=some (.lst xs)/\xs.length<sizeLine/\Q .non (upd H l (.lst (xs++[y])))
def Cj:MI X "list.append" LK:=by
 intro pins s σ H x vs v us Q I rx rv h;obtain⟨l,xs,y,rfl,rfl,hH,hz,q⟩:=h;cases rx;obtain⟨u,rfl,ru⟩:=rv.one;obtain⟨z,its,n,r,hl,e⟩:=I.lstM hH;refine call_meets F.slot_list_append ⟨_,e,rfl⟩ F.entry_list_append (F.args_list_append_2 _ _) (PySem.list_append l its.toArray n u (by rw[zAh];omega)) ⟨e,?_⟩;refine⟨.non,_,I.lset (its':=its++[u]) hH e (by simp) (r.append (.cons ru .nil)) ?_,rfl,q⟩;rw[zAc,zAX];omega
def KU:V->List V->Hp->VK->Prop:=λx vs H Q=>∃ l b xs zs,x=.ref l/\vs=[.ref b]/\H l=some (.lst xs)/\H b=some (.lst zs)/\xs.length+zs.length<=sizeLine/\Q .non (upd H l (.lst (xs++zs)))
def Nv:MI X "list.extend" KU:=by
 intro pins s σ H x vs v us Q I rx rv h;obtain⟨l,b,xs,zs,rfl,rfl,hH,hB,hz,q⟩:=h;cases rx;obtain⟨u,rfl,ru⟩:=rv.one;cases ru;obtain⟨z,its,n,r,hl,e⟩:=I.lstM hH;obtain⟨z2,its2,n2,r2,hl2,e2⟩:=I.lstM hB;have hsz:its.toArray.size+its2.toArray.size<=sizeLine:=by rw[zAh,zAh];omega
 have hlong:¬ (!its.toArray.isEmpty&&Builtin.List.listTooLong (its.toArray.size+its2.toArray.size))=true:=by
  rw[GH hsz,Bool.and_false];exact zAo
 refine call_meets F.slot_list_extend ⟨_,e,rfl⟩ F.entry_list_extend (F.args_list_extend_2 _ _)
  (AutoSeq1.list_extend_list_list_0 l its.toArray n b its2.toArray n2 hlong (by rw[zAh];omega) (by omega)) ⟨e,e2,?_⟩
 refine⟨.non,_,I.lset (its':=its++its2) hH e (by simp) (r.append r2) ?_,rfl,q⟩;rw[zAc];omega
def UO:V->List V->Hp->VK->Prop:=λx vs H Q=>∃ l xs y,x=.ref l/\vs=[]/\H l=some (.lst xs)/\xs[xs.length-1]?=some y/\Q y (upd H l (.lst xs.dropLast))
def UV:MI X "list.pop" UO:=by
 intro pins s σ H x vs v us Q I rx rv h;obtain⟨l,xs,y,rfl,rfl,hH,hy,q⟩:=h;cases rx;have hus:=rv.zero;subst hus;obtain⟨z,its,n,r,hl,e⟩:=I.lstM hH;obtain⟨u,hu,ru⟩:=r.get hy;have hy':its.toArray[its.toArray.size-1]?=some u:=by
  show its.toArray[its.length-1]?=some u;rw[<- Array.getElem?_toList,<- hl];exact hu
 refine call_meets F.slot_list_pop ⟨_,e,rfl⟩ F.entry_list_pop (F.args_list_pop_1 _) (MeetsSeq.list_pop_last l its.toArray n u hy' (by rw[zAh];omega)) ⟨e,?_⟩;refine⟨y,_,I.lset (its':=its.dropLast) hH e ?_ r.dropLast ?_,ru,q⟩
 .show its.toArray.eraseIdxIfInBounds (its.toArray.size-1)=its.dropLast.toArray
  rw[zAh,List.eraseIdxIfInBounds_toArray,Z4]
 .rw[List.length_dropLast]
  omega
def OI:V->List V->Hp->VK->Prop:=λx vs H Q=>∃ l xs,x=.ref l/\vs=[]/\H l=some (.lst xs)/\Q .non (upd H l (.lst []))
def JB:MI X "list.clear" OI:=by
 intro pins s σ H x vs v us Q I rx rv h;obtain⟨l,xs,rfl,rfl,hH,q⟩:=h;cases rx;have hus:=rv.zero;subst hus;obtain⟨z,its,n,r,hl,e⟩:=I.lstM hH;refine call_meets F.slot_list_clear ⟨_,e,rfl⟩ F.entry_list_clear (F.args_list_clear_1 _) (AutoSeq1.list_clear_list_0 l its.toArray n (by rw[zAh];omega)) ⟨e,?_⟩;exact⟨.non,_,I.lset (its':=[]) (ys:=[]) hH e rfl .nil (zAB _),rfl,q⟩
def UP:R2:=λx y H Q=>∃ l b xs zs,x=.ref l/\y=.ref b/\H l=some (.lst xs)/\H b=some (.lst zs)/\xs.length+zs.length<=sizeLine/\∀ p,H p=none->Q (.ref p) (upd H p (.lst (xs++zs)))
def Jc:Pa X (binaryOp .Add) UP:=by
 intro pins s σ H x y v u Q I rx ry h;obtain⟨l,b,xs,zs,rfl,rfl,hH,hB,hz,q⟩:=h;cases rx;cases ry;obtain⟨z,its,n,r,hl,e⟩:=I.lstM hH;obtain⟨z2,its2,n2,r2,hl2,e2⟩:=I.lstM hB;refine PySem.P.add_list e e2 ?_ (by rw[zAh,zAh];omega);have ea:its.toArray++its2.toArray=(its++its2).toArray:=by simp
 rw[ea];exact⟨.ref _,_,I.lnew (t':=s.toks) (r.append r2) (by rw[zAc];omega),rfl,q _ I.fresh⟩
def LL {α:Type} (xs:List α) (k:Nat):(zAC k xs).flatten.length=k*xs.length:=by
 induction k with
 |zero=>simp
 |succ k ih=>rw[zBw,zBv,zAc,ih,Nat.succ_mul,Nat.add_comm]
end
end L2
namespace Att
open PySem PySem.W PySem.Calls PyProof.Rows
def Uu {P:Params} {h:Heap}:∀ (ns:List Int) (vs:List Value),WellAll P h vs (ns.map WData.int)->IntsAre vs ns:=by
 intro ns
 induction ns with
 |nil=>
  intro vs w;rw[zBy] at w;cases w;exact .nil
 |cons n ns ih=>
  intro vs w;rw[zAv] at w;cases w with
  |cons a b=>
   cases a
   exact .cons _ _ (ih _ b)
def DA {l:OpenLaw} {n:Nat} (hn:l.most=some n) {P:Params} {h:Heap} {args:List WData} {vals:List Value}
  (hpre:l.row.toRowW.claim.pre args=true) (hwl:WellAll P h vals args) :
  ∃ a vs ns,vals=[Value.ref a]/\args=[WData.list (ns.map WData.int)]/\h.get? a=some { cls:=.type "list",data:=.seq vs.toArray }/\IntsAre vs ns/\ns.length<=n:=by
 have hsh:WShape.hasAll [] args [.list .int]=true:=(pre_splitW hpre).1;have hc:l.pre.holds [] { args:=args }=true:=(pre_splitW hpre).2;obtain⟨d,r,rfl,h1,h2⟩:=hasAllW_cons hsh;obtain rfl:=hasAllW_nil h2;obtain⟨xs,rfl,h3⟩:=hasW_list h1;obtain⟨ns,rfl⟩:=items_int h3;have hlen:ns.length<=n:=by
  unfold OpenLaw.pre at hc;have h4:(WTm.not (.lt (.lit (.int (n:Int))) (.len (.arg 0)))).holds [] { args:=[.list (ns.map .int)] }=true:=by
   have h4:=(holds_andW hc).1;rw[hn] at h4;exact h4
  have h5:=condW_of h4 (w_not (w_lt w_lit (w_len_list (w_arg rfl))));rw[zAa] at h5;refine Nat.le_of_not_lt λq=>?_;have q':(n:Int)<((ns.length:Nat):Int):=by omega
  first
   |(rw[decide_eq_true q'] at h5;exact absurd h5 (by decide))
   |(simp at h5;omega)
 cases hwl with
 |cons w1 w2=>
  cases w2
  cases w1 with
  |list ho hall=>exact⟨_,_,ns,rfl,rfl,ho,Uu ns _ hall,hlen⟩
def ED (l:OpenLaw) (args:List WData):l.row.toRowW.claim.post args (.bool true) args=true:=
 postW_of (r:=l.row.toRowW) (X:=(true==true))
  (show WShape.has [] (.bool true) .bool=true by first|rfl|decide|simp [WShape.has,WShape.arms,WShape.armsAll])
  (show (WTm.eq .res (.lit (.bool true))).value [] { args:=args,res:=some (.bool true),after:=args }=some (.bool (true==true)) from w_eq_bool (w_res rfl) w_lit) rfl
def attach_call {l:OpenLaw} {n:Nat} {q:Program} {loose:List Str} {XP:(Str->Option Value)->Heap->Prop} {YP:World->Heap->Prop} {d:DefRec}
  (hn:l.most=some n) (hdf:d.params.defaults=[])
  (call:∀ (w:World) (s₀ s₁:Shared) (mg mb:Str->Option Value) (fa:Addr) (o:Obj) (pm cd doc:Value) (a:Addr) (vs:List Value) (ns:List Int),
   Ground q loose [] XP w s₀ mg mb s₁.heap->YP w s₁.heap ->
   s₁.heap.get? fa=some o->o.data=.func (docDef d.name d.params d.body d.scope pm cd doc)->s₁.heap.CodeRec cd d.name->mg d.name=some (.ref fa) ->
   s₁.heap.get? a=some { cls:=.type "list",data:=.seq vs.toArray }->IntsAre vs ns->ns.length<=n->s₁.gens = #[] ->
   codeAny (model l.prog w) callerA (.call (.ref fa) ⟨[.ref a],[]⟩) (λr s'=>r=.ok (.ret (.bool true))/\OldK s₁.heap s'.heap/\s'.os=s₁.os/\AllBare s'.gens) s₁) :
  WalkO q loose XP YP l.row.toRowW d [] (λf vs=>PySem.call f vs):=by
 intro w s₀ s₁ mg mb G Y fa o pm cd doc dV kV ho hd hcd hD hmg hg args vals as hpre hlay hrd hwl hlo;obtain rfl:dV=.none:=Dflts.none hD hdf;obtain rfl:kV=.none:=Dflts.noKw hD;obtain⟨a,vs,ns,rfl,rfl,hobj,hints,hlen⟩:=DA hn hpre hwl;refine enter_call (codeAny_mono (call w s₀ s₁ mg mb fa o pm cd doc a vs ns G Y ho (fd_plain hd) hcd hmg hobj hints hlen hg) λr s' hq=>?_);obtain⟨rfl,h2,h3,h4⟩:=hq;exact⟨.inl ⟨.bool true,.bool true,[],rfl,λ_=>rfl,.bool true,ED l _,λ_=>⟨List.Pairwise.nil,λ_ hm=>(nomatch hm)⟩⟩,h2,h3,h4⟩
end Att
namespace L2
open PySem PySem.Spec PyProof.Rows
theorem Zq:∀ {vs:List Value} {ns:List Int},IntsAre vs ns->WR (ns.map V.int) vs
 |_,_,.nil=>.nil
 |_,_,.cons n t h=>.cons ⟨t,rfl⟩ (Zq h)
def QA (H:Hp):Prop:=∀ b,H b=none\/∃ o xs,H b=some (.frz o (.lst xs))
def HV {P:Program} {w:World} {K:zAb} {mg mb:Str->Option Value} {CX:ES} {k:Nat} {fa a:Addr} {fd:zCh} {x:Str} {sp:Sp} {s₁:Shared} {vs:List Value} {ns:List Int}
  (KX:K.In s₁.heap) (hns:s₁.heap.Ns zCi mg) (hb:s₁.heap.Ns builtinsNs mb) (hbb:∀ x:Str,x ≠ "__name__"->mb x=zCg x) (hlim:s₁.heap.NoLimit) (hg:s₁.gens = #[])
  (ha:s₁.heap.get? a=some { cls:=.type "list",data:=.seq vs.toArray }) (hi:IntsAre vs ns) (hl:ns.length<=sizeLine) (hr:XA k callerA)
  (F:∀ base:Heap,K.In base->base.Ns zCi mg->WN P w K mg base CX k fa fd [x] sp) (hbind:∀ (s:Shared) (u:Value),BindsTo s fd ⟨[u],[]⟩ [(x,u)])
  (hsp:∀ H:Hp,QA H->WL K H a (ns.map V.int)->sp [.ref a] H (λv _=>v=.bl true) λ_ _ _=>False)
  (hCX:∀ H e s',CX [] H s₁ (λ_ _ _=>False) e s'->False) :
  codeAny (model P w) callerA (.call (.ref fa) ⟨[.ref a],[]⟩) (λr s'=>r=.ok (.ret (.bool true))/\OldK s₁.heap s'.heap/\s'.os=s₁.os/\AllBare s'.gens) s₁:=by
 have rv:=Zq hi;have lenV:=hi.length;have core:∀ H:Hp,QA H->WL K H a (ns.map V.int)->XJ P w H s₁.heap->(∀ b,H b≠none->b=a)->(H a≠none->K.lookup a=none) ->
   codeAny (model P w) callerA (.call (.ref fa) ⟨[.ref a],[]⟩) (λr s'=>r=.ok (.ret (.bool true))/\OldK s₁.heap s'.heap/\s'.os=s₁.os/\AllBare s'.gens) s₁:=by
  intro H hO hS hok hA hK;have base_of:∀ {b:Addr} {o:Obj},s₁.heap.get? b=some o->H b=none->(L1 s₁.heap H).get? b=some o:=λe n=>JJ e n;have noA:∀ {b:Addr} {o:Obj} {es:Array DictEntry} {ep:Nat},s₁.heap.get? b=some o->o.data=.dict es ep->H b=none:=λ{b o es ep} e d=>by
   cases q:H b with
   |none=>rfl
   |some u=>
    have e':b=a:=hA b (by rw[q];simp);subst e';rw[ha] at e;cases e;have d':Data.seq vs.toArray _=Data.dict es ep:=d;cases d'
  have nsK:∀ {b:Addr} {m:Str->Option Value},s₁.heap.Ns b m->(L1 s₁.heap H).Ns b m:=λ{b m} ⟨o,es,ep,e,d,r⟩=>⟨o,es,ep,base_of e (noA e d),d,r⟩;have hKb:K.In (L1 s₁.heap H):=λb o e=>base_of (KX b o e) (by
   cases q:H b with
   |none=>rfl
   |some u=>
    have e':b=a:=hA b (by rw[q];simp);subst e';rw[hK (by rw[q];simp)] at e;cases e)
  have hM:Mod K mg (L1 s₁.heap H):=⟨hKb,nsK hns,⟨mb,nsK hb,hbb⟩,let ⟨mc,h1,h2⟩:=hlim;⟨mc,nsK h1,h2⟩⟩;have e0:YB P w K mg (L1 s₁.heap H) callerA [] s₁ H:=⟨rfl,hM,λb o e=>JZ e,Nat.le_of_eq (DV _ _),trivial,λb hb=>absurd (show b∈([]:List Addr) from hb) (by simp),hok,.of_eq hg⟩;refine codeAny_mono ((F _ hKb (nsK hns)).run callerA [] s₁ H ⟨[.ref a],[]⟩ [.ref a] [.ref a] _ _ hr e0 (hbind s₁ (.ref a)) (.cons rfl .nil) (hsp H hO hS)) λr s' h=>?_;cases r with
  |error e=>exact (hCX H e s' h).elim
  |ok fl=>
   cases fl with
   |next=>exact False.elim h
   |brk=>exact False.elim h
   |cont=>exact False.elim h
   |ret u=>
    obtain⟨v,H',os,bare,un,hok',r',q⟩:=h;have q':v=.bl true:=q;subst q';obtain rfl:u=Value.bool true:=r';refine⟨rfl,OldK.of_keep λb o e=>?_,os,bare⟩;cases q:H b with
    |none=>exact un.keep b o e q (by intro z;exact absurd (show b∈([]:List Addr) from z) (by simp)) (by simp)
    |some u=>
     rcases hO b with z|⟨ob,xs,z⟩
     .rw[q] at z;cases z
     .have z2:=un.frzs b ob _ z
      obtain⟨e1,_⟩:=hok b _ z;obtain⟨e2,_⟩:=hok' b _ z2;rw[e] at e1;cases e1;exact e2
 cases hk:K.lookup a with
 |some o=>
  have e:=KX a o hk;rw[ha] at e;cases e;refine core (λ_=>none) (λ_=>.inl rfl) (.inr ⟨_,vs.toArray,_,hk,rfl,rfl,rfl,by rw[zAh,lenV];exact hl,by simpa using rv⟩) (λb u z=>by have z':(none:Option HO)=some u:=z;cases z') (λb z=>absurd rfl z) λz=>absurd rfl z
 |none=>
  refine core (λb=>if b=a then some (.frz { cls:=.type "list",data:=.seq vs.toArray } (.lst (ns.map V.int))) else none) (λb=>?_) (.inl (.inr ⟨{ cls:=.type "list",data:=.seq vs.toArray },if_pos rfl⟩)) (λb u z=>?_) (λb z=>?_) λ_=>hk
  .by_cases hb:b=a
   .exact .inr ⟨_,_,if_pos hb⟩
   .exact .inl (if_neg hb)
  .by_cases hb:b=a
   .have z':=(if_pos hb).symm.trans z
    cases z'
    subst hb;exact⟨ha,by rw[zAa];exact hl,vs,_,rv,ha⟩
   .have z':=(if_neg hb).symm.trans z
    cases z'
  .by_cases hb:b=a
   .exact hb
   .exact absurd (if_neg hb) z
def walk_of {l:PySem.W.OpenLaw} {n k:Nat} {q:Program} {loose:List Str} {XP:(Str->Option Value)->Heap->Prop} {YP:World->Heap->Prop} {d:DefRec} {K:Params->zAb} {CX:World->ES} {sp:World->Sp} {x:Str}
  (hn:l.most=some n) (hn2:n<=sizeLine) (hdf:d.params.defaults=[]) (hr:XA k callerA)
  (hY:∀ (w:World) (h:Heap),YP w h->(K w.params).In h)
  (F:∀ (w:World) (mg:Str->Option Value) (fa:Addr) (h:Heap),(K w.params).In h->h.Ns zCi mg->mg d.name=some (.ref fa) ->
   ∃ fd:zCh,(∀ (s:Shared) (u:Value),BindsTo s fd ⟨[u],[]⟩ [(x,u)]) /\
    ∀ base:Heap,(K w.params).In base->base.Ns zCi mg->WN l.prog w (K w.params) mg base (CX w) k fa fd [x] (sp w))
  (hsp:∀ (w:World) (H:Hp) (a:Addr) (ns:List Int),ns.length<=n->QA H->WL (K w.params) H a (ns.map V.int)->sp w [.ref a] H (λv _=>v=.bl true) λ_ _ _=>False)
  (hCX:∀ (w:World) (H:Hp) (s:Shared) (e:Value) (s':Shared),CX w [] H s (λ_ _ _=>False) e s'->False) :
  PySem.W.WalkO q loose XP YP l.row.toRowW d [] (λf vs=>PySem.call f vs):=by
 refine Att.attach_call hn hdf λw s₀ s₁ mg mb fa o pm cd doc a vs ns G Y ho hd hcd hmg hobj hints hlen hg=>?_;have KX:=hY w _ Y;obtain⟨fd,hb,hF⟩:=F w mg fa _ KX G.T.g hmg;exact HV KX G.T.g G.T.b G.T.builtins G.T.nolimit hg hobj hints (zAD hlen hn2) hr hF hb (λH hO hS=>hsp w H a ns hlen hO hS) λH e s'=>hCX w H s₁ e s'
def Cd (s:Stmt) (j:Nat):Stmt:=match s with
 |.ClassDef _ _ _ body _ _ _ _ _ _ _=>body.getD j (.Pass ⟨0,0,0,0⟩)
 |_=>.Pass ⟨0,0,0,0⟩
def Dt (s:Stmt):Arguments:=match s with
 |.FunctionDef _ a _ _ _ _ _ _ _ _=>a
 |_=>{ posonlyargs:=[],args:=[],vararg:=none,kwonlyargs:=[],kw_defaults:=[],kwarg:=none,defaults:=[] }
def Dj (s:Stmt):List Stmt:=match s with
 |.FunctionDef _ _ b _ _ _ _ _ _ _=>b
 |_=>[]
def Av (s:Stmt):Scope:=match s with
 |.FunctionDef _ _ _ _ _ _ sc _ _ _=>sc
 |_=>{ kind:=.function,names:=[],isGenerator:=false,isCoroutine:=false }
abbrev Do:ES:=λ_ _ _ _ _ _=>False
abbrev E0:XK:=λ_ _ _=>False
def Zn {X:Cx}:Pq Do X E0:=λ_ _ _ _ _ _ _ h=>h.elim
structure WV (K:zAb) (x qual:Str) (st:Stmt) (f:Addr) (fd:zCh):Prop where
 ex:∃ (oc:Value) (od:Option Addr) (kV doc pm:Value) (an:Option Addr) (cdv ct:Value) (osl:Array (Option Value)),
  fd=zAK x qual (Dt st) (Dj st) (Av st) .none kV doc pm an cdv ct/\K.lookup f=some ⟨oc,od,.func fd,osl⟩/\zAP K cdv qual=true
 kp:zAJ K (.ref f)=true
section
variable {P:Program} {w:World} {K:zAb} {mg:Str->Option Value} {base:Heap}
def WV.ok {x qual:Str} {st:Stmt} {f:Addr} {fd:zCh} {N ps:List Str} {k:Nat} {sp:Sp} (F:WV K x qual st f fd) (S:Bc N ps (Av st)) (len:∀ vs H Q E,sp vs H Q E->vs.length=ps.length)
  (hbody:∀ (cdv:Value) (A:Around) (outer:List Env) (s:Shared) (H:Hp) (vs:List V) (Q:VK) (E:XK),XA k (A.deeper (envOfC qual (Av st) s.heap.objs.size f cdv))->sp vs H Q E ->
   ∃ t,PSs (X6 Do P w K mg base N qual (Av st) f cdv A outer s H E).nox (Dj st) t/\t { nx:=λ_ H'=>Q .non H',rt:=Q } (Rf N vs) H):WN P w K mg base Do (k+1) f fd ps sp:=by
 obtain⟨oc,od,kV,doc,pm,an,cdv,ct,osl,rfl,lk,hcd⟩:=F.ex;refine MX lk hcd S len λA outer s H vs Q E hr hsp=>?_;obtain⟨t,h,q⟩:=hbody cdv A outer s H vs Q E hr hsp;exact⟨t,h.nox,q⟩
def WV.binds {x qual:Str} {st:Stmt} {f:Addr} {fd:zCh} {ps:List Str} (F:WV K x qual st f fd)
  (h:∀ (kV doc pm:Value) (an:Option Addr) (cdv ct:Value) (us:List Value),us.length=ps.length->bindArgs (zAK x qual (Dt st) (Dj st) (Av st) .none kV doc pm an cdv ct) ⟨us,[]⟩=pure (ps.zip us)):XB K fd ps []:=by
 obtain⟨oc,od,kV,doc,pm,an,cdv,ct,osl,rfl,lk,hcd⟩:=F.ex;exact .all (h kV doc pm an cdv ct)
def W3 {x qual:Str} {st:Stmt} {f:Addr} {oc:Value} {od an:Option Addr} {osl:Array (Option Value)} {kV doc pm cdv ct:Value} (l:K.lookup f=some ⟨oc,od,.func (zAK x qual (Dt st) (Dj st) (Av st) .none kV doc pm an cdv ct),osl⟩)
  (c:zAP K cdv qual=true) (k:zAJ K (.ref f)=true):WV K x qual st f (zAK x qual (Dt st) (Dj st) (Av st) .none kV doc pm an cdv ct):=⟨⟨oc,od,kV,doc,pm,an,cdv,ct,osl,rfl,l,c⟩,k⟩
end
def SN {A:Around} {k:Nat} (hr:XA k A):A.units+1<cLine:=zBU (Nat.add_le_add_left (by decide:1<=64) _) hr.units
def CY {n:Nat} (h:n<=1000):n<sizeLine:=zBU h (by decide)
section
variable {X:Cx}
def pv (i:Nat) {x:Str} {pos:Pos} (hN:X.N[i]?=some x:=by rfl) (hv:TC X.env.scope x:=by first|exact Or.inl rfl|exact Or.inr (Or.inl rfl)|exact Or.inr (Or.inr rfl)) (hd:(x==("__debug__" : Str))=false:=by decide)
  (hcd:(x==("__classdict__" : Str))=false:=by decide):PE X (.Name x pos) (RW i):=PV hN hv hd hcd
end
def Ep {A B:Prop} (h:B):if false=true then A else B:=by
 rw[if_neg zAo];exact h
def Kt {A B:Prop} (h:A):if true=true then A else B:=by
 rw[if_pos rfl];exact h
def DX {c A B:Prop} [Decidable c] (h1:c->A) (h2:¬ c->B):if c then A else B:=by
 by_cases h:c
 .rw[if_pos h]
  exact h1 h
 .rw[if_neg h]
  exact h2 h
def WJ (H H':Hp):Prop:=∀ b o,H b=some o->H' b=some o
def WJ.refl (H:Hp):WJ H H:=λ_ _ h=>h
def WJ.trans {H H1 H2:Hp} (a:WJ H H1) (b:WJ H1 H2):WJ H H2:=λc o h=>b c o (a c o h)
def WJ.free {H H':Hp} (e:WJ H H') {l:Addr} (h:H' l=Option.none):H l=Option.none:=by
 cases q:H l with
 |none=>rfl
 |some o=>
  rw[e l o q] at h;cases h
def WJ.seq {K:zAb} {H H':Hp} {a:Addr} {xs:List V} (e:WJ H H') (h:WL K H a xs):WL K H' a xs:=by
 rcases h with (h|⟨o,h⟩)|h
 .exact .inl (.inl (e _ _ h))
 .exact .inl (.inr ⟨o,e _ _ h⟩)
 .exact .inr h
section
variable {κ:Type} [DecidableEq κ]
def Vv (kvs:List (κ×V)) (k:κ):Option V:=(kvs.find? λkv=>decide (kv.1=k)).map (·.2)
def O8 (kvs:List (κ×V)) (k:κ) (v:V):List (κ×V):=
 if (kvs.any λkv=>decide (kv.1=k))=true then kvs.map (λkv=>if kv.1=k then (kv.1,v) else kv) else kvs++[(k,v)]
def R4 {p:κ×V} {r:List (κ×V)} {k:κ} (e:p.1=k):Vv (p::r) k=some p.2:=by simp [Vv,zBH,e]
def V5 {p:κ×V} {r:List (κ×V)} {k:κ} (e:¬ p.1=k):Vv (p::r) k=Vv r k:=by simp [Vv,zBH,e]
def T3 (kvs:List (κ×V)) (k:κ) (v:V):(O8 kvs k v).length<=kvs.length+1:=by
 unfold O8
 split
 .rw[zAa];omega
 .rw[zAc,zAe,List.length_nil];omega
def XM.getD {o:Option V} {u:Option Value} {d:V} {d':Value} (r:XM o u) (rd:WS d d'):WS (o.getD d) (u.getD d'):=by
 cases o with
 |none=>cases u with
  |none=>exact rd
  |some _=>exact (show False from r).elim
 |some _=>cases u with
  |none=>exact (show False from r).elim
  |some _=>exact r
def KV.val {kvs:List (κ×V)} {vs:List (κ×Value)} (r:KV kvs vs) (k:κ):XM (Vv kvs k) (valueAt vs k):=by
 unfold KV at r
 induction r with
 |nil=>exact True.intro
 |@cons p q ps qs h t ih=>
  obtain⟨h1,h2⟩:=h;by_cases e:p.1=k
  .have e':q.1=k:=h1.symm.trans e
   have b:valueAt (q::qs) k=some q.2:=by simp [valueAt,zBH,e']
   rw[R4 e,b];exact h2
  .have e':¬ q.1=k:=λz=>e (h1.trans z)
   have b:valueAt (q::qs) k=valueAt qs k:=by simp [valueAt,zBH,e']
   rw[V5 e,b];exact ih
def KV.any {kvs:List (κ×V)} {vs:List (κ×Value)} (r:KV kvs vs) (k:κ):(kvs.any λkv=>decide (kv.1=k))=vs.any λkv=>decide (kv.1=k):=by
 unfold KV at r
 induction r with
 |nil=>rfl
 |cons h t ih=>rw[List.any_cons,List.any_cons,ih,h.1]
def KV.repl {kvs:List (κ×V)} {vs:List (κ×Value)} (r:KV kvs vs) (k:κ) {y:V} {u:Value} (ry:WS y u) :
  KV (kvs.map λkv=>if kv.1=k then (kv.1,y) else kv) (vs.map λkv=>if kv.1=k then (kv.1,u) else kv):=by
 unfold KV at r ⊢
 induction r with
 |nil=>exact .nil
 |@cons p q ps qs h t ih=>
  rw[zAv,zAv];refine .cons ?_ ih;obtain⟨h1,h2⟩:=h;by_cases e:p.1=k
  .rw[if_pos e,if_pos (h1.symm.trans e)];exact⟨h1,ry⟩
  .rw[if_neg e,if_neg (λz=>e (h1.trans z))];exact⟨h1,h2⟩
def KV.put {kvs:List (κ×V)} {vs:List (κ×Value)} (r:KV kvs vs) (k:κ) {y:V} {u:Value} (ry:WS y u):KV (O8 kvs k y) (stored vs k u):=by
 unfold O8 stored;rw[r.any k];by_cases e:(vs.any λkv=>decide (kv.1=k))=true
 .rw[if_pos e,if_pos e];exact r.repl k ry
 .rw[if_neg e,if_neg e];exact Paired.snoc r ⟨rfl,ry⟩
end
def JC {P:Program} {w:World} {k:Jq} {u:Value} (r:WS (kV k) u):(Ej P w).is k u=true:=by
 cases k with
 |inl i=>obtain⟨t,e⟩:=(show ∃ t,u=Value.int i t from r);subst e;exact T6 P w i t
 |inr x=>obtain⟨t,e⟩:=(show ∃ t,u=Value.str x t from r);subst e;exact U8 P w x t
theorem Zh {P:Program} {w:World}:∀ {ks:List Jq} {us:List Value},WR (ks.map kV) us->ItemsAre (Ej P w) ks us
 |[],_,r=>by rw[zBy] at r;cases r;exact .nil
 |k::ks,_,r=>by
  rw[zAv] at r;cases r with
  |cons h t=>exact .cons (JC h) (Zh t)
abbrev KT (H:Hp):List (List Jq×V)->List (List Jq×Addr×Value)->Prop:=Paired λp q=>p.1=q.1/\H q.2.1=some (.tup (p.1.map kV))/\WS p.2 q.2.2
def KT.val {H:Hp} {kvs:List (List Jq×V)} {xs:List (List Jq×Addr×Value)} (r:KT H kvs xs) (k:List Jq):XM (Vv kvs k) ((atKey xs k).map (·.2)):=by
 induction r with
 |nil=>exact True.intro
 |@cons p q ps qs h t ih=>
  obtain⟨h1,_,h2⟩:=h;by_cases e:p.1=k
  .have e':q.1=k:=h1.symm.trans e
   have b:atKey (q::qs) k=some q.2:=by simp [atKey,zBH,e']
   rw[R4 e,b];exact h2
  .have e':¬ q.1=k:=λz=>e (h1.trans z)
   have b:atKey (q::qs) k=atKey qs k:=by simp [atKey,zBH,e']
   rw[V5 e,b];exact ih
section
variable {P:Program} {w:World} {H:Hp} {h:Heap} {a:Addr}
def NF {u:HO} (ok:XJ P w H h) (e:Rd H a u):WY P w H h a u:=e.ok ok
def FI {kvs:List (Jq×V)} (ok:XJ P w H h) (e:Rd H a (.dK kvs)):kvs.length<=sizeLine/\(a==sysModules)=false/\∃ vs,KV kvs vs/\h.DictOf (Ej P w) a vs:=
 show WY P w H h a (.dK kvs) from NF ok e
def QW {kvs:List (Jq×V)} (ok:XJ P w H h) (e:H a=some (.dK kvs)):kvs.length<=sizeLine/\(a==sysModules)=false/\∃ vs,KV kvs vs/\h.DictOf (Ej P w) a vs:=FI ok (.inl e)
def IJ {ks:List Jq} (ok:XJ P w H h) (e:H a=some (.tup (ks.map kV))):(tupleKind (Ej P w)).is h ks a:=by
 obtain⟨_,its,r,o,h1,h2,n,h3⟩:=(show WY P w H h a (.tup (ks.map kV)) from ok a _ e);exact⟨o,its.toArray,n,h1,h2,h3,by simpa using Zh r⟩
def NB {kvs:List (List Jq×V)} (ok:XJ P w H h) (e:Rd H a (.dT kvs)):kvs.length<=sizeLine/\(a==sysModules)=false /\
  ∃ xs,KT H kvs xs/\h.DictOfH (tupleKind (Ej P w)) a xs:=by
 obtain⟨z,y,xs,r,o,es,ep,h1,h2,h3,h4,h5⟩:=(show WY P w H h a (.dT kvs) from NF ok e);refine⟨z,y,xs,r,o,es,ep,h1,h2,h3,h4,λx hx=>?_,h5⟩;have all:∀ {l:List (List Jq×V)} {m:List (List Jq×Addr×Value)},KT H l m->∀ x∈m,(tupleKind (Ej P w)).is h x.1 x.2.1:=by
  intro l m q
  induction q with
  |nil=>intro x hx;exact nomatch hx
  |@cons p q ps qs hq t ih=>
   intro x hx;rcases zAj.mp hx with e|hx
   .subst e
    exact IJ ok (by rw[<- hq.1];exact hq.2.1)
   .exact ih x hx
 exact all r x hx
end
def YE (H:Hp) (a:Addr) (y:V) (r:Option V):Prop:=
 (∃ kvs k,Rd H a (.dK kvs)/\y=kV k/\r=Vv kvs k)\/∃ kvs k b,Rd H a (.dT kvs)/\y=.ref b/\H b=some (.tup (k.map kV))/\r=Vv kvs k
def YE.k {H:Hp} {a:Addr} {kvs:List (Jq×V)} {k:Jq} (e:H a=some (.dK kvs)):YE H a (kV k) (Vv kvs k):=.inl ⟨kvs,k,.inl e,rfl,rfl⟩
section
variable {X:Cx} {pins:List (Addr×Obj)} {σ:St} {H:Hp} {s:Shared} {a:Addr}
def WM.big (I:WM X pins σ H s):sysModules<s.heap.objs.size:=by
 have h:zCi<s.heap.objs.size:=(I.mod.glob.keeps I.bk).lt;exact Nat.lt_trans (by decide) h
def KN {h':Heap} {t':Nat} {ob:HO} (I:WM X pins σ H s) (mu:QO (H a)) (hs:zBq a s.heap h') (he:∃ q,h'.get? a=some q) (new:WY X.prog X.w (upd H a ob) h' a ob) :
  WM X pins σ (upd H a ob) { s with heap:=h',toks:=t' }:=
 I.write (x:=a) (e:=a) mu (.inl rfl) (λb q hb z=>(hs.2 b hb).trans z) he new
def OS {P:Program} {w:World} {H':Hp} {h':Heap} {kvs:List (Jq×V)} {vs:List (Jq×Value)} (z:kvs.length<=sizeLine) (hd:(a==sysModules)=false) (rel:KV kvs vs) (dd:h'.DictOf (Ej P w) a vs) :
  WY P w H' h' a (.dK kvs):=⟨z,hd,vs,rel,dd⟩
end
def HG {P:Program} {w:World} {H:Hp} (h:Heap) (hb:sysModules<h.objs.size):WY P w H (h.push { cls:=.type "dict",data:=.dict #[] }) h.objs.size (.dK []):=
 ⟨zAB _,beq_eq_false_iff_ne.mpr (Ne.symm (zAy hb)),[],.nil,Heap.DictOf.new h⟩
def X3:List (TE×TE)->St->Hp->(List (V×V)->Hp->Prop)->Prop
 |[],_,H,Q=>Q [] H
 |(tk,tv)::r,σ,H,Q=>tk σ H λx H1=>tv σ H1 λy H2=>X3 r σ H2 λps H3=>Q ((x,y)::ps) H3
abbrev VV:List (V×V)->List (Value×Value)->Prop:=Paired λp q=>WS p.1 q.1/\WS p.2 q.2
def SS (X:Cx) (pos:Pos) (keys:List (Option Expr)) (values:List Expr) (trs:List (TE×TE)):Prop:=
 ∀ (pins:List (Addr×Obj)) (s:Shared) (σ:St) (H:Hp) (Q:List (V×V)->Hp->Prop),WM X pins σ H s->X3 trs σ H Q ->
  wpAny (model X.prog X.w) X.A (evalPairs (pairTrees keys values X.env pos)) (λvs s'=>∃ ps H',WM X pins σ H' s'/\VV ps vs/\Q ps H') X.xe s
def KO {X:Cx} {pos:Pos}:SS X pos [] [] []:=λpins s σ H Q I h=>pairTrees_nil_walk ⟨[],H,I,.nil,h⟩
def N9 {X:Cx} {pos:Pos} {k v:Expr} {ks:List (Option Expr)} {vs:List Expr} {tk tv:TE} {trs:List (TE×TE)} (hk:PE X k tk) (hv:PE X v tv) (hr:SS X pos ks vs trs) :
  SS X pos (some k::ks) (v::vs) ((tk,tv)::trs):=λpins s σ H Q I h=>
 pairTrees_cons_walk (Dx (hk pins s σ H _ I h) λu s1 ⟨x,H1,I1,rx,q1⟩=>Dx (hv pins s1 σ H1 _ I1 q1) λw2 s2 ⟨y,H2,I2,ry,q2⟩=>
  Dx (hr pins s2 σ H2 _ I2 q2) λws s3 ⟨ps,H3,I3,rel,q3⟩=>⟨(x,y)::ps,H3,I3,.cons ⟨rx,ry⟩ rel,q3⟩)
def Qf (kvs more:List (Jq×V)):List (Jq×V):=more.foldl (λacc kv=>O8 acc kv.1 kv.2) kvs
def KV.merge:∀ {more:List (Jq×V)} {rs:List (Jq×Value)} {kvs:List (Jq×V)} {vs:List (Jq×Value)},KV more rs->KV kvs vs->KV (Qf kvs more) (merged vs rs):=by
 intro more rs kvs vs r;unfold KV at r
 induction r generalizing kvs vs with
 |nil=>intro q;exact q
 |@cons p q ps qs h t ih=>
  intro r0;have e:KV (O8 kvs p.1 p.2) (stored vs q.1 q.2):=by
   have:=r0.put p.1 h.2;rw[<- h.1];exact this
  exact ih e
theorem Ox:∀ (more kvs:List (Jq×V)),(Qf kvs more).length<=kvs.length+more.length
 |[],kvs=>by show kvs.length<=kvs.length+0;omega
 |p::r,kvs=>by
  have h1:=Ox r (O8 kvs p.1 p.2);have h2:=T3 kvs p.1 p.2;show (Qf (O8 kvs p.1 p.2) r).length<=_;rw[zAe];omega
theorem Wc {P:Program} {w:World}:∀ {kvs:List (Jq×V)} {ws:List (Value×Value)},VV (kvs.map λkv=>(kV kv.1,kv.2)) ws->∃ rs,Carries (Ej P w) ws rs/\KV kvs rs
 |[],_,r=>by rw[zBy] at r;cases r;exact⟨[],True.intro,.nil⟩
 |p::kvs,_,r=>by
  rw[zAv] at r;cases r with
  |@cons a b as bs h t=>
   obtain⟨rs,c,q⟩:=Wc (P:=P) (w:=w) t;obtain⟨b1,b2⟩:=b;exact⟨(p.1,b2)::rs,⟨JC h.1,rfl,c⟩,.cons ⟨rfl,h.2⟩ q⟩
def RH (trs:List (TE×TE)):TE:=λσ H Q=>∀ p,H p=none->X3 trs σ (upd H p (.dK [])) λps H2=>H2 p=some (.dK [])/\∃ kvs:List (Jq×V),ps=kvs.map (λkv=>(kV kv.1,kv.2))/\kvs.length<=15/\Q (.ref p) (upd H2 p (.dK (Qf [] kvs)))
def KQ {X:Cx} {pos:Pos} {keys:List (Option Expr)} {values:List Expr} {trs:List (TE×TE)} (h:SS X pos keys values trs) (hall:keys.all (·.isSome)=true) (hl:keys.length=values.length) (h0:keys≠[])
  (h15:keys.length<=15):PE X (.Dict keys values pos) (RH trs):=by
 intro pins s σ H Q I q;have hn:=I.hok.fresh (zAn s.heap.objs.size);have I1:=I.laid (a:=s.heap.objs.size) (o:=.dK []) (h':=s.heap.push { cls:=.type "dict",data:=.dict #[] }) (t':=s.toks) (λ_ _ q=>zAm _ q) (zAn _) (HG s.heap I.big);refine wpAny_Dict_walk (knd:=Ej X.prog X.w) hall hl h0 h15 (Dx (h pins _ σ _ _ I1 (q _ hn)) λws s2 ⟨ps,H2,I2,rel,e,kvs,ep,lk,q2⟩=>?_);subst ep;obtain⟨rs,c,rk⟩:=Wc (P:=X.prog) (w:=X.w) rel;obtain⟨z,hd,vs0,r0,dd⟩:=QW I2.hok e;cases r0;refine⟨rs,c,dd,λh' dd' hs=>⟨.ref s.heap.objs.size,_,?_,rfl,q2⟩⟩;have hz:(Qf [] kvs).length<=sizeLine:=by
  have h1:=Ox kvs [];rw[List.length_nil] at h1;rw[zCf];omega
 have he:∃ q,h'.get? s.heap.objs.size=some q:=let ⟨q,_,_,hq,_⟩:=dd';⟨q,hq⟩
 exact KN I2 (by rw[e];exact True.intro) hs he (OS hz hd (rk.merge .nil) dd')
structure M2 (X:Cx) (o:Expr) (m:Str) (apos:Pos) (e f:Expr) (cpos:Pos):Prop where
 base:attributeBase o m X.env (eval o X.env)=eval o X.env
 few:((backTo cpos (starEach [e,f] X.env)).all (λx => !x.1)&&(backToKw cpos (keywordEach [] X.env)).all (λx=>x.1.isSome)
  && decide (([e,f]:List Expr).length+([]:List Keyword).length+(if ([]:List Keyword).isEmpty then 0 else 1)<30))=true
 line:(apos.endLine==cpos.line)=true
 trees:backTo cpos (starEach [e,f] X.env)=[(false,eval e X.env),(false,eval f X.env)]
def VS (H:Hp) (a:Addr):Prop:=(∃ kvs,Rd H a (.dK kvs))\/∃ kvs,Rd H a (.dT kvs)
def OH {X:Cx} {pins:List (Addr×Obj)} {σ:St} {H:Hp} {s:Shared} {a:Addr} (I:WM X pins σ H s) (d:VS H a) :
  s.TypeIs (.ref a) "dict"/\(∀ b,Value.ref a=.ref b->∃ ob,s.heap.get? b=some ob/\ob.dict=none)/\(a==sysModules)=false:=by
 rcases d with ⟨kvs,e⟩|⟨kvs,e⟩
 .obtain⟨_,hd,vs,_,dd⟩:=FI I.hok e
  refine⟨dd.typeIs,λb q=>?_,hd⟩;cases q;obtain⟨ob,_,_,h1,h2,_⟩:=dd;exact⟨ob,h1,h2.2.1⟩
 .obtain⟨_,hd,xs,_,dd⟩:=NB I.hok e
  refine⟨dd.typeIs,λb q=>?_,hd⟩;cases q;obtain⟨ob,_,_,h1,h2,_⟩:=dd;exact⟨ob,h1,h2.2.1⟩
section
variable {X:Cx} {pins:List (Addr×Obj)} {σ:St} {H:Hp} {s:Shared} {a:Addr} {y d:V} {u r:Value} {o:Option V} {A:Around} {E:Value->Shared->Prop}
def OL {Q:Value->Shared->Prop} (hu:A.units+1<cLine) (I:WM X pins σ H s) (g:YE H a y o) (ry:WS y u) (rd:WS d r) (h:∀ w' s',WM X pins σ H s'->WS (o.getD d) w'->Q w' s') :
  wpAny (model X.prog X.w) A (call (.builtin "dict.get") [.ref a,u,r]) Q E s:=by
 rcases g with ⟨kvs,k,e,ey,l⟩|⟨kvs,k,b,e,ey,eb,l⟩
 .subst ey
  obtain⟨z,hd,vs,rel,dd⟩:=FI I.hok e;refine call_meetsIn PySem.F.slot_dict_get dd.typeIs PySem.F.entry_dict_get (PySem.F.args_dict_get_3 _ _ _) (meets_dict_get_default (Ej X.prog X.w) a (JC ry) hd r) ⟨_,dd.mapOf,h _ _ (I.tok _) ?_⟩;rw[l];exact (rel.val k).getD rd
 .subst ey
  cases (show u=Value.ref b from ry)
  obtain⟨z,hd,xs,rel,dd⟩:=NB I.hok e;refine call_meetsIn PySem.F.slot_dict_get dd.typeIs PySem.F.entry_dict_get (PySem.F.args_dict_get_3 _ _ _) (meetsH_dict_get_default (tupleKind (Ej X.prog X.w)) a b hd r) ⟨tupleKind_room_in1 hu,k,xs,IJ I.hok eb,dd,h _ _ (I.tok _) ?_⟩;rw[l];exact (rel.val k).getD rd
end
def PB (td ty tx:TE):TE:=λσ H Q=>td σ H λx H1=>∃ a,x=.ref a/\VS H1 a/\ty σ H1 λy H2=>tx σ H2 λz H3=>∃ o,YE H3 a y o/\Q (o.getD z) H3
section
variable {X:Cx} {o e f:Expr} {apos cpos:Pos} {td ty tx:TE}
def GT (hu:X.A.units+1<cLine) (ho:PE X o td) (he:PE X e ty) (hf:PE X f tx) (m:M2 X o "get" apos e f cpos):PE X (.Call (.Attribute o "get" apos) [e,f] [] cpos) (PB td ty tx):=by
 intro pins s σ H Q I h;refine wpAny_Call_method m.base m.few m.line PySem.F.plainAttrs_dict PySem.F.slot_dict_get PySem.F.type_dict_get (Dx (ho pins s σ H _ I h) λu s1 ⟨x,H1,I1,rx,a,ex,d,q1⟩=>?_);subst ex;obtain rfl:u=Value.ref a:=rx;obtain⟨t1,t2,_⟩:=OH I1 d;refine⟨t1,t2,?_⟩;rw[m.trees];refine Calls.callWith_builtin rfl (Calls.evalArgs_plain (Calls.spliced_cons (Dx (he pins s1 σ H1 _ I1 q1) λiv s2 ⟨y,H2,I2,ry,q2⟩=>
  Calls.spliced_cons (Dx (hf pins s2 σ H2 _ I2 q2) λfv s3 ⟨z,H3,I3,rz,ov,g,q3⟩=>Calls.spliced_nil ?_))))
 exact OL hu I3 g ry rz λw' s4 I4 rw'=>⟨_,H3,I4,rw',q3⟩
end
def CK (cells:List (Str×Addr)):List (Str×NameKind)->List (Str×Addr)->List (Str×Addr)
 |[],cs=>cs
 |(n,k)::r,cs=>CK cells r (if k==NameKind.free then (match cells.lookup n with|some a=>(n,a)::cs|none=>cs) else cs)
theorem Q3 {env:Env}:∀ (names:List (Str×NameKind)) (cs:List (Str×Addr)),(∀ y∈names,y.2=.free->∃ c,env.cells.lookup y.1=some c) ->
  (forIn names cs λ(x:Str×NameKind) (r:List (Str×Addr))=>if (x.2==NameKind.free)=true then (do let a <- cellOf env x.1;pure (ForInStep.yield ((x.1,a)::r))) else (pure (ForInStep.yield r):Sem (ForInStep (List (Str×Addr)))))
   = (pure (CK env.cells names cs):Sem (List (Str×Addr)))
 |[],cs,_=>rfl
 |(n,k)::r,cs,h=>by
  have ih:=Q3 (env:=env) r;rw[List.forIn_cons];unfold CK;cases hk:(k==NameKind.free) with
  |false=>
   simp only [zBI,if_false];show (forIn r cs _:Sem _)=_;exact ih cs λy hy=>h y (zAi _ hy)
  |true=>
   obtain⟨c,hc⟩:=h (n,k) zAk (by simpa using hk);have hc':env.cells.lookup n=some c:=hc;have e:cellOf env n=pure c:=by unfold cellOf;rw[hc']
   simp only [if_true,e,hc'];show (forIn r ((n,c)::cs) _:Sem _)=_;exact ih _ λy hy=>h y (zAi _ hy)
def IB {scope:Scope} {env:Env} (h:∀ y∈scope.names,y.2=.free->∃ c,env.cells.lookup y.1=some c):closureFor scope env=pure (CK env.cells scope.names []):=by
 unfold closureFor;have q:=Q3 (env:=env) scope.names [] h;refine Eq.trans ?_ (congrArg (λz:Sem (List (Str×Addr))=>z >>= λcs=>pure cs) q);rfl
set_option tactic.hygienic true in
theorem BI {cells:List (Str×Addr)}:∀ (names:List (Str×NameKind)) (cs:List (Str×Addr)),(∀ p∈cs,cells.lookup p.1=some p.2)->∀ p∈CK cells names cs,cells.lookup p.1=some p.2
 |[],cs,h,p,hp=>h p hp
 |(n,k)::r,cs,h,p,hp=>by
  unfold CK at hp;refine BI r _ (λq hq=>?_) p hp
  split at hq
  .split at hq
   .rename_i a e
    rcases zAj.mp hq with rfl|hq
    .exact e
    .exact h q hq
   .exact h q hq
  .exact h q hq
def Lr {cells:List (Str×Addr)} {names:List (Str×NameKind)} {x:Str} {c:Addr} (e:(CK cells names []).lookup x=some c):cells.lookup x=some c:=
 BI names [] (λ_ z=>nomatch z) (x,c) (PySem.mem_of_lookup e)
theorem Yt {cells:List (Str×Addr)}:∀ (names:List (Str×NameKind)) (cs:List (Str×Addr)) (p:Str×Addr),p∈cs->p∈CK cells names cs
 |[],cs,p,hp=>hp
 |(n,k)::r,cs,p,hp=>by
  unfold CK;refine Yt r _ p ?_
  split
  .split
   .exact zAi _ hp
   .exact hp
  .exact hp
theorem I9 {cells:List (Str×Addr)} {x:Str} {c:Addr} (hc:cells.lookup x=some c):∀ (names:List (Str×NameKind)) (cs:List (Str×Addr)),(x,NameKind.free)∈names->(x,c)∈CK cells names cs
 |[],_,h=>nomatch h
 |(n,k)::r,cs,h=>by
  unfold CK;rcases zAj.mp h with e|h
  .cases e
   refine Yt r _ _ ?_;rw[hc];simp
  .exact I9 hc r _ h
theorem Ge {x:Str} {c:Addr}:∀ {l:List (Str×Addr)},(x,c)∈l->∃ d,l.lookup x=some d
 |[],h=>nomatch h
 |(y,d)::r,h=>by
  rw[zBx];cases e:(x==y) with
  |true=>exact⟨d,rfl⟩
  |false=>
   rcases zAj.mp h with z|z
   .cases z
    simp at e
   .exact Ge z
theorem Lc {env:Env}:∀ {names:List (Str×NameKind)} {x:Str} {k:NameKind},
  (names.map λ(n,k)=>if (k==NameKind.free&&env.scope.kind == .function&&env.kindOf n==some .cell) then (n,NameKind.cell) else (n,k)).lookup x=some k ->
   names.lookup x=some k\/(k=.cell/\names.lookup x=some .free)
 |[],_,_,h=>by simp at h
 |(n,k0)::r,x,k,h=>by
  have ih:=@Lc env r x k;rw[zAv] at h;rw[zBx];by_cases c:(k0==NameKind.free&&env.scope.kind == .function&&env.kindOf n==some .cell)=true
  .have h':=h
   simp only [c,if_true] at h';rw[zBx] at h';cases e:(x==n) with
   |true=>
    rw[e] at h';have c1:k0=.free:=by
     simp only [zBF] at c
     simpa using c.1.1
    refine .inr ⟨(Option.some.inj h').symm,?_⟩;rw[c1]
   |false=>
    rw[e] at h';exact ih h'
  .have h':=h
   simp only [c,zBI,if_false] at h';rw[zBx] at h';cases e:(x==n) with
   |true=>
    rw[e] at h';exact .inl h'
   |false=>
    rw[e] at h';exact ih h'
theorem Ru {env:Env}:∀ {names:List (Str×NameKind)} {x:Str},names.lookup x=some .free ->
  (names.map λ(n,k)=>if (k==NameKind.free&&env.scope.kind == .function&&env.kindOf n==some .cell) then (n,NameKind.cell) else (n,k)).lookup x=some .cell \/
  (names.map λ(n,k)=>if (k==NameKind.free&&env.scope.kind == .function&&env.kindOf n==some .cell) then (n,NameKind.cell) else (n,k)).lookup x=some .free
 |[],_,h=>by simp at h
 |(n,k0)::r,x,h=>by
  have ih:=@Ru env r x;rw[zAv];rw[zBx] at h;by_cases c:(k0==NameKind.free&&env.scope.kind == .function&&env.kindOf n==some .cell)=true
  .simp only [c,if_true,zBx]
   cases e:(x==n) with
   |true=>exact .inl rfl
   |false=>
    rw[e] at h;exact ih h
  .simp only [c,zBI,if_false,zBx]
   cases e:(x==n) with
   |true=>
    rw[e] at h;exact .inr h
   |false=>
    rw[e] at h;exact ih h
def JI (sc scope:Scope):Bool:=
 scope.kind == .function&&scope.names.all λy=>y.2 != .cell&&(y.2 != .local||scope.names.lookup y.1==some .local)&&(y.2 != .free||(sc.names.lookup y.1==some .cell||sc.names.lookup y.1==some .free))
structure WO (sc scope:Scope):Prop where
 kind:scope.kind=.function
 cell:∀ y∈scope.names,y.2≠.cell
 own:∀ y∈scope.names,y.2=.local->scope.names.lookup y.1=some .local
 free:∀ y∈scope.names,y.2=.free->sc.names.lookup y.1=some .cell\/sc.names.lookup y.1=some .free
def WO.of {sc scope:Scope} (h:JI sc scope=true):WO sc scope:=by
 unfold JI at h;rw[zBF,zBG] at h;obtain⟨h1,h2⟩:=h;have h3:∀ y∈scope.names,(y.2≠.cell/\(y.2≠.local\/scope.names.lookup y.1=some .local))/\(y.2≠.free\/(sc.names.lookup y.1=some .cell\/sc.names.lookup y.1=some .free)):=λy hy=>by
  have q:=h2 y hy
  simpa [zBF,Bool.or_eq_true] using q
 refine⟨by simpa using h1,λy hy=>(h3 y hy).1.1,λy hy e=>?_,λy hy e=>?_⟩
 .exact (h3 y hy).1.2.resolve_left λn=>n e
 .exact (h3 y hy).2.resolve_left λn=>n e
def N4 (X:Cx) (NC:List Str) (scope:Scope) (s3:Shared) (H3:Hp) (fp:List Addr):Cx:=
 { X with N:=NC,s₀:=s3,H₀:=H3,env:=compEnvC scope (CK X.env.cells scope.names []) s3.heap.objs.size X.env,outer:=X.stack,ex:=fp,fn:=λ_=>false,pn:=[],xe:=λ_ _=>False }
def EA (own:Nat) (ix:List Nat) (σ:St):St:=zAC own none++ix.map λj=>(σ[j]?).getD none
def XR (X:Cx) (scope:Scope):List Str->List Nat->Prop
 |[],[]=>True
 |x::cs,j::js=>(X.N[j]?=some x/\(X.env.kindOf x=some .cell\/X.env.kindOf x=some .free)/\scope.names.lookup x=some .free)/\XR X scope cs js
 |_,_=>False
theorem XR.len {X:Cx} {scope:Scope}:∀ {cs:List Str} {js:List Nat},XR X scope cs js->cs.length=js.length
 |[],[],_=>rfl
 |_::_,_::_,h=>by rw[zAe,zAe,XR.len h.2]
 |[],_::_,h=>h.elim
 |_::_,[],h=>h.elim
theorem XR.at {X:Cx} {scope:Scope}:∀ {cs:List Str} {js:List Nat} {i:Nat} {x:Str},XR X scope cs js->cs[i]?=some x ->
  ∃ j,js[i]?=some j/\X.N[j]?=some x/\(X.env.kindOf x=some .cell\/X.env.kindOf x=some .free)/\scope.names.lookup x=some .free
 |[],[],_,_,_,e=>by simp at e
 |x::_,j::_,0,_,h,e=>by simp at e;subst e;exact⟨j,rfl,h.1⟩
 |_::_,_::_,i+1,_,h,e=>by
  obtain⟨j,e1,r⟩:=XR.at (i:=i) h.2 (by simpa using e);exact⟨j,by simpa using e1,r⟩
 |[],_::_,_,_,h,_=>h.elim
 |_::_,[],_,_,h,_=>h.elim
def RO:TT:=λ_ H Q=>Q true H
def RU (Y:Cx) (ifs:List Expr) (t:TT):Prop:=
 ∀ (pins:List (Addr×Obj)) (s:Shared) (σ:St) (H:Hp) (Q:Bool->Hp->Prop),WM Y pins σ H s->t σ H Q ->
  wpAny (model Y.prog Y.w) Y.A (forIn ifs true λc r=>if r=true then do let ok <- isTrue c Y.env (eval c Y.env);pure (ForInStep.yield ok) else pure (ForInStep.yield r)) (TP Y pins σ Q) Y.xe s
def Dq {Y:Cx}:RU Y [] RO:=λ_ _ _ H _ I h=>wpAny_tests_nil ⟨H,I,h⟩
def Zz {Y:Cx} {c:Expr} {t:TT} (h:PT Y c t):RU Y [c] t:=λpins s σ H Q I q=>wpAny_tests_one (h pins s σ H Q I q)
def Zt (g:TG) (tc:TT) (te:TE) (own:Nat) (ix:List Nat) (σ:St) (J:It) (p:Addr) (H1:Hp) (QQ:Hp->Prop):Prop:=
 ∃ W:Nat->Nat->List V->St->Hp->Prop,(∃ m,W 0 m [] (EA own ix σ) (upd H1 p (.lst [])))/\∀ i m ys σ2 H2,W i m ys σ2 H2->H2 p=some (.lst ys) /\
  ((J.stop i H2/\QQ H2)\/(J.go i H2/\ys.length<sizeLine/\∀ x H3,J.yld i H2 x H3->∃ N:List V->St->Hp->Prop,(∀ ys' σ' H',N ys' σ' H'->∃ m',m'<m/\W (i+1) m' ys' σ' H') /\
   g x σ2 H3 λσ4 H4=>tc σ4 H4 λb H5=>if b=true then te σ4 H5 λy H6=>H6 p=some (.lst ys)/\N (ys++[y]) σ4 (upd H6 p (.lst (ys++[y]))) else N ys σ4 H5))
def NE (wi:TI) (g:TG) (tc:TT) (te:TE) (own:Nat) (ix:List Nat):TE:=λσ H Q=>wi σ H λJ H1=>∀ p,H1 p=none->Zt g tc te own ix σ J p H1 (Q (.ref p))
def DZ {prog:Program} {w:World} {A:Around} {R:Result->Shared->Prop} {s:Shared} {elt target iter:Expr} {ifs:List Expr} {scope:Scope} {pos:Pos} {it acc:Value} {env:Env} (I:Nat->Shared->Prop)
  (turn:∀ n s,I n s->wpAny (model prog w) A (pyNext it) (λr s₁=>(r=none/\R (.ok .next) s₁)\/∃ v,r=some v /\
   wpAny (model prog w) A (letOwnedTupleGo target it v) (λ_ s₂=>wpAny (model prog w) A (assign target env v) (λ_ s₃ =>
    wpAny (model prog w) A (forIn ifs true λc r=>if r=true then do let ok <- isTrue c env (eval c env);pure (ForInStep.yield ok) else pure (ForInStep.yield r)) (λok s₄ =>
     (ok=true/\wpAny (model prog w) A (eval elt env) (λx s₅=>wpAny (model prog w) A (call (.builtin "list.append") [acc,x]) (λ_ s₆=>∃ m,m<n/\I m s₆) (λ_ _=>False) s₅) (λ_ _=>False) s₄) \/
     (ok=false/\∃ m,m<n/\I m s₄)) (λ_ _=>False) s₃) (λ_ _=>False) s₂) (λ_ _=>False) s₁) (λ_ _=>False) s)
  (n:Nat) (h:I n s):codeAny (model prog w) A (.compLoop (.ListComp elt [⟨target,iter,ifs,0⟩] scope pos) 0 it acc env) R s:=by
 refine codeAny_loop rfl I (λn s hI=>?_) n h;show wpAny _ A ((compTurn (.ListComp elt [⟨target,iter,ifs,0⟩] scope pos) 0 it acc env).onRaise (λx=>do noteFrame x env;theTreesLotGoes x)) _ _ s;refine wpAny_noted ?_;rw[compTurn_list];have no:∀ (e:Value) (s':Shared),False->notedBy (model prog w) A env (λe s'=>R (.error e) s') e s':=λ_ _ f=>f.elim;refine zCd (wpAny_standAt (zCd (wpAny_mono (turn n s hI) (λr s₁ h₁=>?_) no)));rcases h₁ with ⟨rfl,h₁⟩|⟨v,rfl,h₁⟩
 .exact zCe h₁
 refine zCd (wpAny_mono h₁ (λ_ s₂ h₂=>?_) no);refine zCd (wpAny_mono h₂ (λ_ s₃ h₃=>?_) no);refine zCd (wpAny_mono h₃ (λok s₄ h₄=>?_) no);rcases h₄ with ⟨rfl,h₄⟩|⟨rfl,h₄⟩
 .refine zCd (zCd (wpAny_mono h₄ (λx s₅ h₅=>?_) no))
  exact zCd (wpAny_mono h₅ (λ_ s₆ h₆=>zCe (zCe ⟨rfl,h₆⟩)) no)
 .exact zCe ⟨rfl,h₄⟩
section
variable {X:Cx} {pins:List (Addr×Obj)} {σ:St} {H H':Hp} {s s':Shared}
def P2 {NC own cs:List Str} {ix:List Nat} {scope:Scope} {fp:List Addr} {h4:Heap} {t4:Nat} (I:WM X pins σ H s) (S:WO X.env.scope scope) (hN:NC=own++cs) (hc:XR X scope cs ix)
  (hf:∀ b∈fp,Tp X pins H b) (hl:∀ b∈fp,b<s.heap.objs.size) (hns:h4.Ns s.heap.objs.size λ_=>none) (hk:∀ b o,s.heap.get? b=some o->h4.get? b=some o) :
  WM (N4 X NC scope s H fp) [] (EA own.length ix σ) H { s with heap:=h4,toks:=t4 }:=by
 have cs_has:∀ y∈scope.names,y.2=.free->∃ c,X.env.cells.lookup y.1=some c:=λy hy e=>I.ok.has y.1 (S.free y hy e);have len:=hc.len;refine⟨⟨I.ok.mod,S.kind,I.ok.glob,I.ok.blt,zAn _,λx y c e1 e2=>I.ok.inj x y c (Lr e1) (Lr e2),λx hx=>?_,λ_ _ z=>(nomatch z),I.ok.hd,I.ok.frames,.inl rfl,λb hb=>⟨zAy (hl b hb),λx c e=>(hf b hb).2.2.2.2.1 x c (Lr e)⟩,
   I.bs,zAD I.ok.bsz I.sz,λb o e hb=>?_,λb hb z=>?_,I.stack,I.stkFree⟩,rfl,I.bare,Un.kept hk,⟨_,hns,λi x v e1 e2 e3=>?_⟩,λx c e=>?_,I.hok.fresh (zAn _),λx c e=>I.freeC x c (Lr e),λp hp=>?_,I.hok.kept hk,?_⟩
 ·
  have hx':(relabel scope X.env).names.lookup x=some .cell\/(relabel scope X.env).names.lookup x=some .free:=hx;have q:scope.names.lookup x=some .free:=by
   rcases hx' with h|h
   .rcases Lc h with h|⟨_,h⟩
    .exact absurd rfl (S.cell _ (PySem.mem_of_lookup h))
    .exact h
   .rcases Lc h with h|⟨z,_⟩
    .exact h
    .cases z
  obtain⟨c,hc'⟩:=cs_has (x,.free) (PySem.mem_of_lookup q) rfl;exact Ge (I9 hc' scope.names [] (PySem.mem_of_lookup q))
 .rcases (hf b hb).2.2.2.1 with z|z
  .exact I.ok.noex b o e z
  .exact absurd (zAE (zAr e) (zAD I.ok.bsz z)) (zBC _)
 .rcases zAj.mp (I.stkSub b z) with z|z
  .exact (hf b hb).2.1 z
  .exact (hf b hb).2.2.1 z
 ·
  have e1':(own++cs)[i]?=some x:=hN▸e1;have hi:own.length<=i:=by
   by_cases hi:own.length<=i
   .exact hi
   .unfold EA at e2
    rw[List.getElem?_append_left (by rw[zAS];omega),List.getElem?_replicate,if_pos (by omega)] at e2;cases e2
  rw[zBO hi] at e1';obtain⟨j,ej,en,kx,fx⟩:=hc.at e1';have e2':(σ[j]?).getD none=some v:=by
   unfold EA at e2;rw[zBO (by rw[zAS];omega),zAS,zAx,ej] at e2;exact Option.some.inj e2
  have e2'':σ[j]?=some (some v):=by
   cases z:σ[j]? with
   |none=>rw[z] at e2';cases e2'
   |some o=>rw[z] at e2';exact congrArg some e2'
  obtain⟨m,_,hl'⟩:=I.loc;obtain⟨u,ru,l⟩:=hl' j x v en e2'' (kx.elim (λz=>.inr (.inl z)) λz=>.inr (.inr z));refine⟨u,ru,.inr ⟨Ru fx,?_⟩⟩;rcases l with ⟨k,_⟩|⟨_,c,e,z⟩
  .rcases kx with k'|k' <;> rw[k] at k' <;> cases k'
  .obtain⟨d,hd⟩:=Ge (I9 e scope.names [] (PySem.mem_of_lookup fx))
   have e':=Lr hd;rw[e] at e';cases e';obtain⟨o,ho,dd⟩:=z;exact⟨c,hd,o,hk c o ho,dd⟩
 .obtain⟨v,o,ho,dd⟩:=I.cell x c (Lr e)
  exact⟨v,o,hk c o ho,dd⟩
 .exact absurd (show p∈([]:List (Addr×Obj)) from hp) (by simp)
 .show (EA own.length ix σ).length=NC.length
  rw[hN];unfold EA;rw[zAc,zAc,zAS,zAa,len]
def Yu {NC:List Str} {scope:Scope} {fp:List Addr} {σ':St} {h':Heap} (I:WM X pins σ H s) (hf:∀ b∈fp,Tp X pins H b) (J:WM (N4 X NC scope s H fp) [] σ' H' s') (hs:zBq s.heap.objs.size s'.heap h'):WM X pins σ H' { s' with heap:=h' }:=by
 obtain⟨hh,g,d,t,os⟩:=s';have hos:os=s.os:=J.os;subst hos;have nC:H' s.heap.objs.size=none:=J.free;have un:Un (X5 X.stack) fp H H' s.heap hh:=J.base;have out:∀ b o,s.heap.get? b=some o->b≠s.heap.objs.size:=λb o e=>zAy (zAr e);have un':Un (X5 X.stack) fp H H' s.heap h':=⟨λb o e n hb hx=>(hs.2 b (out b o e)).trans (un.keep b o e n hb hx),λb o e n hb hx=>let ⟨sl,q⟩:=un.slot b o e n hb hx;⟨sl,(hs.2 b (out b o e)).trans q⟩,un.free,
  λb o e hx=>let ⟨o',q⟩:=un.there b o e hx;⟨o',(hs.2 b (out b o e)).trans q⟩,un.tups,un.frzs,un.tbls⟩
 have hok:XJ X.prog X.w H' h':=λb u e=>by
  refine (J.hok b u e).stay (λc v hc q=>(hs.2 c ?_).trans q) (λ_ q=>q) λ_ _ q=>q;rintro rfl;rcases hc with rfl|hc
  .rw[nC] at e;cases e
  .rw[nC] at hc;cases hc
 have q:=WM.call (s:=s) (h':=h') (g':=g) (d':=d) (t':=t) (ch:=fp) I un' hok J.bare λb hb=>⟨(hf b hb).2.2.2.1,(hf b hb).2.1,(hf b hb).2.2.2.2.1,(hf b hb).2.2.2.2.2⟩;exact q
end
def Ys {X:Cx} {elt tg iter:Expr} {ifs:List Expr} {scope:Scope} {pos:Pos} {NC own cs:List Str} {ix:List Nat} {g:TG} {tc:TT} {te:TE} (hc:X.calm=true) (S:WO X.env.scope scope) (hN:NC=own++cs) (hcap:XR X scope cs ix)
  (hg:∀ s3 H3 fp,PG (N4 X NC scope s3 H3 fp) tg g) (ht:∀ s3 H3 fp,RU (N4 X NC scope s3 H3 fp) ifs tc) (he:∀ s3 H3 fp,PE (N4 X NC scope s3 H3 fp) elt te)
  {pins:List (Addr×Obj)} {σ:St} {H2:Hp} {s2:Shared} {it:Addr} {fp:List Addr} {tn:Nat->Heap->Prop} {J:It} (I2:WM X pins σ H2 s2) (T:R5 X.prog X.w X.K tg J fp it tn) (st2:tn 0 s2.heap) (f2:∀ b∈fp,Tp X pins H2 b) {QQ:Addr->Hp->Prop} {E:Value->Shared->Prop}
  {RR:Value->Addr->Result->Shared->Prop}
  (h2:∀ p,H2 p=none->Zt g tc te own.length ix σ J p H2 (QQ p))
  (fin:∀ s3 H3 σ5 H5 s6,WM X pins σ H3 s3->(∀ b∈fp,Tp X pins H3 b)->WM (N4 X NC scope s3 H3 fp) [] σ5 H5 s6->QQ s2.heap.objs.size H5->RR (.ref s2.heap.objs.size) s3.heap.objs.size (.ok .next) s6) :
  wpAny (model X.prog X.w) X.A (newList []) (λacc s3=>wpAny (model X.prog X.w) X.A (newFunctionEnv scope X.env.globals (CK X.env.cells scope.names []) [] X.env.qual none .none (some X.env)) (λcenv s4=>
   codeAny (model X.prog X.w) X.A (.compStart (.ListComp elt [⟨tg,iter,ifs,0⟩] scope pos) 0 (.ref it) acc { cenv with scope:=relabel scope X.env }) (RR acc cenv.locals) s4) E s3) E s2:=by
 have lt2:∀ b∈fp,b<s2.heap.objs.size:=λb hb=>let ⟨_,e,_⟩:=T.obj _ _ st2 b hb;zAr e
 obtain⟨W,⟨m0,w0⟩,turn⟩:=h2 _ I2.fresh;refine wpAny_newObj_type ?_;have I3:WM X pins σ (upd H2 s2.heap.objs.size (.lst [])) { s2 with heap:=s2.heap.push { cls:=.type "list",dict:=none,data:=.seq ([]:List Value).toArray } }:=I2.lnew (t':=s2.toks) .nil (zAB _);have f3:∀ b∈fp,Tp X pins (upd H2 s2.heap.objs.size (.lst [])) b:=λb hb=>⟨by rw[Au (zAy (lt2 b hb))];exact (f2 b hb).1,(f2 b hb).2⟩;have st3:tn 0 (s2.heap.push { cls:=.type "list",dict:=none,data:=.seq ([]:List Value).toArray }):=T.keep _ _ _ st2 λb hb o e=>zAm _ e;have lt3:∀ b∈fp,b<(s2.heap.push { cls:=.type "list",dict:=none,data:=.seq ([]:List Value).toArray }).objs.size:=λb hb=>by rw[zBV];exact Nat.lt_succ_of_lt (lt2 b hb)
 refine wpAny_newFunctionEnv S.cell (λ_ z=>nomatch z) (λh4 hns hsb=>?_) S.kind
 dsimp only at hns hsb ⊢
 have hk4:∀ b o,(s2.heap.push { cls:=.type "list",dict:=none,data:=.seq ([]:List Value).toArray }).get? b=some o->h4.get? b=some o:=λb o e=>
  hsb.extBut b o (zAy (zAr e)) (zAm _ e)
 have J0:=P2 (t4:=s2.toks+([]:List (Str×Value)).length) I3 S hN hcap f3 lt3 hns hk4;have st4:tn 0 h4:=T.keep _ _ _ st3 λb hb o e=>hk4 b o e;have fB:∀ {H':Hp},(∀ b∈fp,H' b=none)->∀ b∈fp,Tp (N4 X NC scope { s2 with heap:=s2.heap.push { cls:=.type "list",dict:=none,data:=.seq ([]:List Value).toArray } } (upd H2 s2.heap.objs.size (.lst [])) fp) [] H' b:=λhn b hb=>by
  refine⟨hn b hb,zAy (lt3 b hb),λz=>?_,.inl hb,λx c e=>(f3 b hb).2.2.2.2.1 x c (Lr e),λp hp=>absurd (show p∈([]:List (Addr×Obj)) from hp) (by simp)⟩;rcases zAj.mp (I3.stkSub b z) with z|z
  .exact (f3 b hb).2.1 z
  .exact (f3 b hb).2.2.1 z
 have loop:∀ s4:Shared,s4={ s2 with heap:=h4,toks:=s2.toks+([]:List (Str×Value)).length } ->
   codeAny (model X.prog X.w) X.A (.compLoop (.ListComp elt [⟨tg,iter,ifs,0⟩] scope pos) 0 (.ref it) (.ref s2.heap.objs.size) (compEnvC scope (CK X.env.cells scope.names []) (s2.heap.push { cls:=.type "list",dict:=none,data:=.seq ([]:List Value).toArray }).objs.size X.env))
    (RR (.ref s2.heap.objs.size) (s2.heap.push { cls:=.type "list",dict:=none,data:=.seq ([]:List Value).toArray }).objs.size) s4:=by
  rintro s4 rfl;refine DZ (λn s'=>∃ i ys σ' H',WM (N4 X NC scope { s2 with heap:=s2.heap.push { cls:=.type "list",dict:=none,data:=.seq ([]:List Value).toArray } } (upd H2 s2.heap.objs.size (.lst [])) fp) [] σ' H' s'/\tn i s'.heap/\(∀ b∈fp,H' b=none)/\W i n ys σ' H') ?_ m0
   ⟨0,[],_,_,J0,st4,λb hb=>(f3 b hb).1,w0⟩
  rintro n s5 ⟨i,ys,σ5,H5,J5,st5,fr5,w5⟩;obtain⟨hp5,alt⟩:=turn i n ys σ5 H5 w5;rcases alt with ⟨stop,qn⟩|⟨go,hz,step⟩
  .refine Dx (T.done (N4 X NC scope _ _ fp) rfl rfl rfl hc i [] s5 σ5 H5 _ J5 (fB fr5) st5 stop) λr s6 ⟨hr,J6⟩=>.inl ⟨hr,?_⟩
   exact fin _ _ _ _ _ I3 f3 J6 qn
  .refine Dx (T.item (N4 X NC scope _ _ fp) rfl rfl rfl hc i [] s5 σ5 H5 _ J5 (fB fr5) st5 go) λr s6 ⟨u,hr,h6⟩=>.inr ⟨u,hr,?_⟩
   refine Dx h6 λ_ s7 h9=>?_;obtain⟨x,H7,J7,r7,y7,st7,fr7⟩:=h9;have J7':=J7.pinned (fB fr7) (T.obj _ _ st7);obtain⟨N,hN',q7⟩:=step x H7 y7;refine Dx (hg _ _ fp _ s7 σ5 H7 x u _ J7' r7 q7) λ_ s8 h9=>?_;obtain⟨σ8,H8,J8,q8⟩:=h9;refine Dx (ht _ _ fp _ s8 σ8 H8 _ J8 q8) λok s9 ⟨H9,J9,q9⟩=>?_;have again:∀ {σa:St} {Ha:Hp} {sa:Shared} {ya:List V} {ma:Nat},WM (N4 X NC scope { s2 with heap:=s2.heap.push { cls:=.type "list",dict:=none,data:=.seq ([]:List Value).toArray } } (upd H2 s2.heap.objs.size (.lst [])) fp) ([]++Ww fp s7.heap) σa Ha sa->ma<n->W (i+1) ma ya σa Ha ->
     ∃ m,m<n/\∃ i ys σ' H',WM (N4 X NC scope { s2 with heap:=s2.heap.push { cls:=.type "list",dict:=none,data:=.seq ([]:List Value).toArray } } (upd H2 s2.heap.objs.size (.lst [])) fp) [] σ' H' sa/\tn i sa.heap/\(∀ b∈fp,H' b=none)/\W i m ys σ' H':=λ{σa Ha sa ya ma} Ja hm wa=>by
    refine⟨ma,hm,i+1,ya,σa,Ha,Ja.unpinned,T.keep _ _ _ st7 λb hb o e=>(Ja.pin (b,o) (zAM _ (zAM _ (La hb e)))).1,λb hb=>?_,wa⟩;obtain⟨o,e,d⟩:=T.obj _ _ st7 b hb;exact (Ja.pin (b,o) (zAM _ (zAM _ (La hb e)))).2.1
   cases ok with
   |false=>
    obtain⟨m',hm,w'⟩:=hN' _ _ _ (show N ys σ8 H9 from q9);exact .inr ⟨rfl,again J9 hm w'⟩
   |true=>
    refine .inl ⟨rfl,Dx (he _ _ fp _ s9 σ8 H9 _ J9 q9) λyv s10 h9=>?_⟩;obtain⟨y,H10,J10,r10,hp10,n10⟩:=h9;obtain⟨m',hm,w'⟩:=hN' _ _ _ n10;refine Dx (Cj _ s10 σ8 H10 (.ref s2.heap.objs.size) [y] (.ref s2.heap.objs.size) [yv] (λ_ Hz=>Hz=upd H10 s2.heap.objs.size (.lst (ys++[y]))) J10 rfl (.cons r10 .nil) ⟨_,ys,y,rfl,rfl,hp10,hz,rfl⟩) λ_ s11 h9=>?_;obtain⟨_,H11,J11,_,e11⟩:=h9;subst e11;exact again J11 hm w'
 exact codeAny_compStart_list (loop _ rfl) (T.self X.A 0 _ _ _ st4 (loop _ rfl))
def Eh {X:Cx} {elt tg iter:Expr} {ifs:List Expr} {scope:Scope} {pos:Pos} {NC own cs:List Str} {ix:List Nat} {wi:TI} {g:TG} {tc:TT} {te:TE} (hc:X.calm=true) (S:WO X.env.scope scope) (hN:NC=own++cs) (hcap:XR X scope cs ix)
  (hi:PI X tg iter wi) (hg:∀ s3 H3 fp,PG (N4 X NC scope s3 H3 fp) tg g) (ht:∀ s3 H3 fp,RU (N4 X NC scope s3 H3 fp) ifs tc) (he:∀ s3 H3 fp,PE (N4 X NC scope s3 H3 fp) elt te)
  (hs:∀ x,foldedSetIterable iter X.env x=pure x:=by intro _;rfl):PE X (.ListComp elt [⟨tg,iter,ifs,0⟩] scope pos) (NE wi g tc te own.length ix):=by
 intro pins s σ H Q I h;rw[eval_ListComp];have has:∀ y∈scope.names,y.2=.free->∃ c,X.env.cells.lookup y.1=some c:=λy hy e=>I.ok.has y.1 (S.free y hy e);refine wpAny_comprehension_free (use:=none) rfl hs (IB has) S.kind S.own (Dx (hi pins s σ H _ I h) λv s1 h1=>Dx h1 λitv s2 h2=>?_);obtain⟨it,fp,tn,J,H2,e,I2,T,st2,f2,h2⟩:=h2;subst e;refine Ys hc S hN hcap hg ht he I2 T st2 f2 (QQ:=λp=>Q (.ref p)) (RR:=λacc C=>compPost (model X.prog X.w) X.A X.xe none (EP X pins σ Q) acc C) h2 λs3 H3 σ5 H5 s6 I3 f3 J6 qn=>?_;obtain⟨m6,hn6,_⟩:=J6.loc;exact⟨m6,hn6,λh7 hs7=>⟨.ref s2.heap.objs.size,H5,Yu I3 f3 J6 hs7,rfl,qn⟩⟩
def Oe {X:Cx} {elt tg iter:Expr} {ifs:List Expr} {scope:Scope} {pos py spos:Pos} {NC own cs:List Str} {ix:List Nat} {wi:TI} {g:TG} {tc:TT} {te:TE} {y:Str} {j:Nat} (hnd:X.N.Nodup) (hj:X.N[j]?=some y) (hy:X.env.scope.names.lookup y=some .local) (hc:X.calm=true) (S:WO X.env.scope scope) (hN:NC=own++cs) (hcap:XR X scope cs ix)
  (hi:PI X tg iter wi) (hg:∀ s3 H3 fp,PG (N4 X NC scope s3 H3 fp) tg g) (ht:∀ s3 H3 fp,RU (N4 X NC scope s3 H3 fp) ifs tc) (he:∀ s3 H3 fp,PE (N4 X NC scope s3 H3 fp) elt te)
  (hsw:swapsWith (.ListComp elt [⟨tg,iter,ifs,0⟩] scope pos) (some (.Name y py)) spos.line X.env=pure true:=by rfl) (hs:∀ x,foldedSetIterable iter X.env x=pure x:=by intro _;rfl) :
  PS X (.Assign [.Name y py] (.ListComp elt [⟨tg,iter,ifs,0⟩] scope pos) spos) (QE (NE wi g tc te own.length ix) (He j)):=by
 intro pins s σ H D I h;rw[exec_Assign_Name_used _ _ _ _ hsw];refine zCd (wpAny_standAt (zCd ?_));show wpAny _ X.A (comprehension (.ListComp elt [⟨tg,iter,ifs,0⟩] scope pos) scope X.env _ (newList []) false (eval iter X.env) (some (assign (.Name y py) X.env)) >>= λ_=>_) _ _ s;have has:∀ y∈scope.names,y.2=.free->∃ c,X.env.cells.lookup y.1=some c:=λy hy e=>I.ok.has y.1 (S.free y hy e);refine zCd (Dx (wpAny_comprehension_free (use:=some (assign (.Name y py) X.env)) (Q:=λ_ s'=>SP X pins D .next s') rfl hs (IB has) S.kind S.own (Dx (hi pins s σ H _ I h) λv s1 h1=>Dx h1 λitv s2 h2=>?_)) λ_ s' hq=>zCe (zCe hq));obtain⟨it,fp,tn,J,H2,e,I2,T,st2,f2,h2⟩:=h2;subst e;refine Ys hc S hN hcap hg ht he I2 T st2 f2 (QQ:=λp H'=>D.nx (σ.set j (some (.ref p))) H') (RR:=λacc C=>compPost (model X.prog X.w) X.A X.xe (some (assign (.Name y py) X.env)) (λ_ s'=>SP X pins D .next s') acc C) h2 λs3 H3 σ5 H5 s6 I3 f3 J6 qn=>?_;obtain⟨m6,hn6,_⟩:=J6.loc;have I6:=Yu I3 f3 J6 (zBq.refl ..);show wpAny _ X.A (assign (.Name y py) X.env (.ref s2.heap.objs.size)) _ _ s6;refine wpAny_assign_Name (Zv (v:=.ref s2.heap.objs.size) I6 hnd hj (.inl hy) rfl (λs7 I7 ⟨a,hs7,ha⟩=>?_) (.inr hy));have hCa:s3.heap.objs.size≠a:=by
  rcases ha with ha|ha
  .rw[ha];exact Ne.symm (zAy I3.lt)
  .obtain⟨v,q⟩:=I3.cell y a ha
   exact Ne.symm (zAy q.lt)
 refine⟨m6,hn6.sameBut hs7 hCa,λh8 hs8=>?_⟩;have nC:H5 s3.heap.objs.size=none:=J6.free;have I8:WM X pins (σ.set j (some (.ref s2.heap.objs.size))) H5 { s7 with heap:=h8,toks:=s7.toks }:=by
  refine I7.turned (it:=s3.heap.objs.size) (λb o hb e=>(hs8.2 b hb).trans e) nC (Ne.symm (zAy I3.lt)) (.inr I3.sz) (λx c e z=>?_) (λp hp z=>?_)
  .obtain⟨v,q⟩:=I3.cell x c e
   exact absurd (z▸q.lt) (zBC _)
  .exact absurd (z▸zAr (I3.pin p hp).1) (zBC _)
 exact⟨_,H5,I8,qn⟩
def Dp {X:Cx}:Oz X (.builtin "isinstance") (λxs H Q=>∃ x c cv t b,xs=[x,c]/\(∀ u,WS c u->u=cv)/\Lw X.K H x t/\zBh X.K t cv=some b/\Q (.bl b) H):=by
 intro pins s σ H xs us Q I r h;obtain⟨x,c,cv,t,b,rfl,hc,ty,e,q⟩:=h;obtain⟨u,z,rfl,rx,rc⟩:=RV r;cases hc z rc;exact EO I rx ty e λtk=>⟨.bl b,H,I.tok tk,rfl,q⟩
def Ow {n:String}:∀ u,WS (.ty n) u->u=.type n:=λ_ h=>h
def Xi {X:Cx} (hc:X.calm=true):Oz X (.builtin "sum") (λxs H Q=>∃ p,∃ ns:List Int,xs=[.ref p]/\WL X.K H p (ns.map V.int)/\Q (.int ns.sum) H):=by
 intro pins s σ H xs us Q I r h;obtain⟨p,ns,rfl,hq,q⟩:=h;obtain⟨u,rfl,rx⟩:=Sg r;cases rx;obtain⟨its,rv,pl,hz⟩:=I.list hq;have hi:IntsAre its ns:=Y1 rv;obtain⟨ys,ey⟩:=hi.allInts.items;have hl:s.heap.IsList p (intItems ys):=ey▸pl.isList;have es:preSum (numAt ys) ys.size=ns.sum:=by
  have e1:=hi.numsOf;have e2:numsOf (intItems ys).toList=ns:=by rw[<- ey];exact e1
  rw[nums_intItems] at e2;rw[preSum_eq,zBJ (by simp),e2]
 refine sum_intListG (I.ok.hd hc) hl λh' tk t' hk=>?_;exact⟨.int ns.sum,H,I.kept hk,⟨t',by rw[es]⟩,q⟩
def Uf:List V->List V->Bool
 |[],[]=>true
 |x::xs,y::ys=>Sq x y&&Uf xs ys
 |_,_=>false
theorem J4:∀ {xs ys:List V},xs.length≠ys.length->Uf xs ys=false
 |[],[],h=>absurd rfl h
 |[],_::_,_=>rfl
 |_::_,[],_=>rfl
 |x::xs,y::ys,h=>by
  unfold Uf;rw[J4 (xs:=xs) (ys:=ys) λe=>h (by rw[zAe,zAe,e]),Bool.and_false]
theorem J1:∀ {xs ys:List V},xs.length=ys.length->∀ e:Nat->Bool,(∀ j x y,xs[j]?=some x->ys[j]?=some y->e j=Sq x y)->(zAO xs.length).all e=Uf xs ys
 |[],[],_,_,_=>rfl
 |[],_::_,h,_,_=>by simp at h
 |_::_,[],h,_,_=>by simp at h
 |x::xs,y::ys,h,e,he=>by
  have ih:=J1 (xs:=xs) (ys:=ys) (by simpa using h) (λj=>e (j+1)) λj a b ha hb=>he (j+1) a b (by simpa using ha) (by simpa using hb);unfold Uf;rw[zAe,List.range_succ_eq_map,zBZ,List.all_map,he 0 x y rfl rfl,<- ih];rfl
theorem M6:∀ (ns ms:List Int),Uf (ns.map V.int) (ms.map V.int)=decide (ns=ms)
 |[],[]=>rfl
 |[],_::_=>rfl
 |_::_,[]=>rfl
 |n::ns,m::ms=>by
  rw[zAv,zAv];unfold Uf;rw[M6 ns ms];show ((n==m)&&_)=_;by_cases e:n=m
  .by_cases e':ns=ms
   .simp [e,e']
   .simp [e,e']
  .simp [e]
def BS (its js:List Value) (xs ys:List V) (j:Nat):Bool:=match xs[j]?,ys[j]? with
 |some x,some y=>Sq x y
 |_,_=>true
def U7 {X:Cx} {pins:List (Addr×Obj)} {s:Shared} {σ:St} {H:Hp} {A:Around} {xs ys:List V} {its js:List Value} (r1:WR xs its) (r2:WR ys js) (f1:xs.all Ff=true) (f2:ys.all Ff=true) (hl:xs.length=ys.length) :
  ∀ j (h1:j<its.toArray.size) (h2:j<js.toArray.size),SeqAt.EqAt A s its.toArray[j] js.toArray[j] (BS its js xs ys j):=λj h1 h2=>by
 have l1:=r1.length;have l2:=r2.length;rw[zAh] at h1 h2;have e1:xs[j]?=some xs[j]:=zAg (by omega);have e2:ys[j]?=some ys[j]:=zAg (by omega);obtain⟨u,hu,ru⟩:=r1.get e1;obtain⟨v,hv,rv⟩:=r2.get e2;have eu:its.toArray[j]=u:=by rw[zBM];exact (zAu.mp hu).2
 have ev:js.toArray[j]=v:=by rw[zBM];exact (zAu.mp hv).2
 rw[eu,ev];unfold BS;rw[e1,e2];exact W2 ru rv (zBG.mp f1 _ (zBn _)) (zBG.mp f2 _ (zBn _))
def RD (K:zAb) (neg:Bool):R2:=λx y H Q=>∃ a b xs ys,x=.ref a/\y=.ref b/\WL K H a xs/\WL K H b ys/\xs.all Ff=true/\ys.all Ff=true/\Q (.bl (if neg then !Uf xs ys else Uf xs ys)) H
def IF {X:Cx} (hu:X.A.units<cLine):Pa X (compareOp .Eq) (RD X.K false):=by
 intro pins s σ H x y v u Q I rx ry h;obtain⟨a,b,xs,ys,rfl,rfl,h1,h2,f1,f2,q⟩:=h;cases rx;cases ry;obtain⟨its,r1,p1,z1⟩:=I.list h1;obtain⟨js,r2,p2,z2⟩:=I.list h2;have l1:=r1.length;have l2:=r2.length;by_cases hl:xs.length=ys.length
 .refine SeqAt.eq_listAt p1.isList p2.isList (by rw[zAh,zAh];lia) hu (U7 (X:=X) (pins:=pins) (σ:=σ) (H:=H) r1 r2 f1 f2 hl) ?_
  refine⟨.bl (Uf xs ys),H,I,?_,q⟩;show Value.bool _=Value.bool _;rw[zAh,<- l1,J1 hl];intro j x y e1 e2;unfold BS;rw[e1,e2]
 .refine SeqAt.eq_list_lengthsAt p1.isList p2.isList (by simp only [zAh,bne_iff_ne,ne_eq];lia) hu ?_
  exact⟨.bl (Uf xs ys),H,I,by rw[J4 hl];rfl,q⟩
def Mp {X:Cx} (hu:X.A.units<cLine):Pa X (compareOp .NotEq) (RD X.K true):=by
 intro pins s σ H x y v u Q I rx ry h;obtain⟨a,b,xs,ys,rfl,rfl,h1,h2,f1,f2,q⟩:=h;cases rx;cases ry;obtain⟨its,r1,p1,z1⟩:=I.list h1;obtain⟨js,r2,p2,z2⟩:=I.list h2;have l1:=r1.length;have l2:=r2.length;by_cases hl:xs.length=ys.length
 .refine (SeqAt.RcNeAt.lists p1.isList p2.isList (by rw[zAh,zAh];lia) hu (U7 (X:=X) (pins:=pins) (σ:=σ) (H:=H) r1 r2 f1 f2 hl):SeqAt.RcNeAt X.A s _ _ _) X.prog X.w _ _ ?_
  refine⟨.bl (!Uf xs ys),H,I,?_,q⟩;show Value.bool _=Value.bool _;rw[zAh,<- l1,J1 hl];intro j x y e1 e2;unfold BS;rw[e1,e2]
 .refine (SeqAt.RcNeAt.lists_lengths p1.isList p2.isList (by simp only [zAh,bne_iff_ne,ne_eq];lia) hu:SeqAt.RcNeAt X.A s _ _ _) X.prog X.w _ _ ?_
  exact⟨.bl (!Uf xs ys),H,I,by rw[J4 hl];rfl,q⟩
abbrev Fv (ix:List Nat) (σ:St):St:=ix.map λj=>(σ[j]?).getD none
def Qi {lo:Int} {n:Nat} {tc:TT} {te:TE} {σ:St} {ix:List Nat} {QQ:Hp->Prop} {H1:Hp} {p:Addr} (Pv:Nat->List V->Hp->Prop) (h0:Pv 0 [] (upd H1 p (.lst [])))
  (hp:∀ i ys H,i<=n->Pv i ys H->H p=some (.lst ys)/\ys.length<=i) (hn:n<=sizeLine)
  (hs:∀ i ys H,i<n->Pv i ys H->tc (some (.int (lo+i))::Fv ix σ) H λb H5=>if b=true then te (some (.int (lo+i))::Fv ix σ) H5 λy H6=>H6 p=some (.lst ys) /\
   (some (.int (lo+i))::Fv ix σ)=(some (.int (lo+i))::Fv ix σ)/\Pv (i+1) (ys++[y]) (upd H6 p (.lst (ys++[y]))) else (some (.int (lo+i))::Fv ix σ)=(some (.int (lo+i))::Fv ix σ)/\Pv (i+1) ys H5)
  (hd:∀ ys H,Pv n ys H->QQ H) :
  Zt (He 0) tc te 1 ix σ (OT lo n) p H1 QQ:=by
 refine⟨λi m ys σ2 H2=>m=n-i/\i<=n/\(∃ o,σ2=o::Fv ix σ)/\Pv i ys H2,⟨n,by simp,zAB _,⟨none,rfl⟩,h0⟩,?_⟩;rintro i m ys σ2 H2 ⟨rfl,hi,⟨o,rfl⟩,pv⟩;obtain⟨hp2,hl2⟩:=hp i ys H2 hi pv;refine⟨hp2,?_⟩;by_cases hlt:i<n
 .refine .inr ⟨hlt,by lia,λx H3 y=>?_⟩
  obtain⟨e,y⟩:=y;subst e y;exact⟨λys' σ' H'=>σ'=(some (.int (lo+i))::Fv ix σ)/\Pv (i+1) ys' H',λys' σ' H' ⟨e,q⟩=>⟨n-(i+1),by lia,rfl,hlt,⟨_,e⟩,q⟩,hs i ys _ hlt pv⟩
 .have e:i=n:=by lia
  subst e;exact .inl ⟨zAn _,hd ys H2 pv⟩
def De {K:zAb} {a:Addr} {xs:List V} {tc:TT} {te:TE} {σ:St} {ix:List Nat} {QQ:Hp->Prop} {H1:Hp} {p:Addr} (Pv:Nat->List V->Hp->Prop) (h0:Pv 0 [] (upd H1 p (.lst [])))
  (hp:∀ i ys H,i<=xs.length->Pv i ys H->H p=some (.lst ys)/\ys.length<=i/\WL K H a xs) (hn:xs.length<=sizeLine)
  (hs:∀ i x ys H,xs[i]?=some x->Pv i ys H->tc (some x::Fv ix σ) H λb H5=>if b=true then te (some x::Fv ix σ) H5 λy H6=>H6 p=some (.lst ys) /\
   (some x::Fv ix σ)=(some x::Fv ix σ)/\Pv (i+1) (ys++[y]) (upd H6 p (.lst (ys++[y]))) else (some x::Fv ix σ)=(some x::Fv ix σ)/\Pv (i+1) ys H5)
  (hd:∀ ys H,Pv xs.length ys H->QQ H) :
  Zt (He 0) tc te 1 ix σ (NY K a) p H1 QQ:=by
 refine⟨λi m ys σ2 H2=>m=xs.length-i/\i<=xs.length/\(∃ o,σ2=o::Fv ix σ)/\Pv i ys H2,⟨xs.length,by simp,zAB _,⟨none,rfl⟩,h0⟩,?_⟩;rintro i m ys σ2 H2 ⟨rfl,hi,⟨o,rfl⟩,pv⟩;obtain⟨hp2,hl2,hq2⟩:=hp i ys H2 hi pv;refine⟨hp2,?_⟩;by_cases hlt:i<xs.length
 .refine .inr ⟨⟨xs,xs[i],hq2,by simp [hlt]⟩,by lia,λx H3 y=>?_⟩
  obtain⟨e,y⟩:=y;subst e;exact⟨λys' σ' H'=>σ'=(some x::Fv ix σ)/\Pv (i+1) ys' H',λys' σ' H' ⟨e,q⟩=>⟨xs.length-(i+1),by lia,rfl,hlt,⟨_,e⟩,q⟩,hs i x ys _ (y xs hq2) pv⟩
 .have e:i=xs.length:=by lia
  subst e;exact .inl ⟨⟨xs,hq2,zAn _⟩,hd ys H2 pv⟩
structure Cy (P:Program) (w:World) (K:zAb) (mg:Str->Option Value) (base:Heap) (k:Nat) (x:Str) (ps:List Str) (sp:Sp):Prop where
 ex:∃ f fd,WN P w K mg base Do k f fd ps sp/\XB K fd ps []/\zAJ K (.ref f)=true/\mg x=some (.ref f)
def Az {X:Cx} {k:Nat} {x:Str} {ps:List Str} {sp:Sp} {e:Expr} {es:List Expr} {p pos:Pos} {t:TA} (C:Cy X.prog X.w X.K X.mg X.base k x ps sp) (hr:XA k X.A) (hg:Gl X x) (ha:PA X (e::es) t)
  (hdb:(x==("__debug__" : Str))=false:=by decide) (he:starEach (e::es) X.env=(false,eval e X.env)::starEach es X.env:=by rfl) (hpl:(backTo pos (starEach es X.env)).any (·.1)=false:=by rfl) :
  PE X (.Call (.Name x p) (e::es) [] pos) (EX sp [] E0 t):=by
 obtain⟨f,fd,F,b,kp,hm⟩:=C.ex;exact LX F hr hg hm kp b .nil Zn ha hdb he hpl
structure YQ (K:zAb) (mg:Str->Option Value) (x:Str) (st:Stmt) (ps:List Str):Prop where
 ex:∃ f fd,WV K x x st f fd/\XB K fd ps []/\mg x=some (.ref f)
def YQ.cal {P:Program} {w:World} {K:zAb} {mg:Str->Option Value} {base:Heap} {k:Nat} {x:Str} {st:Stmt} {ps:List Str} {sp:Sp} (D:YQ K mg x st ps) (h:∀ f fd,WV K x x st f fd->WN P w K mg base Do k f fd ps sp):Cy P w K mg base k x ps sp:=by
 obtain⟨f,fd,F,b,m⟩:=D.ex;exact⟨f,fd,h f fd F,b,F.kp,m⟩
def Mw (mg:Str->Option Value) (x:Str) (i:Int):Prop:=∃ t,mg x=some (.int i t)
def LS (mg:Str->Option Value) (x:Str) (z:Str):Prop:=∃ t,mg x=some (.str z t)
def Dv {X:Cx} {x:Str} {i:Int} {pos:Pos} (h:Mw X.mg x i) (hg:Gl X x) (hd:(x==("__debug__" : Str))=false:=by decide):PE X (.Name x pos) (tC (.int i)):=by
 obtain⟨t,e⟩:=h;exact B8 hg e ⟨t,rfl⟩ hd
def E9 {X:Cx} {x:Str} {i:Str} {pos:Pos} (h:LS X.mg x i) (hg:Gl X x) (hd:(x==("__debug__" : Str))=false:=by decide):PE X (.Name x pos) (tC (.str i)):=by
 obtain⟨t,e⟩:=h;exact B8 hg e ⟨t,rfl⟩ hd
def Oy {X:Cx} {x:Str} {pos:Pos} (T:String) (hg:Gl X x) (hm:X.mg x=none) (hv:zCg x=some (.type T)) (hn:x ≠ "__name__":=by decide) (hd:(x==("__debug__" : Str))=false:=by decide):PE X (.Name x pos) (tC (.ty T)):=
 LJ (v:=.ty T) hg hm hv rfl hn hd
def P3 {X:Cx} {K:zAb} (h:X.K=K):QI X (SK K):=h▸Bt
def Ap {H:Hp} {p:Addr} (h:H p=none) (o:HO):WJ H (upd H p o):=λb u q=>by rw[Au (Ak q h)];exact q
def Gv {n:Nat} (h:n<=1000):n<=sizeLine:=Nat.le_of_lt (CY h)
def GZ {ns:List Int} {i:Nat} {n:Int} (h:ns[i]?=some n):Nx (ns.map V.int) (i:Int)=some (.int n):=Fd (by rw[zAx,h];rfl)
def Jp {ns:List Int} {i:Int} (h0:0<=i) (h:i<ns.length):Nx (ns.map V.int) i=some (.int (ns.getD i.toNat 0)):=by
 have e:((i.toNat:Nat):Int)=i:=by lia
 have q:=GZ (ns:=ns) (i:=i.toNat) (n:=ns.getD i.toNat 0) (by rw[zAg (by lia),zAT,zAg (by lia)];rfl);rw[e] at q;exact q
def R9 {ns:List Int} {i:Nat} {y:V} (h:(ns.map V.int)[i]?=some y):∃ n,ns[i]?=some n/\y=.int n:=by
 rw[zAx] at h;cases e:ns[i]? with
 |none=>rw[e] at h;cases h
 |some n=>rw[e] at h;exact⟨n,rfl,(Option.some.inj h).symm⟩
def RI {n:Nat} {k:Int} (h0:0<=k) (h:k<n):HM n k=some k.toNat:=by
 unfold HM
 first
  |(rw[if_pos h0,if_pos h];done)
  |(simp [h0,h];done)
  |(simp [h0,h];lia)
def Y8 {k:Nat} {A:Around} (hr:XA k A):A.units<cLine:=hr.units0
example:zCg "int"=some (.type "int"):=by rfl
def RE (K:zAb) (a:Addr):It:=
 ⟨λi H=>∃ xs x,WL K H a xs/\xs[i]?=some x,
   λi H x H'=>∃ t y,x=.ref t/\H t=none/\(∀ xs,WL K H a xs->xs[i]?=some y)/\H'=upd H t (.tup [.int i,y]),
   λi H=>∃ xs,WL K H a xs/\xs.length<=i⟩
def DS {P:Program} {w:World} {K:zAb} {elts:List Expr} {k:Nat} {tp:Pos} (a e it:Addr) (hei:e≠it) :
  R5 P w K (.Tuple elts k tp) (RE K a) [e,it] e (λi h=>(∃ old,IsEnum h e it i old)/\h.IsListIter it a i) where
 mem:=by simp
 obj:=λi h st b hb=>by
  obtain⟨⟨old,he⟩,o,ho,c,d⟩:=st;rcases zAj.mp hb with rfl|hb
  .exact⟨_,he,λv z=>by
    have z':Data.fields _=Data.cell v:=z;cases z'⟩
  .have eb:b=it:=by simpa using hb
   subst eb;exact⟨o,ho,λv z=>by rw[d] at z;cases z⟩
 keep:=λi h h' st kk=>by
  obtain⟨⟨old,he⟩,hit⟩:=st;exact⟨⟨old,kk e (by simp) _ he⟩,hit.at λo x=>kk it (by simp) o x⟩
 item:=by
  intro X hP hw hK hc i pins s σ H E I hf st hg;subst hP hw hK;obtain⟨⟨old,he⟩,hit⟩:=st;obtain⟨xs,x,hq,hx⟩:=hg;obtain⟨its,rv,p,hz⟩:=I.list hq;obtain⟨u,hu,ru⟩:=rv.get hx;obtain⟨e0,e1,e2,e3,e4,e5⟩:=hf e (by simp);obtain⟨i0,i1,i2,i3,i4,i5⟩:=hf it (by simp);refine wpAny_pyNext_enum_item he hit p.isList (x:=u) (by simpa using hu) hei λh1 ho hit1 hT hsz hk=>⟨_,rfl,?_⟩;refine wpAny_letOwnedTupleGo_enum ho λh2 he2 hs2=>?_;have hs2':zBq e h1 h2:=hs2;have helt:e<s.heap.objs.size:=zAr he;have hnT:H s.heap.objs.size=none:=I.hok.fresh (zAn _);have up:∀ b o,b≠e->b≠it->s.heap.get? b=some o->h2.get? b=some o:=λb o h3 h4 q=>(hs2'.2 b h3).trans (hk b o h3 h4 q);have nch:∀ b,b∉[e,it]->b≠e/\b≠it:=λb hb=>⟨λz=>hb (by simp [z]),λz=>hb (by simp [z])⟩;have ntr:∀ b o,H b=some o->b≠e/\b≠it:=λb o q=>⟨λz=>by (rw[z,e0] at q;cases q),λz=>by (rw[z,i0] at q;cases q)⟩;have htup:h2.get? s.heap.objs.size=some { cls:=.type "tuple",data:=.seq #[.int i s.toks,u] }:=(hs2'.2 _ (zBr helt)).trans hT;have I1:WM X pins σ (upd H s.heap.objs.size (.tup [.int i,x])) { s with heap:=h2,gens:=s.gens,drawn:=s.drawn,toks:=s.toks+1 }:=by
   refine I.step (ch:=[e,it]) (λb hb=>?_) (λb o _ _ hb q _=>up b o (nch b hb).1 (nch b hb).2 q) (λb o _ _ hb q _=>⟨o.slots,up b o (nch b hb).1 (nch b hb).2 q⟩) (λb o _ q n=>by rw[Au (zAy (zAr q))];exact n)
    (λb o hb q=>⟨o,up b o (nch b hb).1 (nch b hb).2 q⟩) (λb xs q=>by rw[Au (Ak q hnT)];exact q) (λb o u q=>by rw[Au (Ak q hnT)];exact q) (λb ps q=>⟨#[],by rw[Au (Ak q hnT),q];simp⟩)
    (λm hm=>?_) (λb o q=>?_) I.bare
   .rcases zAj.mp hb with rfl|hb
    .exact⟨e3,e1,e4,e5⟩
    .have eb:b=it:=by simpa using hb
     subst eb;exact⟨i3,i1,i4,i5⟩
   .obtain⟨o,es,ep,hoL,r⟩:=hm
    exact⟨o,es,ep,up _ o (Ne.symm e1) (Ne.symm i1) hoL,r⟩
   .by_cases hb:b=s.heap.objs.size
    .subst hb
     rw[Ac] at q;cases q;exact⟨Gv (by show 2<=1000;decide),[.int i s.toks,u],.cons ⟨_,rfl⟩ (.cons ru .nil),_,htup,rfl,_,rfl⟩
    .rw[Au hb] at q
     refine (I.hok b o q).stay (λc v hc2 q2=>?_) (λc q2=>by rw[Au (Ak q2 hnT)];exact q2) (λc xs q2=>by rw[Au (Ak q2 hnT)];exact q2);rcases hc2 with rfl|hc2
     .exact up _ v (ntr _ _ q).1 (ntr _ _ q).2 q2
     .exact up _ v (ntr _ _ hc2).1 (ntr _ _ hc2).2 q2
  refine⟨.ref s.heap.objs.size,_,I1,rfl,⟨_,x,rfl,hnT,λys hy=>by rw[I.list_inj hy hq];exact hx,rfl⟩,⟨⟨u,?_⟩,?_⟩,λb hb=>?_⟩
  .have ei:((i+1:Nat):Int)=(i:Int)+1:=by lia
   rw[ei];exact he2
  .exact hit1.at λo q=>(hs2'.2 it hei.symm).trans q
  .have hbl:b<s.heap.objs.size:=by
    rcases zAj.mp hb with rfl|hb
    .exact helt
    .have eb:b=it:=by simpa using hb
     subst eb;obtain⟨o,q,_⟩:=hit;exact zAr q
   rw[Au (zAy hbl)];exact (hf b hb).1
 done:=by
  intro X hP hw hK hc i pins s σ H E I hf st hg;subst hP hw hK;obtain⟨⟨old,he⟩,hit⟩:=st;obtain⟨xs,hq,hx⟩:=hg;obtain⟨its,rv,p,hz⟩:=I.list hq;obtain⟨i0,i1,i2,i3,i4,i5⟩:=hf it (by simp);have hl:=rv.length;exact wpAny_pyNext_enum_end (I.ok.hd hc) he hit p.isList (by simp;lia) λh' eb=>⟨rfl,I.turned (t':=s.toks) (λb o hb q=>eb b o hb q) i0 i1 i3 i4 i5⟩
 self:=λ_ _ _ _ _ st h=>by
  obtain⟨⟨old,he⟩,_⟩:=st;exact wpAny_pyIter_enum he h
def QN (K:zAb) (ta:TA):TI:=λσ H R=>ta σ H λvs H1=>∃ a,vs=[.ref a]/\(∃ xs,WL K H1 a xs)/\R (RE K a) H1
def C0 {X:Cx} {a:Expr} {ta:TA} {p pos tp:Pos} {elts:List Expr} {k:Nat} (hg:Gl X "enumerate") (hm:X.mg "enumerate"=none) (ha:PA X [a] ta) (hs:starEach [a] X.env=[(false,eval a X.env)]:=by rfl) :
  PI X (.Tuple elts k tp) (.Call (.Name "enumerate" p) [a] [] pos) (QN X.K ta):=by
 intro pins s σ H R I h;refine Call_ (My I hg hm (show zCg "enumerate"=some (.type "enumerate") from rfl) (PyProof.Rows.callWith_type1 (Dx (ha pos pins s σ H _ I h) λus s1 h9=>?_) hs rfl));obtain⟨vs,H1,I1,r1,q1⟩:=h9;obtain⟨a,ev,⟨xs,hq⟩,q⟩:=q1;subst ev;obtain⟨u,rfl,rx⟩:=Sg r1;cases rx;obtain⟨its,rv,pl,hz⟩:=I1.list hq;refine call_enumerate_list pl.isList λh' he hit hsz hk=>?_;refine wpAny_pyIter_enum he ?_;have I2:WM X pins σ H1 { s1 with heap:=h' }:=I1.kept (t':=s1.toks) hk;refine⟨_,[s1.heap.objs.size+1,s1.heap.objs.size],_,_,H1,rfl,I2,DS a _ _ (Nat.succ_ne_self _),⟨⟨_,he⟩,hit⟩,λb hb=>?_,q⟩;rcases zAj.mp hb with rfl|hb
 .exact I1.fpOk (zBY _) (I1.hok.fresh (zBY _))
 .have eb:b=s1.heap.objs.size:=by simpa using hb
  subst eb;exact I1.fpOk (zAn _) (I1.hok.fresh (zAn _))
def A2 {X:Cx} {K:zAb} {es:List Expr} {k:Nat} {t:NA} {n:Nat} {pos:Pos} (hK:X.K=K) (hc:X.calm=true) (h:QZ X es t)
  (hn:(assignEach es X.env).length=n:=by rfl) (hst:(assignEach es X.env).findIdx? (·.1)=none:=by rfl):PG X (.Tuple es k pos) (EG K n t):=hK▸Js hc h hn hst
structure Ec (P:Program) (w:World) (K:zAb) (mg:Str->Option Value) (base:Heap) (k:Nat) (C:Addr) (m:Str) (ps:List Str) (sp:Sp):Prop where
 ex:∃ f fd,WN P w K mg base Do k f fd ps sp/\XB K fd ps []/\Fa K C m f
 cl:XI K C
def Nm {X:Cx} {k:Nat} {C:Addr} {m:Str} {ps:List Str} {sp:Sp} {e o:Expr} {es:List Expr} {apos pos:Pos} {ta:TE} {t:TA} {pl:Sem Bool} (M:Ec X.prog X.w X.K X.mg X.base k C m ps sp) (hr:XA k X.A) (he:PE X o ta) (ha:PA X (e::es) t)
  (hst:starEach (e::es) X.env=(false,eval e X.env)::starEach es X.env:=by rfl) (hpl:(backTo pos (starEach es X.env)).any (·.1)=false:=by rfl)
  (ht:eval (.Call (.Attribute o m apos) (e::es) [] pos) X.env=(do
   let ov <- eval o X.env
   standAt apos.atName
   let (f,first) <- holding [ov] (getMethod ov m pl)
   callWith pos f first (backTo pos (starEach (e::es) X.env)) (backToKw pos (keywordEach [] X.env))):=by rfl) :
  PE X (.Call (.Attribute o m apos) (e::es) [] pos) (BY C m sp [] E0 ta t):=by
 obtain⟨f,fd,F,b,hm⟩:=M.ex;exact LU he M.cl hm F hr b .nil Zn ha hst hpl ht
structure Gb (P:Program) (w:World) (K:zAb) (mg:Str->Option Value) (base:Heap) (k:Nat) (x:Str) (C:Addr) (ps:List Str) (sp:Sp):Prop where
 ex:∃ f fd,Mk K C f/\WN P w K mg base Do k f fd ps sp/\XB K fd ps []/\mg x=some (.ref C)
def Ed {X:Cx} {k:Nat} {x:Str} {C:Addr} {ps:List Str} {sp:Sp} {e:Expr} {es:List Expr} {p pos:Pos} {t:TA} (M:Gb X.prog X.w X.K X.mg X.base k x C ps sp) (hr:XA (k+1) X.A) (hg:Gl X x) (ha:PA X (e::es) t)
  (hdb:(x==("__debug__" : Str))=false:=by decide) (he:starEach (e::es) X.env=(false,eval e X.env)::starEach es X.env:=by rfl) (hpl:(backTo pos (starEach es X.env)).any (·.1)=false:=by rfl) :
  PE X (.Call (.Name x p) (e::es) [] pos) (MU C sp [] E0 t):=by
 obtain⟨f,fd,mk,F,b,hm⟩:=M.ex;exact KF mk F hr hg hm b .nil Zn ha hdb he hpl
def Ka {X:Cx} {K:zAb} {o e:Expr} {es:List Expr} {to:TE} {t:TA} {name:Str} {apos cpos:Pos} {T id:String} {r:V->List V->Hp->VK->Prop} (hK:X.K=K) (pa:PlainAttrs T) (slot:Slot T name id) (hty:typeOf (.builtin id)=pure (.type "method_descriptor")) (hm:UR X id r) (ho:PE X o to) (ha:PA X (e::es) t)
  (hbase:attributeBase o name X.env (eval o X.env)=eval o X.env:=by rfl)
  (hfew:((backTo cpos (starEach (e::es) X.env)).all (λx => !x.1)&&(backToKw cpos (keywordEach [] X.env)).all (λx=>x.1.isSome)
   && decide ((e::es).length+([]:List Keyword).length+(if ([]:List Keyword).isEmpty then 0 else 1)<30))=true:=by rfl)
  (hline:(apos.endLine==cpos.line)=true:=by rfl) (hs:starEach (e::es) X.env=(false,eval e X.env)::starEach es X.env:=by rfl) (hplain:(backTo cpos (starEach es X.env)).any (·.1)=false:=by rfl) :
  PE X (.Call (.Attribute o name apos) (e::es) [] cpos) (VP K T r to t):=hK▸Dy pa slot hty hm ho ha hbase hfew hline hs hplain
def YI (h:Heap) (e:Addr) (c:Value) (d:Option Addr) (ctx:Value) (fx:Addr->Prop):Prop:=
 ∃ oe vs,h.get? e=some oe/\oe.cls=c/\oe.dict=d/\oe.data=.fields vs/\1<vs.size/\vs[2]?=some ctx/\fx e /\
  (vs[1]?=some .none\/∃ T oT ts,vs[1]?=some (.ref T)/\T≠e/\h.get? T=some oT/\oT.data=.fields ts/\ts[3]?=some .none/\fx T)
def YI.imp {h:Heap} {e:Addr} {c:Value} {d:Option Addr} {ctx:Value} {fx fy:Addr->Prop} (x:YI h e c d ctx fx) (f:∀ b,fx b->fy b):YI h e c d ctx fy:=by
 obtain⟨oe,vs,he,hc,hdd,hd,hz,h2,fe,ht⟩:=x;refine⟨oe,vs,he,hc,hdd,hd,hz,h2,f _ fe,?_⟩;rcases ht with h1|⟨T,oT,ts,h1,hTe,hT,hdT,h3,fT⟩
 .exact .inl h1
 .exact .inr ⟨T,oT,ts,h1,hTe,hT,hdT,h3,f _ fT⟩
def YI.there {h:Heap} {e:Addr} {c:Value} {d:Option Addr} {ctx:Value} {fx:Addr->Prop} (x:YI h e c d ctx fx):∃ oe vs,h.get? e=some oe/\oe.cls=c/\oe.dict=d/\oe.data=.fields vs:=
 let ⟨oe,vs,he,hc,hdd,hd,_⟩:=x
 ⟨oe,vs,he,hc,hdd,hd⟩
def XW (X:Cx) (pins:List (Addr×Obj)) (H:Hp) (b:Addr):Prop:=
 H b=none/\b≠X.env.locals/\b∉X.fs/\(b∈X.ex\/X.s₀.heap.get? b=none)/\(∀ x c,X.env.cells.lookup x=some c->c≠b)/\∀ p∈X.pn++pins,p.1≠b
section
variable {X:Cx} {pins:List (Addr×Obj)} {σ:St} {H H':Hp} {s:Shared} {h':Heap}
def WM.fxOk {b:Addr} (I:WM X pins σ H s) (hb:s.heap.get? b=none) (hn:H' b=none):XW X pins H' b:=by
 have no:∀ {a:Addr} {o:Obj},s.heap.get? a=some o->a≠b:=λ{a o} q z=>by rw[z,hb] at q;cases q
 refine⟨hn,λz=>?_,λz=>?_,?_,λx c e=>?_,λp hp=>no (I.pin p hp).1⟩
 .obtain⟨m,⟨o,es,ep,ho,_⟩,_⟩:=I.loc
  exact no ho z.symm
 .obtain⟨_,o,ho,_⟩:=I.ok.funs.mem z
  have n1:b∉X.ex:=λy=>I.ok.exfs b y z;obtain⟨o',e'⟩:=I.base.there b o ho n1;exact no e' rfl
 .by_cases hx:b∈X.ex
  .exact .inl hx
  .refine .inr ?_
   cases q:X.s₀.heap.get? b with
   |none=>rfl
   |some o=>
    obtain⟨o',e'⟩:=I.base.there b o q hx;exact absurd rfl (no e')
 .obtain⟨v,o,ho,_⟩:=I.cell x c e
  exact no ho
def WM.stepN {g':Array GenState} {t':Nat} {d':Drawn} {ch:List Addr} (I:WM X pins σ H s)
  (hch:∀ b∈ch,(b∈X.ex\/X.s₀.heap.get? b=none)/\b≠X.env.locals/\(∀ x c,X.env.cells.lookup x=some c->c≠b)/\∀ p∈X.pn++pins,p.1≠b)
  (keep:∀ b o,b≠X.env.locals->b∉X.fs->b∉ch->s.heap.get? b=some o->H b=none->h'.get? b=some o)
  (slot:∀ b o,b≠X.env.locals->b∈X.fs->b∉ch->s.heap.get? b=some o->H b=none->∃ sl,h'.get? b=some { o with slots:=sl }) (free:∀ b o,b∉ch->s.heap.get? b=some o->H b=none->H' b=none)
  (there:∀ b o,b∉ch->s.heap.get? b=some o->∃ o',h'.get? b=some o')
  (tups:∀ b xs,H b=some (.tup xs)->H' b=some (.tup xs)) (frzs:∀ b o u,H b=some (.frz o u)->H' b=some (.frz o u)) (tbls:∀ b ps,H b=some (.tbl ps)->∃ more,H' b=some (.tbl (ps++more)))
  (ns:∀ m,s.heap.Ns X.env.locals m->h'.Ns X.env.locals m) (hok:XJ X.prog X.w H' h') (hg:AllBare g') :
  WM X pins σ H' { s with heap:=h',gens:=g',drawn:=d',toks:=t' }:=by
 have neL:∀ b o,X.s₀.heap.get? b=some o->b≠X.env.locals:=λb o e=>zAy (zAE (zAr e) I.ok.above);have neC:∀ b o,X.s₀.heap.get? b=some o->b∉X.ex->b∉ch:=λb o e hx hb=>by
  rcases (hch b hb).1 with z|z
  .exact hx z
  .rw[e] at z;cases z
 have cellK:∀ x c,X.env.cells.lookup x=some c->∀ v,s.heap.IsCell c v->h'.IsCell c v:=λx c e v ⟨o,ho,hd⟩=>by
  have nch:c∉ch:=λz=>(hch c z).2.2.1 x c e rfl;by_cases hc:c∈X.fs
  .obtain⟨sl,q⟩:=slot c o (I.cne x c e) hc nch ho (I.freeC x c e)
   exact⟨_,q,hd⟩
  .exact⟨o,keep c o (I.cne x c e) hc nch ho (I.freeC x c e),hd⟩
 refine⟨I.ok,I.os,hg,⟨λb o e n hb hx=>?_,λb o e n hb hx=>?_,λb o e n hx=>?_,λb o e hx=>?_,λb xs e=>tups b xs (I.base.tups b xs e),λb o xs e=>frzs b o xs (I.base.frzs b o xs e),λb ps e=>?_⟩,?_,λx c e=>?_,?_,λx c e=>?_,λp hp=>?_,hok,I.len⟩
 .exact keep b o (neL b o e) hb (neC b o e hx) (I.base.keep b o e n hb hx) (I.base.free b o e n hx)
 .obtain⟨sl,e1⟩:=I.base.slot b o e n hb hx
  obtain⟨sl',e2⟩:=slot b _ (neL b o e) hb (neC b o e hx) e1 (I.base.free b o e n hx);exact⟨sl',e2⟩
 .obtain⟨o',e1⟩:=I.base.there b o e hx
  exact free b o' (neC b o e hx) e1 (I.base.free b o e n hx)
 .obtain⟨o',e1⟩:=I.base.there b o e hx
  exact there b o' (neC b o e hx) e1
 .obtain⟨m1,e1⟩:=I.base.tbls b ps e
  obtain⟨m2,e2⟩:=tbls b _ e1;exact⟨m1++m2,by rw[e2,Array.append_assoc]⟩
 .obtain⟨m,hn,hl⟩:=I.loc
  refine⟨m,ns m hn,λi x v e1 e2 e3=>?_⟩;obtain⟨u,r,l⟩:=hl i x v e1 e2 e3;refine⟨u,r,?_⟩;rcases l with l|⟨k,c,e,z⟩
  .exact .inl l
  .exact .inr ⟨k,c,e,cellK x c e _ z⟩
 .obtain⟨v,z⟩:=I.cell x c e
  exact⟨v,cellK x c e v z⟩
 .obtain⟨m,⟨o,_,_,ho,_⟩,_⟩:=I.loc
  exact free _ o (λz=>(hch _ z).2.1 rfl) ho I.free
 .obtain⟨v,o,ho,hd⟩:=I.cell x c e
  exact free c o (λz=>(hch c z).2.2.1 x c e rfl) ho (I.freeC x c e)
 .obtain⟨e,n,ne,nf,d⟩:=I.pin p hp
  have nch:p.1∉ch:=λz=>(hch p.1 z).2.2.2 p hp rfl;exact⟨keep p.1 p.2 ne nf nch e n,free p.1 p.2 nch e n,ne,nf,d⟩
def WM.callN {g':Array GenState} {t':Nat} {d':Drawn} {ch:List Addr} (I:WM X pins σ H s) (u:Un (X5 X.stack) ch H H' s.heap h') (hok:XJ X.prog X.w H' h') (hg:AllBare g')
  (hch:∀ b∈ch,(b∈X.ex\/X.s₀.heap.get? b=none)/\b≠X.env.locals/\(∀ x c,X.env.cells.lookup x=some c->c≠b)/\∀ p∈X.pn++pins,p.1≠b) :
  WM X pins σ H' { s with heap:=h',gens:=g',drawn:=d',toks:=t' }:=by
 obtain⟨m,⟨o,es,ep,ho,r⟩,_⟩:=id I.loc;obtain⟨sl,hL⟩:=u.any ho I.free λz=>(hch _ z).2.1 rfl;exact I.stepN (ch:=ch) hch (λb o hL hb hc e n=>u.keep b o e n (λz=>(zAj.mp (I.stkSub b z)).elim hL hb) hc) (λb o _ _ hc e n=>u.any e n hc) (λb o hc e n=>u.free b o e n hc) (λb o hc e=>u.there b o e hc) u.tups u.frzs u.tbls (λm' hm=>by
  obtain⟨o',es',ep',ho',r'⟩:=hm;rw[ho] at ho';cases ho';exact⟨_,es',ep',hL,r'⟩) hok hg
def Yw {M:Model} {A':Around} {e:Addr} {oe:Obj} {vs:Array Value} {head ctx:Value} {hadNext:Bool} {E E':Value->Shared->Prop} {K:Unit->Shared->Prop} (I:WM X pins σ H s) (hst:X.stack=X.env::X.outer) (hfr:X.env.frame=some X.env.locals)
  (he:s.heap.get? e=some oe) (hd:oe.data=.fields vs) (hz:1<vs.size) (h2:vs[2]?=some ctx) (fe:XW X pins H e)
  (h:∀ h',WM X pins σ H { s with heap:=h' }->YI h' e oe.cls oe.dict ctx (XW X pins H)->K () { s with heap:=h' }) :
  wpAny M X.A (do let a <- frameOf X.env;let pl <- entryPlaceOf X.env.locals hadNext;let b <- EntryCells.newEntry head a .none (rawInt X.env.locals) .none pl;setField (.ref e) 1 b)
   (λ_ s2=>wpAny M A' (setFlight (.ref e) none) K E' s2) E s:=by
 have hl:s.heap.FunFrames X.base (X.env::X.outer):=by rw[<- hst];exact I.stack
 have hfs:X.A.frames=some (X.env::X.outer):=by rw[<- hst];exact I.ok.frames
 have een:e∉(X.env::X.outer).filterMap (·.frame):=λhb=>by
  have hb':e∈X5 X.stack:=by rw[hst];exact hb
  rcases zAj.mp (I.stkSub e hb') with z|z
  .exact fe.2.1 z
  .exact fe.2.2.1 z
 refine zCd (wpAny_frameOf_fun hfs hl hfr λh1 s1=>?_);refine zCd (wpAny_entryPlaceOf λpl place=>?_);unfold EntryCells.newEntry;unfold newFields;refine zCd (wpAny_newObj_type ?_ (place.sizeOk5 _ _ _ _ _));have he1:h1.get? e=some oe:=(s1.2.1 e een).trans he;generalize hO:({ cls:=.type "traceback",dict:=none,data:=.fields ([head,.ref X.env.locals,.none,rawInt X.env.locals,.none]++(if pl.isEmpty then zAC 6 Value.none else pl)).toArray }:Obj)=O;have dO:∃ ts,O.data=.fields ts/\3<ts.size:=by
  refine⟨_,by rw[<- hO],?_⟩;rw[zAh,zAc,zAe,zAe,zAe,zAe,zAe]
  lia
 obtain⟨ts,hts,hts3⟩:=dO;have he2:=zAm (h:=h1) O he1;refine wpAny_setField he2 hd hz ?_;have hTe:h1.objs.size≠e:=zBr (zAr he1);have hd3:=Obj.data_mapFields hd (λz=>z.setIfInBounds 1 (Value.ref h1.objs.size));have he3:=zBK (Obj.mapFields λz=>z.setIfInBounds 1 (Value.ref h1.objs.size)) he2 (Obj.isFreed_of_fields hd3);have hT3:((h1.push O).update e (Obj.mapFields λz=>z.setIfInBounds 1 (Value.ref h1.objs.size))).get? h1.objs.size=some O:=
  (zBj _ _ (Ne.symm hTe)).trans (zAG h1 (by rw[<- hO];rfl))
 unfold setFlight;refine zCd (wpAny_field he3 hd3 (x:=.ref h1.objs.size) (by simp [hz]) ?_);rw[if_pos (show (Value.ref h1.objs.size != .none)=true by simp)];refine wpAny_setField hT3 hts hts3 ?_;generalize hF:((h1.push O).update e (Obj.mapFields λz=>z.setIfInBounds 1 (Value.ref h1.objs.size))).update h1.objs.size (Obj.mapFields λz=>z.setIfInBounds 3 ((none:Option Addr).elim Value.none λf=>rawInt f))=h4;have keep:∀ b o,b≠e->h1.get? b=some o->h4.get? b=some o:=λb o hbe hb=>by
  have hbT:h1.objs.size≠b:=zBr (zAr hb);rw[<- hF,zBj _ _ hbT,zBj _ _ (Ne.symm hbe)];exact zAm _ hb
 have he4:h4.get? e=some (Obj.mapFields (λz=>z.setIfInBounds 1 (Value.ref h1.objs.size)) oe):=by
  rw[<- hF,zBj _ _ hTe];exact he3
 have hd5:=Obj.data_mapFields hts (λz=>z.setIfInBounds 3 ((none:Option Addr).elim Value.none λf=>rawInt f));have hT4:h4.get? h1.objs.size=some (Obj.mapFields (λz=>z.setIfInBounds 3 ((none:Option Addr).elim Value.none λf=>rawInt f)) O):=by
  rw[<- hF];exact zBK _ hT3 (Obj.isFreed_of_fields hd5)
 have u:Un (X5 X.stack) [e] H H s.heap h4:=by
  refine⟨λb o q _ hb hx=>keep b o (by simpa using hx) ((s1.2.1 b ?_).trans q),λb o q _ _ hx=>?_,λ_ _ _ n _=>n,λb o q hx=>?_,λ_ _ q=>q,λ_ _ _ q=>q,λb ps q=>⟨#[],by rw[q];simp⟩⟩
  .rw[hst] at hb
   exact hb
  .obtain⟨sl,z⟩:=s1.2.2 b o q
   exact⟨sl,keep b _ (by simpa using hx) z⟩
  .obtain⟨sl,z⟩:=s1.2.2 b o q
   exact⟨_,keep b _ (by simpa using hx) z⟩
 have hok:XJ X.prog X.w H h4:=λb o z=>(I.hok b o z).stay (λc v hc q=>by
  have hs:∃ w,H c=some w:=by
   rcases hc with r|r
   .exact⟨o,by rw[r];exact z⟩
   .exact⟨_,r⟩
  obtain⟨w,hw⟩:=hs;refine keep c v (λy=>?_) ((s1.2.1 c λy=>?_).trans q)
  .rw[y,fe.1] at hw;cases hw
  .have n:=I.stkFree c (by rw[hst];exact y)
   rw[hw] at n;cases n) (λ_ q=>q) λ_ _ q=>q
 have I4:WM X pins σ H { s with heap:=h4 }:=I.callN (g':=s.gens) (d':=s.drawn) (t':=s.toks) (ch:=[e]) u hok I.bare λb hb=>by
  have z:b=e:=by simpa using hb
  subst z;exact⟨fe.2.2.2.1,fe.2.1,fe.2.2.2.2.1,fe.2.2.2.2.2⟩
 have gT:s.heap.get? h1.objs.size=none:=Heap.get?_none_of_le (by rw[s1.1];exact zAn _);have nT:H h1.objs.size=none:=I.hok.fresh (by rw[s1.1];exact zAn _);refine h h4 I4 ⟨_,_,he4,Obj.cls_mapFields _ _,?_,hd3,by simpa using hz,?_,fe,.inr ⟨h1.objs.size,_,_,by simp [hz],hTe,hT4,hd5,?_,I.fxOk gT nT⟩⟩
 .obtain⟨c0,d0,dt,sl⟩:=oe
  cases dt <;> rfl
 .rw[Array.getElem?_setIfInBounds_ne (by decide)]
  exact h2
 .rw[Array.getElem?_setIfInBounds_self_of_lt hts3]
  rfl
def DU {M:Model} {A':Around} {e:Addr} {c ctx:Value} {d:Option Addr} {E E':Value->Shared->Prop} {K:Unit->Shared->Prop} (I:WM X pins σ H s) (hst:X.stack=X.env::X.outer) (hfr:X.env.frame=some X.env.locals)
  (x:YI s.heap e c d ctx (XW X pins H)) (h:∀ h',WM X pins σ H { s with heap:=h' }->YI h' e c d ctx (XW X pins H)->K () { s with heap:=h' }) :
  wpAny M X.A (noteFrame (.ref e) X.env) (λ_ s2=>wpAny M A' (setFlight (.ref e) none) K E' s2) E s:=by
 obtain⟨oe,vs,he,hc,hdd,hd,hz,h2,fe,ht⟩:=x;subst hc hdd;unfold noteFrame;simp only [hfr];rcases ht with h1|⟨T,oT,ts,h1,hTe,hT,hdT,h3,fT⟩
 .refine zCd (wpAny_field he hd h1 ?_)
  rw[if_neg (show ¬ (Value.none != .none)=true by decide)];exact Yw I hst hfr he hd hz h2 fe h
 .refine zCd (wpAny_field he hd h1 ?_)
  rw[if_pos (show (Value.ref T != .none)=true by simp)];refine zCd (wpAny_field hT hdT h3 ?_);rw[if_neg (show ¬ (Value.none==rawInt X.env.locals)=true by simp [rawInt])];refine zCd (wpAny_setField hT hdT (Array.getElem?_eq_some_iff.mp h3).1 ?_);rw[Heap.update_setField_same s.heap T oT ts 3 .none hT hdT h3];exact Yw I hst hfr he hd hz h2 fe h
def W4 {M:Model} {A':Around} {e:Addr} {c ctx:Value} {d:Option Addr} {E':Value->Shared->Prop} {K:Unit->Shared->Prop} {fx:Addr->Prop} (x:YI s.heap e c d ctx fx) (h:K () s):wpAny M A' (setFlight (.ref e) none) K E' s:=by
 obtain⟨oe,vs,he,hc,hdd,hd,hz,h2,fe,ht⟩:=x;unfold setFlight;rcases ht with h1|⟨T,oT,ts,h1,hTe,hT,hdT,h3,fT⟩
 .refine zCd (wpAny_field he hd h1 ?_)
  rw[if_neg (show ¬ (Value.none != .none)=true by decide)];exact zCe h
 .refine zCd (wpAny_field he hd h1 ?_)
  rw[if_pos (show (Value.ref T != .none)=true by simp)];refine wpAny_setField hT hdT (Array.getElem?_eq_some_iff.mp h3).1 ?_;show K () { s with heap:=s.heap.update T (Obj.mapFields λz=>z.setIfInBounds 3 .none) };rw[Heap.update_setField_same s.heap T oT ts 3 .none hT hdT h3];exact h
end
def UU (X:Cx) (W:St->XK):Prop:=∀ (pins:List (Addr×Obj)) (σ:St) (H:Hp) (s:Shared) (e:Addr) (c:Value) (d:Option Addr) (ctx:Value),WM X pins σ H s->YI s.heap e c d ctx (XW X pins H)->W σ c d H->X.xe (.ref e) s
abbrev Cx.tr (X:Cx) (pn:List (Addr×Obj)) (E:Value->Shared->Prop):Cx:={ X with pn:=pn,xe:=E }
abbrev Cx.sup (X:Cx) (e:Addr):Cx:={ X with A:=X.A.mark (some (.ref e)),calm:=false,xe:=λ_ _=>False }
section
variable {X:Cx} {pins pins' pn:List (Addr×Obj)} {σ:St} {H:Hp} {s:Shared} {E:Value->Shared->Prop} {e:Addr}
def Cx.Ok.tr (ok:X.Ok):(X.tr pn E).Ok:=⟨ok.mod,ok.kind,ok.glob,ok.blt,ok.above,ok.inj,ok.has,ok.cab,ok.hd,ok.frames,ok.stk,ok.exf,ok.bs,ok.bsz,ok.noex,ok.exfs,ok.funs,ok.frf⟩
def Cx.Ok.untr (ok:(X.tr pn E).Ok):X.Ok:=⟨ok.mod,ok.kind,ok.glob,ok.blt,ok.above,ok.inj,ok.has,ok.cab,ok.hd,ok.frames,ok.stk,ok.exf,ok.bs,ok.bsz,ok.noex,ok.exfs,ok.funs,ok.frf⟩
def WM.tr (I:WM X pins σ H s):WM (X.tr (X.pn++pins) E) [] σ H s:=⟨I.ok.tr,I.os,I.bare,I.base,I.loc,I.cell,I.free,I.freeC,λp hp=>I.pin p (by simpa using hp),I.hok,I.len⟩
def WM.untr (I:WM (X.tr (X.pn++pins) E) pins' σ H s):WM X pins σ H s:=⟨I.ok.untr,I.os,I.bare,I.base,I.loc,I.cell,I.free,I.freeC,λp hp=>I.pin p (zBp _ hp),I.hok,I.len⟩
def XW.untr {b:Addr} (f:XW (X.tr (X.pn++pins) E) pins' H b):XW X pins H b:=⟨f.1,f.2.1,f.2.2.1,f.2.2.2.1,f.2.2.2.2.1,λp hp=>f.2.2.2.2.2 p (zBp _ hp)⟩
def SP.untr {D:Om} {f:Flow} (h:SP (X.tr (X.pn++pins) E) pins' D f s):SP X pins D f s:=by
 cases f with
 |next=>obtain⟨σ',H',I,q⟩:=h;exact⟨σ',H',I.untr,q⟩
 |brk=>obtain⟨σ',H',I,q⟩:=h;exact⟨σ',H',I.untr,q⟩
 |cont=>obtain⟨σ',H',I,q⟩:=h;exact⟨σ',H',I.untr,q⟩
 |ret u=>obtain⟨v,σ',H',I,r,q⟩:=h;exact⟨v,σ',H',I.untr,r,q⟩
def Cx.Ok.sup (ok:X.Ok):(X.sup e).Ok:=⟨ok.mod,ok.kind,ok.glob,ok.blt,ok.above,ok.inj,ok.has,ok.cab,(λz=>nomatch z),ok.frames,ok.stk,ok.exf,ok.bs,ok.bsz,ok.noex,ok.exfs,ok.funs,ok.frf⟩
def WM.sup (I:WM X pins σ H s):WM (X.sup e) pins σ H s:=⟨I.ok.sup,I.os,I.bare,I.base,I.loc,I.cell,I.free,I.freeC,I.pin,I.hok,I.len⟩
def WM.unsup (I:WM (X.sup e) pins σ H s) (ok:X.Ok):WM X pins σ H s:=⟨ok,I.os,I.bare,I.base,I.loc,I.cell,I.free,I.freeC,I.pin,I.hok,I.len⟩
def SP.unsup {D:Om} {f:Flow} (h:SP (X.sup e) pins D f s) (ok:X.Ok):SP X pins D f s:=by
 cases f with
 |next=>obtain⟨σ',H',I,q⟩:=h;exact⟨σ',H',I.unsup ok,q⟩
 |brk=>obtain⟨σ',H',I,q⟩:=h;exact⟨σ',H',I.unsup ok,q⟩
 |cont=>obtain⟨σ',H',I,q⟩:=h;exact⟨σ',H',I.unsup ok,q⟩
 |ret u=>obtain⟨v,σ',H',I,r,q⟩:=h;exact⟨v,σ',H',I.unsup ok,r,q⟩
end
def TU (K:zAb) (Ch:Addr) (tb:(St->XK)->TS) (ts:TS):TS:=λD σ H=>tb (λσ' c _ H'=>∃ C,c=.ref C/\PySem.W.exmOne K (.ref C) (.ref Ch)=some true/\ts D σ' H') D σ H
section
variable {X:Cx} {x:Str} {Ch:Addr} {body suite:List Stmt} {b₀:Stmt} {tb:(St->XK)->TS} {ts:TS} {np hpos pos:Pos}
def IC {M:Model} {h:Heap} {e:Addr} {c:Value} {oe:Obj} (he:h.get? e=some oe) (hc:oe.cls=c):PySem.W.Looks M h (typeOf (.ref e)) c:=hc▸(PySem.W.Looks.ld he).andThen .now
def GV (hst:X.stack=X.env::X.outer) (hfr:X.env.frame=some X.env.locals) (hg:Gl X x) (hm:X.mg x=some (.ref Ch))
  (hb:∀ pn E W,UU (X.tr pn E) W->PassesOwn (model X.prog X.w) X.A X.env E->PSs (X.tr pn E) body (tb W)) (hs:∀ e,PSs (X.sup e) (b₀ :: suite) ts) (hdb:(x==("__debug__" : Str))=false:=by decide) :
  PS X (.Try body [.ExceptHandler (some (.Name x np)) none (b₀ :: suite) hpos] [] [] pos) (TU X.K Ch tb ts):=by
 intro pins s σ H D I h;refine wpAny_Try_except ?_;refine wpAny_mono (hb (X.pn++pins) _ _ ?_ ?_ [] s σ H D I.tr h) (λf s1 q=>?_) λe s1 q=>q
 .intro pins' σ' H' s' e c d ctx I' x' hw
  obtain⟨C,rfl,hx,hq⟩:=hw;have I1:WM X pins σ' H' s':=I'.untr;refine DU I1 hst hfr (x'.imp λb fb=>fb.untr) λh2 I2 x2=>?_;obtain⟨oe,vs,he,hc,_,_⟩:=x2.there;refine wpAny_handleBy_cons (codeAny_handlers_test (Lp (I2.sup (e:=e)) hg hm ?_ hdb)) (by intro q;cases q);refine (PySem.W.exm_one I2.kIn (IC he hc) hx).here ?_;refine codeAny_handlers_suite (W4 x2 ?_);exact wpAny_mono (hs e pins _ σ' H' D (I2.sup (e:=e)) hq) (λf s3 q=>q.unsup I2.ok) λ_ _ z=>False.elim z
 .exact PassesOwn.looking
 .have q':=q.untr
  cases f with
  |next=>exact wpAny_execs_nil q'
  |brk=>exact q'
  |cont=>exact q'
  |ret u=>exact q'
end
def tx (l:List Nat):Str:=⟨l.toArray⟩
def EW (l:List Nat):(tx l).cps.toList=l:=rfl
def Ci (l:List Nat):(tx l).length=l.length:=by simp [tx,Str.length]
def Uh (x:Str):tx x.cps.toList=x:=by cases x;rfl
def PU {l m:List Nat} (h:tx l=tx m):l=m:=by
 have e:=congrArg (λz:Str=>z.cps.toList) h;exact e
def Fc (l m:List Nat):tx l++tx m=tx (l++m):=by
 show (⟨l.toArray++m.toArray⟩:Str)=⟨(l++m).toArray⟩;rw[List.append_toArray]
def Ce (n:Nat):List Nat:=(Nat.toDigits 10 n).map Char.toNat
def Fl (n:Nat):((toString (n:Int):String):Str)=tx (Ce n):=by
 have e:=PySem.W.KIN.signs_num n;rw[<- Uh (Str.ofString (toString ((n:Nat):Int))),e];rfl
def Ro (n:Nat):NumText.digitsVal (Ce n)=n:=PySem.W.KIN.val_back n
def Fx (n:Nat):NumText.AllDigits (Ce n):=λc hc=>by
 obtain⟨ch,hch,e⟩:=zAz.mp hc;rw[<- e];exact PyProof.Rows.digit_range (Nat.isDigit_of_mem_toDigits (by decide) (by decide) hch)
def Es {n:Nat} (h:n<10):Ce n=[48+n]:=by
 unfold Ce;rw[Nat.toDigits_of_lt_base h];have:n=0\/n=1\/n=2\/n=3\/n=4\/n=5\/n=6\/n=7\/n=8\/n=9:=by lia
 rcases this with rfl|rfl|rfl|rfl|rfl|rfl|rfl|rfl|rfl|rfl <;> rfl
def Od {n:Nat} (h:10<=n):Ce n=Ce (n/10)++Ce (n%10):=by
 have hm:n%10<10:=zBm n (by decide);have t:Nat.toDigits 10 (n/10)++Nat.toDigits 10 (n%10)=Nat.toDigits 10 (10*(n/10)+n%10):=Nat.toDigits_append_toDigits (by decide) (by lia) hm;rw[Nat.div_add_mod] at t;unfold Ce;rw[<- t,zAf]
def Oh (n:Nat):Ce n≠[]:=by
 by_cases h:n<10
 .rw[Es h];simp
 .rw[Od (by lia),Es (zBm n (by decide))];simp
def Dk {n k:Nat} (hk:1<=k) (h:n<10^k):(Ce n).length<=k:=by
 induction k generalizing n with
 |zero=>lia
 |succ k ih=>
  by_cases hn:n<10
  .rw[Es hn];simp
  .have h1:n/10<10^k:=by rw[Nat.pow_succ] at h;lia
   have hk1:1<=k:=by
    rcases Nat.eq_zero_or_pos k with z|z
    .rw[z] at h1;simp at h1;lia
    .exact z
   have:=ih hk1 h1;rw[Od (by lia),zAc,Es (zBm n (by decide))];simp
   lia
def EL (n:Nat):(Ce n).head?=some 48->Ce n=[48]:=by
 induction n using Nat.strongRecOn with
 |_ n ih=>
  intro h;by_cases hn:n<10
  .rw[Es hn] at h ⊢
   simpa using h
  .exfalso
   have e:=Od (n:=n) (by lia);have h1:(Ce (n/10)).head?=some 48:=by
    rw[e] at h;cases z:Ce (n/10) with
    |nil=>exact absurd z (Oh _)
    |cons a r=>rw[z] at h;simpa using h
   have h2:=ih (n/10) (by lia) h1;have h3:=Ro (n/10);rw[h2] at h3;have h4:n/10=0:=h3.symm
   lia
def Eb {n:Int} (h0:0<=n) (h:n<10^70):n.natAbs.log2<1920:=by
 have h1:n.natAbs<2^240:=by
  have h2:(10:Int)^70<2^240:=by decide
  lia
 by_cases z:n.natAbs=0
 .rw[z];decide
 .have:=(Nat.log2_lt z).2 h1
  lia
def Ip (c:Nat):List Nat->List (List Nat)
 |[]=>[[]]
 |x::l=>if x=c then []::Ip c l else match Ip c l with
  |[]=>[[x]]
  |p::r=>(x::p)::r
theorem Jd {c:Nat}:∀ {l:List Nat},c∉l->Ip c l=[l]
 |[],_=>rfl
 |x::l,h=>by
  have h1:x≠c:=λe=>h (by rw[e];exact zAk);unfold Ip;rw[if_neg h1,Jd λz=>h (zAi _ z)]
theorem Oc {c:Nat}:∀ {p:List Nat} (l:List Nat),c∉p->Ip c (p++c::l)=p::Ip c l
 |[],l,_=>by
  show Ip c (c::l)=_;rw[Ip,if_pos rfl]
 |x::p,l,h=>by
  have h1:x≠c:=λe=>h (by rw[e];exact zAk);show Ip c (x::(p++c::l))=_;rw[Ip,if_neg h1,Oc l λz=>h (zAi _ z)]
theorem U4 {c:Nat}:∀ {ps:List Str},ps≠[]->(∀ p∈ps,c∉p.cps.toList)->Ip c (Str.join (tx [c]) ps).cps.toList=ps.map λp=>p.cps.toList
 |[],h,_=>absurd rfl h
 |[p],_,h=>Jd (h p zAk)
 |p::q::r,_,h=>by
  have ih:=U4 (ps:=q::r) (by simp) λz hz=>h z (zAi _ hz);have e:(Str.join (tx [c]) (p::q::r)).cps.toList=p.cps.toList++c::(Str.join (tx [c]) (q::r)).cps.toList:=by
   show (p++tx [c]++Str.join (tx [c]) (q::r)).cps.toList=_;show (p.cps++(tx [c]).cps++(Str.join (tx [c]) (q::r)).cps).toList=_;simp [tx]
  rw[e,Oc _ (h p zAk),ih];rfl
def Ub (l:List Nat) (c:Nat):Txt.split (tx l) (tx [c])=(Ip c l).map tx:=by
 have h1:=StrLaws.join_split (tx l) (tx [c]);have h2:=StrLaws.split_free (tx l) c;have h3:Txt.split (tx l) (tx [c])≠[]:=λz=>by
  have:=split_pos (tx l) (tx [c]);rw[z] at this;simp at this
 have h4:=U4 h3 h2;rw[h1,EW] at h4;rw[h4,zBk]
 symm
 have:∀ ps:List Str,ps.map (tx ∘ λp=>p.cps.toList)=ps:=λps=>by
  induction ps with
  |nil=>rfl
  |cons p r ih=>rw[zAv,ih];show tx p.cps.toList::r=_;rw[Uh]
 exact this _
section
variable {X:Cx}
def IT:MI X "str.zfill" (λx vs H Q=>∃ z i,x=.str z/\vs=[.int i]/\PadOk i=true/\Q (.str (Txt.zfill z i)) H):=by
 intro pins s σ H x vs v us Q I rx rv h;obtain⟨z,i,rfl,rfl,hp,q⟩:=h;obtain⟨t,rfl⟩:=rx;obtain⟨w,rfl,ru⟩:=rv.one;obtain⟨u,rfl⟩:=ru;exact SC.zfill hp λt' k=>⟨.str _,H,I.tok k,⟨t',rfl⟩,q⟩
theorem Zd:∀ (ps:List Str) (n:Nat),WR (ps.map V.str) (strsFrom n ps)
 |[],_=>.nil
 |p::r,n=>.cons ⟨n,rfl⟩ (Zd r (n+1))
def Xl:MI X "str.split" (λx vs H Q=>∃ z y,x=.str z/\vs=[.str y]/\(y.length==0)=false/\z.length+2<=sizeLine/\∀ p,H p=none->Q (.ref p) (upd H p (.lst ((Txt.split z y).map V.str)))):=by
 intro pins s σ H x vs v us Q I rx rv h;obtain⟨z,y,rfl,rfl,hy,hz,q⟩:=h;obtain⟨t,rfl⟩:=rx;obtain⟨w,rfl,ru⟩:=rv.one;obtain⟨u,rfl⟩:=ru;have hle:=split_le z y;have hq:=q s.heap.objs.size I.fresh;unfold Txt.split at hq hle;cases h1:(decide (z.length<y.length)||decide (Builtin.Str.strKind z<Builtin.Str.strKind y)) with
 |false=>
  rw[h1] at hq hle;cases hf:(Builtin.Str.occurrences z y 0 z.length (z.length+1)).isEmpty with
  |false=>
   rw[hf] at hq hle;simp only [zBI,if_false] at hq hle;refine call_meets F.slot_str_split (typeIs_str _ _ _) F.entry_str_split (F.args_str_split_2 _ _) (meets_str_split_sep z y t u h1 hy hf (by lia) (by lia)) ?_;exact⟨.ref _,_,I.lnew (Zd _ _) (by rw[zAa];lia),rfl,hq⟩
  |true=>
   rw[hf] at hq;simp only [zBI,if_false,if_true] at hq;refine call_meets F.slot_str_split (typeIs_str _ _ _) F.entry_str_split (F.args_str_split_2 _ _) (meets_str_split_not_found z y t u h1 hy hf) ?_;exact⟨.ref _,_,I.lnew (t':=s.toks) (ys:=[V.str z]) (.cons ⟨t,rfl⟩ .nil) (by show 1<=sizeLine;exact Gv (by decide)),rfl,hq⟩
 |true=>
  rw[h1] at hq;simp only [if_true] at hq;refine call_meets F.slot_str_split (typeIs_str _ _ _) F.entry_str_split (F.args_str_split_2 _ _) (meets_str_split_cannot_occur z y t u h1) ?_;exact⟨.ref _,_,I.lnew (t':=s.toks) (ys:=[V.str z]) (.cons ⟨t,rfl⟩ .nil) (by show 1<=sizeLine;exact Gv (by decide)),rfl,hq⟩
def Ht:Oz X (.type "int") (λxs H Q=>∃ z n,xs=[.str z]/\intText? z=some n/\z.length<=640/\Q (.int n) H):=by
 intro pins s σ H xs us Q I r h;obtain⟨z,n,rfl,hn,hl,q⟩:=h;obtain⟨u,rfl,ru⟩:=Sg r;obtain⟨t,rfl⟩:=ru;exact PySem.W.KIN.call_text hn hl ⟨.int n,H,I.tok _,⟨_,rfl⟩,q⟩
def Zf:Pa X (compareOp .NotIn) (λx y H Q=>∃ c z,x=.str (tx [c])/\y=.str z/\Q (.bl (!decide (c∈z.cps.toList))) H):=by
 intro pins s σ H x y v u Q I rx ry h;obtain⟨c,z,rfl,rfl,q⟩:=h;refine H0 pins s σ H _ _ v u Q I rx ry ⟨tx [c],z,rfl,rfl,?_⟩;rw[show (!(Builtin.Str.occurrences z (tx [c]) 0 z.length 1).isEmpty)=decide (c∈z.cps.toList) from StrLaws.found_one z c];exact q
def QK (x:Str):It:=⟨λi _=>i<x.cps.size,λi H v H'=>H'=H/\∃ c,x.cps[i]?=some c/\v=.str (tx [c]),λi _=>x.cps.size<=i⟩
def CZ {P:Program} {w:World} {K:zAb} {tg:Expr} (x:Str) (t:Tok) (it:Addr):R5 P w K tg (QK x) [it] it (λi h=>h.IsStrIter it "str_ascii_iterator" x t i) where
 mem:=by simp
 obj:=λi h st b hb=>by
  have e:b=it:=by simpa using hb
  subst e;obtain⟨o,e,c,d⟩:=st;exact⟨o,e,λv z=>by rw[d] at z;cases z⟩
 keep:=λi h h' st k=>by
  obtain⟨o,e,c,d⟩:=st;exact⟨o,k it (by simp) o e,c,d⟩
 item:=by
  intro X hP hw hK hc i pins s σ H E I hf st hg;subst hP hw hK;obtain⟨f0,f1,f2,f3,f4,f5⟩:=hf it (by simp);have hi:i<x.cps.size:=hg;refine wpAny_pyNext_ascii_item st (c:=x.cps[i]) (by simp [hi]) λh' st' sb=>?_;have I1:WM X pins σ H { s with heap:=h',toks:=s.toks+1 }:=I.turned (λb o hb e=>(sb.2 b hb).trans e) f0 f1 f3 f4 f5;obtain⟨o,e,c,d⟩:=id st';exact⟨_,rfl,CQ (s:={ s with heap:=h',toks:=s.toks+1 }) e c d (by decide) ⟨.str (tx [x.cps[i]]),H,I1,⟨_,rfl⟩,⟨rfl,_,by simp [hi],rfl⟩,st',λb hb=>(hf b hb).1⟩⟩
 done:=by
  intro X hP hw hK hc i pins s σ H E I hf st hg;subst hP hw hK;obtain⟨f0,f1,f2,f3,f4,f5⟩:=hf it (by simp);have hi:x.cps.size<=i:=hg;exact wpAny_pyNext_ascii_end (I.ok.hd hc) st (by simp;lia) λh' eb=>⟨rfl,I.turned (t':=s.toks) (λb o hb e=>eb b o hb e) f0 f1 f3 f4 f5⟩
 self:=λ_ _ _ _ _ st h=>wpAny_pyIter_striter_ascii st h
def DW {P:Program} {w:World} {K:zAb} {tg:Expr} (x:Str) (t:Tok) (it:Addr):R5 P w K tg (QK x) [it] it (λi h=>h.IsStrIter it "str_iterator" x t i) where
 mem:=by simp
 obj:=λi h st b hb=>by
  have e:b=it:=by simpa using hb
  subst e;obtain⟨o,e,c,d⟩:=st;exact⟨o,e,λv z=>by rw[d] at z;cases z⟩
 keep:=λi h h' st k=>by
  obtain⟨o,e,c,d⟩:=st;exact⟨o,k it (by simp) o e,c,d⟩
 item:=by
  intro X hP hw hK hc i pins s σ H E I hf st hg;subst hP hw hK;obtain⟨f0,f1,f2,f3,f4,f5⟩:=hf it (by simp);have hi:i<x.cps.size:=hg;refine wpAny_pyNext_wide_item st (c:=x.cps[i]) (by simp [hi]) λh' st' sb=>?_;have I1:WM X pins σ H { s with heap:=h',toks:=s.toks+1 }:=I.turned (λb o hb e=>(sb.2 b hb).trans e) f0 f1 f3 f4 f5;obtain⟨o,e,c,d⟩:=id st';exact⟨_,rfl,CQ (s:={ s with heap:=h',toks:=s.toks+1 }) e c d (by decide) ⟨.str (tx [x.cps[i]]),H,I1,⟨_,rfl⟩,⟨rfl,_,by simp [hi],rfl⟩,st',λb hb=>(hf b hb).1⟩⟩
 done:=by
  intro X hP hw hK hc i pins s σ H E I hf st hg;subst hP hw hK;obtain⟨f0,f1,f2,f3,f4,f5⟩:=hf it (by simp);have hi:x.cps.size<=i:=hg;exact wpAny_pyNext_wide_end (I.ok.hd hc) st (by simp;lia) λh' eb=>⟨rfl,I.turned (t':=s.toks) (λb o hb e=>eb b o hb e) f0 f1 f3 f4 f5⟩
 self:=λ_ _ _ _ _ st h=>wpAny_pyIter_striter_wide st h
def UB (tl:TE):TI:=λσ H R=>tl σ H λx H1=>∃ z,x=.str z/\R (QK z) H1
def JU {tg l:Expr} {tl:TE} (hl:PE X l tl):PI X tg l (UB tl):=by
 intro pins s σ H R I h;refine Dx (hl pins s σ H _ I h) λv s1 h9=>?_;obtain⟨x,H1,I1,r1,q1⟩:=h9;obtain⟨z,e,q⟩:=q1;subst e;obtain⟨t,rfl⟩:=r1;have fp:∀ b∈[s1.heap.objs.size],Tp X pins H1 b:=λb hb=>by
  have e:b=s1.heap.objs.size:=by simpa using hb
  subst e;exact I1.fpOk (zAn _) (I1.hok.fresh (zAn _))
 cases ha:z.cps.all (· < 128) with
 |true=>exact wpAny_pyIter_ascii ha ⟨s1.heap.objs.size,[s1.heap.objs.size],_,_,H1,rfl,I1.kept (t':=s1.toks) λb o e=>zAm _ e,CZ z t _,⟨_,zAG _ rfl,rfl,rfl⟩,fp,q⟩
 |false=>exact wpAny_pyIter_wide ha ⟨s1.heap.objs.size,[s1.heap.objs.size],_,_,H1,rfl,I1.kept (t':=s1.toks) λb o e=>zAm _ e,DW z t _,⟨_,zAG _ rfl,rfl,rfl⟩,fp,q⟩
def CJ {l:List Nat} {g:TG} {tb:TS} {D:Om} {σ:St} {H:Hp} (Pv:Nat->St->Hp->Prop) (h0:Pv 0 σ H)
  (hs:∀ i c σ H,l[i]?=some c->Pv i σ H->g (.str (tx [c])) σ H λσ2 H2=>tb { D with nx:=Pv (i+1),ct:=Pv (i+1),bk:=D.nx } σ2 H2) (hd:∀ σ H,Pv l.length σ H->D.nx σ H) :
  ∃ W:Nat->Nat->St->Hp->Prop,(∃ m,W 0 m σ H)/\∀ i m σ H,W i m σ H ->
   ((QK (tx l)).stop i H/\D.nx σ H)\/((QK (tx l)).go i H/\∃ N:St->Hp->Prop,(∀ σ' H',N σ' H'->∃ m',m'<m/\W (i+1) m' σ' H')/\∀ x H',(QK (tx l)).yld i H x H'->g x σ H' λσ2 H2=>tb { D with nx:=N,ct:=N,bk:=D.nx } σ2 H2):=by
 have hz:(tx l).cps.size=l.length:=by simp [tx]
 refine⟨λi m σ H=>m=l.length-i/\i<=l.length/\Pv i σ H,⟨l.length,by simp,zAB _,h0⟩,?_⟩;rintro i m σ H ⟨rfl,hi,p⟩;by_cases hlt:i<l.length
 .refine .inr ⟨by show i<(tx l).cps.size;lia,Pv (i+1),λσ' H' p'=>⟨l.length-(i+1),by lia,rfl,hlt,p'⟩,λx H' y=>?_⟩
  obtain⟨e,c,hc,y⟩:=y;subst e y;exact hs i c σ _ (by simpa [tx] using hc) p
 .have e:i=l.length:=by lia
  subst e;exact .inl ⟨by show (tx l).cps.size<=l.length;lia,hd σ H p⟩
def UX (te:TE):TE:=λσ H Q=>te σ H λx H1=>(∃ i,x=.int i/\i.natAbs.log2<1920/\Q (.str (toString i)) H1)\/∃ z,x=.str z/\z.length<=sizeLine/\Q (.str z) H1
def GN {e:Expr} {te:TE} {pos:Pos} (he:PE X e te):PE X (.FormattedValue e (-1) none pos) (UX te):=by
 intro pins s σ H Q I h;refine FormattedValue_plain (Dx (he pins s σ H _ I h) λv s1 h9=>?_);obtain⟨x,H1,I1,r1,q1⟩:=h9;rcases q1 with ⟨i,rfl,hl,q⟩|⟨z,rfl,hz,q⟩
 .obtain⟨t,rfl⟩:=r1
  exact formatField_int_small hl ⟨.str _,H1,I1.tok _,⟨_,rfl⟩,q⟩
 .obtain⟨t,rfl⟩:=r1
  exact formatField_str (λt' tk=>⟨.str z,H1,I1.tok tk,⟨t',rfl⟩,q⟩) hz
abbrev TJ:=St->Hp->Str->VK->Prop
def PJ (X:Cx) (es:List Expr) (t:TJ):Prop:=∀ (pins:List (Addr×Obj)) (s:Shared) (σ:St) (H:Hp) (out:Str) (Q:VK),WM X pins σ H s->t σ H out Q->wpAny (model X.prog X.w) X.A (joinParts out (evalEach es X.env)) (EP X pins σ Q) X.xe s
def TD:TJ:=λ_ H out Q=>out.length<=sizeLine/\Q (.str out) H
def QP (te:TE) (t:TJ):TJ:=λσ H out Q=>te σ H λx H1=>∃ y,x=.str y/\(out++y).length<=sizeLine/\t σ H1 (out++y) Q
def NS:PJ X [] TD:=λ_ s _ H out _ I h=>joinParts_nil ⟨.str out,H,I.tok _,⟨_,rfl⟩,h.2⟩ h.1
def K6 {e:Expr} {es:List Expr} {te:TE} {t:TJ} (he:PE X e te) (hr:PJ X es t):PJ X (e::es) (QP te t):=by
 intro pins s σ H out Q I h;show wpAny _ _ (joinParts out (eval e X.env::evalEach es X.env)) _ _ s;refine joinParts_cons (Dx (he pins s σ H _ I h) λv s1 h9=>?_);obtain⟨x,H1,I1,r1,y,ey,hz,q⟩:=h9;subst ey;obtain⟨t,rfl⟩:=r1;exact⟨hz,hr pins s1 σ H1 _ Q I1 q⟩
def RN (t:TJ):TE:=λσ H Q=>t σ H Str.empty Q
def DT {a b:Expr} {es:List Expr} {t:TJ} {pos:Pos} (h:PJ X (a::b::es) t):PE X (.JoinedStr (a::b::es) pos) (RN t):=λpins s σ H Q I q=>JoinedStr_many (h pins s σ H Str.empty Q I q)
end
def OG {X:Cx} {x:Str} {C:Addr} {pos:Pos} (hg:Gl X x) (hm:X.mg x=some (.ref C)) (hd:(x==("__debug__" : Str))=false:=by decide):PE X (.Name x pos) (tC (.ref C)):=B8 (v:=.ref C) hg hm rfl hd
section
theorem C5:∀ {ps:List Str} {its:List Value},WR (ps.map V.str) its->∃ l:List (Str×Tok),its=strValues l/\l.map (·.1)=ps
 |[],its,h=>by cases h;exact⟨[],rfl,rfl⟩
 |p::r,its,h=>by
  cases h with
  |cons a b=>
   obtain⟨t,rfl⟩:=a;obtain⟨l,rfl,e⟩:=C5 b;exact⟨(p,t)::l,rfl,by rw[zAv,e]⟩
end
inductive D where
 |at (v:V)
 |seq (t:Bool) (ds:List D)
mutual
def Vj (K:zAb) (H:Hp):D->V->Prop
 |.at v,x=>x=v/\Ff v=true
 |.seq t ds,x=>∃ a xs,x=.ref a/\(t=true->WX K H a xs)/\(t=false->WL K H a xs)/\Reps K H ds xs
def Reps (K:zAb) (H:Hp):List D->List V->Prop
 |[],xs=>xs=[]
 |d::ds,xs=>∃ y ys,xs=y::ys/\Vj K H d y/\Reps K H ds ys
end
mutual
def AQ:D->D->Bool
 |.at v,.at u=>Sq v u
 |.seq t ds,.seq u es=>t==u&&eqDs ds es
 |_,_=>false
def eqDs:List D->List D->Bool
 |[],[]=>true
 |d::ds,e::es=>AQ d e&&eqDs ds es
 |_,_=>false
end
mutual
def V7:D->Nat
 |.at _=>0
 |.seq _ ds=>deps ds+1
def deps:List D->Nat
 |[]=>0
 |d::ds=>max (V7 d) (deps ds)
end
theorem Reps.len {K:zAb} {H:Hp}:∀ {ds:List D} {xs:List V},Reps K H ds xs->ds.length=xs.length
 |[],xs,h=>by unfold Reps at h;subst h;rfl
 |d::ds,xs,h=>by
  unfold Reps at h;obtain⟨y,ys,rfl,_,h⟩:=h;rw[zAe,zAe,Reps.len h]
def RT (ds es:List D) (j:Nat):Bool:=match ds[j]?,es[j]? with
 |some d,some e=>AQ d e
 |_,_=>true
theorem Kq:∀ {ds es:List D},ds.length≠es.length->eqDs ds es=false
 |[],[],h=>absurd rfl h
 |[],_::_,_=>by unfold eqDs;rfl
 |_::_,[],_=>by unfold eqDs;rfl
 |d::ds,e::es,h=>by
  unfold eqDs;rw[Kq (ds:=ds) (es:=es) λq=>h (by rw[zAe,zAe,q]),Bool.and_false]
theorem Xd:∀ {ds es:List D},ds.length=es.length->(zAO ds.length).all (RT ds es)=eqDs ds es
 |[],[],_=>by unfold eqDs;rfl
 |[],_::_,h=>by simp at h
 |_::_,[],h=>by simp at h
 |d::ds,e::es,h=>by
  have ih:=Xd (ds:=ds) (es:=es) (by simpa using h);unfold eqDs;rw[zAe,List.range_succ_eq_map,zBZ,List.all_map,<- ih];rfl
def U0 {v:V} (h:Ff v=true):Sq v v=true:=by
 cases v <;> first|exact absurd (show false=true from h) zAo|rfl|simp [Sq]
section
variable {X:Cx} {pins:List (Addr×Obj)} {σ:St} {H:Hp} {s:Shared}
def P9 {a:Addr} {xs ys:List V} (I:WM X pins σ H s) (h1:WL X.K H a xs) (h2:WX X.K H a ys):False:=by
 obtain⟨its,_,p,_⟩:=I.list h1;obtain⟨js,_,q,_⟩:=I.tuple h2;exact SeqAt.ne_of_list_tuple p.isList q rfl
mutual
theorem S1 (I:WM X pins σ H s):∀ (d e:D) (x:V),Vj X.K H d x->Vj X.K H e x->AQ d e=true
 |.at v,.at u,x,h1,h2=>by
  unfold Vj at h1 h2;obtain⟨rfl,f⟩:=h1;obtain⟨rfl,_⟩:=h2;unfold AQ;exact U0 f
 |.at v,.seq t ds,x,h1,h2=>by
  unfold Vj at h1 h2;obtain⟨rfl,f⟩:=h1;obtain⟨a,xs,rfl,_⟩:=h2;exact absurd (show false=true from f) zAo
 |.seq t ds,.at u,x,h1,h2=>by
  unfold Vj at h1 h2;obtain⟨rfl,f⟩:=h2;obtain⟨a,xs,rfl,_⟩:=h1;exact absurd (show false=true from f) zAo
 |.seq t ds,.seq u es,x,h1,h2=>by
  unfold Vj at h1 h2;obtain⟨a,xs,rfl,t1,l1,r1⟩:=h1;obtain⟨b,ys,e,t2,l2,r2⟩:=h2;cases e;unfold AQ;cases t with
  |true=>
   cases u with
   |true=>
    have e:=I.tuple_inj (t1 rfl) (t2 rfl);subst e;rw[reps_same I ds es xs r1 r2];rfl
   |false=>exact (P9 I (l2 rfl) (t1 rfl)).elim
  |false=>
   cases u with
   |true=>exact (P9 I (l1 rfl) (t2 rfl)).elim
   |false=>
    have e:=I.list_inj (l1 rfl) (l2 rfl);subst e;rw[reps_same I ds es xs r1 r2];rfl
theorem reps_same (I:WM X pins σ H s):∀ (ds es:List D) (xs:List V),Reps X.K H ds xs->Reps X.K H es xs->eqDs ds es=true
 |[],[],_,_,_=>by unfold eqDs;rfl
 |[],e::es,xs,h1,h2=>by
  unfold Reps at h1 h2;subst h1;obtain⟨_,_,e,_⟩:=h2;cases e
 |d::ds,[],xs,h1,h2=>by
  unfold Reps at h1 h2;subst h2;obtain⟨_,_,e,_⟩:=h1;cases e
 |d::ds,e::es,xs,h1,h2=>by
  unfold Reps at h1 h2;obtain⟨y,ys,rfl,h1,r1⟩:=h1;obtain⟨z,zs,e,h2,r2⟩:=h2;cases e;unfold eqDs;rw[S1 I d _ y h1 h2,reps_same I ds es ys r1 r2];rfl
end
def EH {A:Around} {v:V} {u:Value} {a:Addr} {its:Array Value} (f:Ff v=true) (r:WS v u) (p:s.heap.IsList a its) (hu:A.units<cLine):SeqAt.EqAt A s u (.ref a) false:=by
 cases v with
 |non=>cases r;exact .none_list p hu
 |bl b=>cases r;exact .bool_list b p hu
 |int i=>obtain⟨t,rfl⟩:=r;exact .int_list i t p hu
 |str i=>obtain⟨t,rfl⟩:=r;exact .str_list i t p hu
 |_=>exact absurd (show false=true from f) zAo
def HF {A:Around} {v:V} {u:Value} {a:Addr} {its:Array Value} (f:Ff v=true) (r:WS v u) (p:s.heap.IsTuple a its) (hu:A.units<cLine):SeqAt.EqAt A s u (.ref a) false:=by
 cases v with
 |non=>cases r;exact .none_tuple p hu
 |bl b=>cases r;exact .bool_tuple b p hu
 |int i=>obtain⟨t,rfl⟩:=r;exact .int_tuple i t p hu
 |str i=>obtain⟨t,rfl⟩:=r;exact .str_tuple i t p hu
 |_=>exact absurd (show false=true from f) zAo
def DQ {A:Around} {v:V} {u:Value} {a:Addr} {its:Array Value} (f:Ff v=true) (r:WS v u) (p:s.heap.IsList a its) (hu:A.units<cLine):SeqAt.EqAt A s (.ref a) u false:=by
 cases v with
 |non=>cases r;exact .list_none p hu
 |bl b=>cases r;exact .list_bool b p hu
 |int i=>obtain⟨t,rfl⟩:=r;exact .list_int i t p hu
 |str i=>obtain⟨t,rfl⟩:=r;exact .list_str i t p hu
 |_=>exact absurd (show false=true from f) zAo
def HL {A:Around} {v:V} {u:Value} {a:Addr} {its:Array Value} (f:Ff v=true) (r:WS v u) (p:s.heap.IsTuple a its) (hu:A.units<cLine):SeqAt.EqAt A s (.ref a) u false:=by
 cases v with
 |non=>cases r;exact .tuple_none p hu
 |bl b=>cases r;exact .tuple_bool b p hu
 |int i=>obtain⟨t,rfl⟩:=r;exact .tuple_int i t p hu
 |str i=>obtain⟨t,rfl⟩:=r;exact .tuple_str i t p hu
 |_=>exact absurd (show false=true from f) zAo
def BO {A:Around} {its js:List Value} {e:Nat->Bool} (h:∀ j u v,its[j]?=some u->js[j]?=some v->SeqAt.EqAt A s u v (e j)):∀ j (h1:j<its.toArray.size) (h2:j<js.toArray.size),SeqAt.EqAt A s its.toArray[j] js.toArray[j] (e j):=λj h1 h2=>by
 rw[zAh] at h1 h2;rw[zBM,zBM];exact h j _ _ (zAg h1) (zAg h2)
def P8 {A:Around} {a b:Addr} {xs ys:List V} {ds es:List D} (I:WM X pins σ H s) (hu:A.units<cLine) (h1:WL X.K H a xs) (h2:WL X.K H b ys) (r1:Reps X.K H ds xs) (r2:Reps X.K H es ys)
  (h:∀ its js,WR xs its->WR ys js->∀ j u v,its[j]?=some u->js[j]?=some v->SeqAt.EqAt A.in1 s u v (RT ds es j)):SeqAt.RcAt A s (.ref a) (.ref b) (eqDs ds es)/\SeqAt.RcNeAt A s (.ref a) (.ref b) (!eqDs ds es):=by
 obtain⟨its,q1,p1,z1⟩:=I.list h1;obtain⟨js,q2,p2,z2⟩:=I.list h2;have l1:=q1.length;have l2:=q2.length;have m1:=r1.len;have m2:=r2.len;by_cases hl:ds.length=es.length
 .rw[<- Xd hl,show ds.length=its.toArray.size by rw[zAh];lia]
  have hz:its.toArray.size=js.toArray.size:=by rw[zAh,zAh];lia
  exact⟨SeqAt.RcAt.lists p1.isList p2.isList hz hu (BO (h its js q1 q2)),SeqAt.RcNeAt.lists p1.isList p2.isList hz hu (BO (h its js q1 q2))⟩
 .rw[Kq hl]
  have hz:(its.toArray.size != js.toArray.size)=true:=by simp only [zAh,bne_iff_ne,ne_eq];lia
  exact⟨SeqAt.RcAt.lists_lengths p1.isList p2.isList hz hu,SeqAt.RcNeAt.lists_lengths p1.isList p2.isList hz hu⟩
def CI {A:Around} {a b:Addr} {xs ys:List V} {ds es:List D} (I:WM X pins σ H s) (hu:A.units<cLine) (h1:WX X.K H a xs) (h2:WX X.K H b ys) (r1:Reps X.K H ds xs) (r2:Reps X.K H es ys)
  (h:∀ its js,WR xs its->WR ys js->∀ j u v,its[j]?=some u->js[j]?=some v->SeqAt.EqAt A.in1 s u v (RT ds es j)):SeqAt.RcAt A s (.ref a) (.ref b) (eqDs ds es)/\SeqAt.RcNeAt A s (.ref a) (.ref b) (!eqDs ds es):=by
 obtain⟨its,q1,p1,z1⟩:=I.tuple h1;obtain⟨js,q2,p2,z2⟩:=I.tuple h2;have l1:=q1.length;have l2:=q2.length;have m1:=r1.len;have m2:=r2.len;have e:((zAO (min its.toArray.size js.toArray.size)).all (RT ds es)&&its.toArray.size==js.toArray.size)=eqDs ds es:=by
  rw[zAh,zAh];by_cases hl:ds.length=es.length
  .rw[<- Xd hl,show min its.length js.length=ds.length by lia,show its.length=js.length by lia]
   simp
  .rw[Kq hl]
   have:(its.length==js.length)=false:=by simp;lia
   rw[this,Bool.and_false]
 rw[<- e];exact⟨SeqAt.RcAt.tuples p1 p2 hu (BO (h its js q1 q2)),SeqAt.RcNeAt.tuples p1 p2 hu (BO (h its js q1 q2))⟩
mutual
theorem WZ (I:WM X pins σ H s):∀ (d e:D) (A:Around) (x y:V) (u v:Value),A.units+V7 d+V7 e<cLine->Vj X.K H d x->Vj X.K H e y->WS x u->WS y v->SeqAt.EqAt A s u v (AQ d e)
 |.at a,.at b,A,x,y,u,v,hu,h1,h2,ru,rv=>by
  unfold Vj at h1 h2;obtain⟨rfl,f⟩:=h1;obtain⟨rfl,g⟩:=h2;unfold AQ;exact W2 ru rv f g
 |.at a,.seq t es,A,x,y,u,v,hu,h1,h2,ru,rv=>by
  unfold Vj at h1 h2;obtain⟨rfl,f⟩:=h1;obtain⟨b,ys,rfl,t2,l2,_⟩:=h2;cases rv;unfold AQ;cases t with
  |true=>obtain⟨_,_,p,_⟩:=I.tuple (t2 rfl);exact HF f ru p (by lia)
  |false=>obtain⟨_,_,p,_⟩:=I.list (l2 rfl);exact EH f ru p.isList (by lia)
 |.seq t ds,.at b,A,x,y,u,v,hu,h1,h2,ru,rv=>by
  unfold Vj at h1 h2;obtain⟨rfl,f⟩:=h2;obtain⟨a,xs,rfl,t1,l1,_⟩:=h1;cases ru;unfold AQ;cases t with
  |true=>obtain⟨_,_,p,_⟩:=I.tuple (t1 rfl);exact HL f rv p (by lia)
  |false=>obtain⟨_,_,p,_⟩:=I.list (l1 rfl);exact DQ f rv p.isList (by lia)
 |.seq t ds,.seq t' es,A,x,y,u,v,hu,h1,h2,ru,rv=>by
  have k1:=h1;have k2:=h2;unfold Vj at h1 h2;obtain⟨a,xs,rfl,t1,l1,r1⟩:=h1;obtain⟨b,ys,rfl,t2,l2,r2⟩:=h2;cases ru;cases rv;unfold V7 at hu;have hu':A.in1.units+deps ds+deps es<cLine:=by rw[Around.in1_units];lia
  have hu0:A.units<cLine:=by lia
  by_cases hab:a=b
  .subst hab
   rw[S1 I _ _ _ k1 k2];exact .same _
  .unfold AQ
   cases t with
   |true=>
    cases t' with
    |true=>exact .of_refs hab (CI I hu0 (t1 rfl) (t2 rfl) r1 r2 (reps_at I ds es A.in1 xs ys hu' r1 r2)).1
    |false=>
     obtain⟨_,_,p,_⟩:=I.tuple (t1 rfl);obtain⟨_,_,q,_⟩:=I.list (l2 rfl);exact .tuple_list p q.isList hu0
   |false=>
    cases t' with
    |true=>
     obtain⟨_,_,p,_⟩:=I.list (l1 rfl);obtain⟨_,_,q,_⟩:=I.tuple (t2 rfl);exact .list_tuple p.isList q hu0
    |false=>exact .of_refs hab (P8 I hu0 (l1 rfl) (l2 rfl) r1 r2 (reps_at I ds es A.in1 xs ys hu' r1 r2)).1
theorem reps_at (I:WM X pins σ H s):∀ (ds es:List D) (A:Around) (xs ys:List V),A.units+deps ds+deps es<cLine->Reps X.K H ds xs->Reps X.K H es ys ->
  ∀ its js,WR xs its->WR ys js->∀ j u v,its[j]?=some u->js[j]?=some v->SeqAt.EqAt A s u v (RT ds es j)
 |[],es,A,xs,ys,hu,h1,h2,its,js,q1,q2,j,u,v,e1,e2=>by
  unfold Reps at h1;subst h1;cases q1;simp at e1
 |d::ds,[],A,xs,ys,hu,h1,h2,its,js,q1,q2,j,u,v,e1,e2=>by
  unfold Reps at h2;subst h2;cases q2;simp at e2
 |d::ds,e::es,A,xs,ys,hu,h1,h2,its,js,q1,q2,j,u,v,e1,e2=>by
  unfold Reps at h1 h2;obtain⟨y,ys',rfl,k1,r1⟩:=h1;obtain⟨z,zs',rfl,k2,r2⟩:=h2;unfold deps at hu;cases q1 with
  |cons ru t1=>
   cases q2 with
   |cons rv t2=>
    cases j with
    |zero=>
     simp only [List.getElem?_cons_zero,Option.some.injEq] at e1 e2;subst e1 e2;exact WZ I d e A y z _ _ (by lia) k1 k2 ru rv
    |succ j=>
     simp only [List.getElem?_cons_succ] at e1 e2;exact reps_at I ds es A ys' zs' (by lia) r1 r2 _ _ t1 t2 j u v e1 e2
end
end
section
variable {X:Cx}
def SB (K:zAb) (neg:Bool):R2:=λx y H Q=>∃ t ds es,Vj K H (.seq t ds) x/\Vj K H (.seq t es) y/\deps ds+deps es<=40/\Q (.bl (if neg then !eqDs ds es else eqDs ds es)) H
def TY {X:Cx} (neg:Bool) (hu:X.A.units+64<cLine):Pa X (compareOp (if neg then .NotEq else .Eq)) (SB X.K neg):=by
 intro pins s σ H x y v u Q I rx ry h;obtain⟨t,ds,es,h1,h2,hd,q⟩:=h;unfold Vj at h1 h2;obtain⟨a,xs,rfl,t1,l1,r1⟩:=h1;obtain⟨b,ys,rfl,t2,l2,r2⟩:=h2;cases rx;cases ry;have hu':X.A.in1.units+deps ds+deps es<cLine:=by rw[Around.in1_units];lia
 have hu0:X.A.units<cLine:=by lia
 have z:SeqAt.RcAt X.A s (.ref a) (.ref b) (eqDs ds es)/\SeqAt.RcNeAt X.A s (.ref a) (.ref b) (!eqDs ds es):=by
  cases t with
  |true=>exact CI I hu0 (t1 rfl) (t2 rfl) r1 r2 (reps_at I ds es X.A.in1 xs ys hu' r1 r2)
  |false=>exact P8 I hu0 (l1 rfl) (l2 rfl) r1 r2 (reps_at I ds es X.A.in1 xs ys hu' r1 r2)
 cases neg with
 |true=>exact z.2 X.prog X.w _ _ ⟨.bl (!eqDs ds es),H,I,rfl,q⟩
 |false=>exact z.1 X.prog X.w _ _ ⟨.bl (eqDs ds es),H,I,rfl,q⟩
def C4 {K:zAb} (hu:X.A.units+64<cLine) (hK:X.K=K:=by rfl):Pa X (compareOp .NotEq) (SB K true):=hK▸TY true hu
def BG {k:Nat} {A:Around} (hr:XA k A):A.units+64<cLine:=hr.units
def Vm {K:zAb} (h:X.K=K):QI X (RK K):=h▸Gz
def Pw {K K':zAb} {a:Addr} {xs:List V} {tc:TT} {te:TE} {σ:St} {ix:List Nat} {QQ:Hp->Prop} {H1:Hp} {p:Addr} (Pv:Nat->List V->Hp->Prop) (h0:Pv 0 [] (upd H1 p (.lst [])))
  (hp:∀ i ys H,i<=xs.length->Pv i ys H->H p=some (.lst ys)/\ys.length<=i/\WL K H a xs) (hn:xs.length<=sizeLine)
  (hs:∀ i x ys H,xs[i]?=some x->Pv i ys H->∃ t y z,x=.ref t/\WX K' H t [y,z]/\tc (some y::some z::Fv ix σ) H λb H5=>if b=true then te (some y::some z::Fv ix σ) H5 λv H6=>H6 p=some (.lst ys) /\
   (some y::some z::Fv ix σ)=(some y::some z::Fv ix σ)/\Pv (i+1) (ys++[v]) (upd H6 p (.lst (ys++[v]))) else (some y::some z::Fv ix σ)=(some y::some z::Fv ix σ)/\Pv (i+1) ys H5)
  (hd:∀ ys H,Pv xs.length ys H->QQ H) :
  Zt (EG K' 2 (Rv (He 0) (Rv (He 1) FV))) tc te 2 ix σ (NY K a) p H1 QQ:=by
 refine⟨λi m ys σ2 H2=>m=xs.length-i/\i<=xs.length/\(∃ o o',σ2=o::o'::Fv ix σ)/\Pv i ys H2,⟨xs.length,by simp,zAB _,⟨none,none,rfl⟩,h0⟩,?_⟩;rintro i m ys σ2 H2 ⟨rfl,hi,⟨o,o',rfl⟩,pv⟩;obtain⟨hp2,hl2,hq2⟩:=hp i ys H2 hi pv;refine⟨hp2,?_⟩;by_cases hlt:i<xs.length
 .refine .inr ⟨⟨xs,xs[i],hq2,by simp [hlt]⟩,by lia,λx H3 yy=>?_⟩
  obtain⟨e,yy⟩:=yy;subst e;obtain⟨t,y,z,ex,ht,q⟩:=hs i x ys _ (yy xs hq2) pv;subst ex;refine⟨λys' σ' H'=>σ'=(some y::some z::Fv ix σ)/\Pv (i+1) ys' H',λys' σ' H' ⟨e,q⟩=>⟨xs.length-(i+1),by lia,rfl,hlt,⟨_,_,e⟩,q⟩,?_⟩;exact⟨t,_,rfl,ht,rfl,_,_,rfl,_,_,rfl,rfl,q⟩
 .have e:i=xs.length:=by lia
  subst e;exact .inl ⟨⟨xs,hq2,zAn _⟩,hd ys H2 pv⟩
end
structure JO (K:zAb) (B:Addr) (m:Str) (f:Addr):Prop where
 ga:zBD K (.ref B) "__getattribute__"=some (some (.builtin "type.__getattribute__"))
 rd:zCb K B (.type "type")=true
 fc:zCc K (.ref B) (.type "type") m=some (.val (.ref f))
 kp:zAJ K (.ref f)=true
section
variable {X:Cx} {k:Nat} {m x:Str} {ps:List Str} {sp:Sp} {e:Expr} {es:List Expr} {p apos pos:Pos} {t:TA} {W:St->XK}
def R8 {A:Around} {E:Value->Shared->Prop} {pins:List (Addr×Obj)} {σ:St} {H:Hp} {s:Shared} {B g:Addr} {pl:Sem Bool} {Q:Value×List Value->Shared->Prop} (I:WM X pins σ H s) (Z:JO X.K B m g) (h:Q (.ref g,[]) { s with toks:=s.toks+1 }) :
  wpAny (model X.prog X.w) A (getMethod (.ref B) m pl) Q E s:=PySem.W.method_cls I.kIn Z.ga (PySem.W.cls_value I.kIn Z.rd Z.fc rfl h)
structure ID (P:Program) (w:World) (K:zAb) (mg:Str->Option Value) (base:Heap) (k:Nat) (x m:Str) (ps:List Str) (sp:Sp):Prop where
 ex:∃ B f fd,WN P w K mg base Do k f fd ps sp/\XB K fd ps []/\JO K B m f/\mg x=some (.ref B)
def Xb {pl:Sem Bool} (C:ID X.prog X.w X.K X.mg X.base k x m ps sp) (hr:XA k X.A) (hg:Gl X x) (ha:PA X (e::es) t) (hdb:(x==("__debug__" : Str))=false:=by decide)
  (hst:starEach (e::es) X.env=(false,eval e X.env)::starEach es X.env:=by rfl) (hpl:(backTo pos (starEach es X.env)).any (·.1)=false:=by rfl)
  (ht:eval (.Call (.Attribute (.Name x p) m apos) (e::es) [] pos) X.env=(do
   let ov <- eval (.Name x p) X.env
   standAt apos.atName
   let (f,first) <- holding [ov] (getMethod ov m pl)
   callWith pos f first (backTo pos (starEach (e::es) X.env)) (backToKw pos (keywordEach [] X.env))):=by rfl) :
  PE X (.Call (.Attribute (.Name x p) m apos) (e::es) [] pos) (EX sp [] E0 t):=by
 intro pins s σ H Q I h;obtain⟨B,f,fd,F,b,Z,hm⟩:=C.ex;refine zBz (pl:=pl) (Lp I hg hm ?_ hdb) ht;refine R8 I Z ?_;have I':=I.tok (s.toks+1);refine zBT (first:=[]) (h₀:=X.base) I.ok.mod.kin Z.kp (Dx (ha pos pins _ σ H _ I' h) λus s2 ⟨vs,H2,I2,r,q2⟩=>⟨I2.kIn,?_⟩) hst hpl;exact Wx (us:=us) (vs:=vs) F hr b .nil Zn I2 r q2
def OB (Fam:Addr->Prop) (m:Str) (sp:Addr->Sp) (ta:TE) (t:TA):TE:=λσ H Q=>ta σ H λx H1=>∃ a C dx fs,x=.ref a/\H1 a=some (.ins C dx fs)/\Fam C/\fs.lookup m=none/\t σ H1 λvs H2=>sp C (.ref a::vs) H2 Q E0
structure E5 (P:Program) (w:World) (K:zAb) (mg:Str->Option Value) (base:Heap) (k:Nat) (Fam:Addr->Prop) (m:Str) (ps:List Str) (sp:Addr->Sp):Prop where
 ex:∀ C,Fam C->Ec P w K mg base k C m ps (sp C)
def Iv {Fam:Addr->Prop} {spC:Addr->Sp} {o:Expr} {ta:TE} {pl:Sem Bool} (M:E5 X.prog X.w X.K X.mg X.base k Fam m ps spC) (hr:XA k X.A) (he:PE X o ta)
  (ht:eval (.Call (.Attribute o m apos) [] [] pos) X.env=(do
   let ov <- eval o X.env
   standAt apos.atName
   let (f,first) <- holding [ov] (getMethod ov m pl)
   callWith pos f first (backTo pos (starEach [] X.env)) (backToKw pos (keywordEach [] X.env))):=by rfl) :
  PE X (.Call (.Attribute o m apos) [] [] pos) (OB Fam m spC ta KJ):=by
 intro pins s σ H Q I h;refine zBz (pl:=pl) (Dx (he pins s σ H _ I h) λu s1 h9=>?_) ht;obtain⟨x,H1,I1,rx,a,C,dx,fs,ex,ea,hF,l,q⟩:=h9;subst ex;obtain rfl:u=Value.ref a:=rx;obtain⟨f,fd,F,b,hm⟩:=(M.ex C hF).ex;refine Le I1 ea (M.ex C hF).cl hm l ?_;exact PySem.W.callWith_K0 (first:=[.ref a]) I1.kIn hm.kp (Wx (us:=[.ref a]) (vs:=[.ref a]) F hr b .nil Zn I1 (.cons rfl .nil) q)
end
def SA (K:zAb) (mg:Str->Option Value) (x:Str) (xs:List V):Prop:=∃ a,mg x=some (.ref a)/\∀ H,WX K H a xs
def LM {X:Cx} {x:Str} {xs:List V} {pos:Pos} (h:SA X.K X.mg x xs) (hg:Gl X x) (hd:(x==("__debug__" : Str))=false:=by decide):PE X (.Name x pos) (λ_ H Q=>∀ a,WX X.K H a xs->Q (.ref a) H):=by
 obtain⟨a,e,hs⟩:=h;exact λ_ _ _ H _ I q=>Lp I hg e ⟨.ref a,H,I,rfl,q a (hs H)⟩ hd
section
theorem Iu {z:Str} {B:Nat}:∀ {ps:List Str},(∀ y∈ps,y.length<=B)->(Str.join z ps).length<=ps.length*(B+z.length)
 |[],_=>by show 0<=_;lia
 |[x],h=>by
  have:=h x zAk;show x.length<=1*(B+z.length)
  lia
 |x::y::r,h=>by
  have h1:=h x zAk;have ih:=Iu (z:=z) (B:=B) (ps:=y::r) λq hq=>h q (zAi _ hq);show (x++z++Str.join z (y::r)).length<=_;have e0:(x++z++Str.join z (y::r)).length=x.length+z.length+(Str.join z (y::r)).length:=by
   show (x.cps++z.cps++(Str.join z (y::r)).cps).size=_;rw[Array.size_append,Array.size_append];rfl
  rw[e0];have e:(x::y::r).length*(B+z.length)=(y::r).length*(B+z.length)+(B+z.length):=by rw[zAe,Nat.succ_mul]
  lia
end
structure SR (K:zAb) (mg:Str->Option Value) (x:Str) (C:Addr):Prop where
 makes:zBQ K C=true
 init:zAd K (.ref C) "__init__"=some (some (.builtin "object.__init__"))
 kp:zAJ K (.ref C)=true
 at_:mg x=some (.ref C)
def US (C:Addr):TE:=λ_ H Q=>∀ y dx,H y=none->H dx=none->dx≠y->Q (.ref y) (upd (upd H dx (.own y)) y (.ins C dx []))
def AW {X:Cx} {x:Str} {C:Addr} {p pos:Pos} (M:SR X.K X.mg x C) (hg:Gl X x) (hdb:(x==("__debug__" : Str))=false:=by decide):PE X (.Call (.Name x p) [] [] pos) (US C):=by
 intro pins s σ H Q I h;refine wpAny_Call_Name_kw (Lp I hg M.at_ ?_ hdb);refine PySem.W.callWith_K0 I.kIn M.kp (wpAny_call (EI I.kIn M.makes M.init (λself=>PySem.W.Looks.of_pure (PySem.W.oi_bind self)) ?_));have hq:=h (s.heap.objs.size+1) s.heap.objs.size (I.hok.fresh (zBY _)) (I.hok.fresh (zAn _)) (zAy (zCa _));have I2:=WM.made (C:=C) I;have Y:=PySem.W.makes_of (M:=model X.prog X.w) I.kIn M.makes;have ob:((s.heap.push zAL).push (zAQ C s.heap.objs.size)).get? (s.heap.objs.size+1)=some (zAQ C s.heap.objs.size):=by
  have e:(s.heap.push zAL).objs.size=s.heap.objs.size+1:=by rw[zBV]
  rw[<- e];exact zAG _ rfl
 have t1:PySem.W.Looks (model X.prog X.w) ((s.heap.push zAL).push (zAQ C s.heap.objs.size)) (typeOf (.ref (s.heap.objs.size+1))) (.ref C):=(PySem.W.Looks.ld ob).andThen .now;have t2:PySem.W.Looks (model X.prog X.w) ((s.heap.push zAL).push (zAQ C s.heap.objs.size)) (isInstance (.ref (s.heap.objs.size+1)) (.type "object")) true:=t1.andThen (Y.top.keeps λb o e=>zAm _ (zAm _ e));obtain⟨hh,g,d,t,os⟩:=s;refine codeAny_call_builtin PySem.W.oi_plain PySem.W.entry_oi (@PySem.W.check_slot (model X.prog X.w) _ _ _ "object.__init__" "object" "__init__" (.ref (hh.objs.size+1)) [] [] _ PySem.W.oi_kind PySem.W.oi_split t2 (PySem.W.oi_args (.ref (hh.objs.size+1))) ?_);rw[PySem.W.oi_run];exact zCe (And.intro rfl ⟨V.ref (hh.objs.size+1),_,I2,rfl,hq⟩)
end L2
namespace L2
open PySem PySem.Spec PyProof.Rows PySem.W
section
variable {X:Cx}
def TH (K:zAb) (t:TE):TT:=λσ H Q=>t σ H λx H1=>∃ k,SL K x H1 k/\Q k H1
def NW {e:Expr} {t:TE} (h:PE X e t) (he:∀ whole,isTrue e X.env whole=(do let v <- whole;standAt e.pos;holding [v] (truthy v)):=by intro _;rfl):PT X e (TH X.K t):=by
 intro pins s σ H Q I hw;exact isTrue_plain (Dx (h pins s σ H _ I hw) λv s1 ⟨x,H1,I1,r1,q1⟩=>OZ pins s1 σ H1 x v Q I1 r1 q1) (he _)
end
end L2
namespace L2
open PySem PySem.Spec PyProof.Rows
structure YJ (K:zAb) (x qual:Str) (st:Stmt) (f:Addr) (fd:zCh):Prop where
 ex:∃ (oc:Value) (od:Option Addr) (dV kV doc pm:Value) (an:Option Addr) (cdv ct:Value) (osl:Array (Option Value)),
  fd=zAK x qual (Dt st) (Dj st) (Av st) dV kV doc pm an cdv ct/\K.lookup f=some ⟨oc,od,.func fd,osl⟩/\zAP K cdv qual=true
 kp:zAJ K (.ref f)=true
section
variable {P:Program} {w:World} {K:zAb} {mg:Str->Option Value} {base:Heap}
def YJ.ok {x qual:Str} {st:Stmt} {f:Addr} {fd:zCh} {N ps:List Str} {k:Nat} {sp:Sp} (F:YJ K x qual st f fd) (S:Bc N ps (Av st)) (len:∀ vs H Q E,sp vs H Q E->vs.length=ps.length)
  (hbody:∀ (cdv:Value) (A:Around) (outer:List Env) (s:Shared) (H:Hp) (vs:List V) (Q:VK) (E:XK),XA k (A.deeper (envOfC qual (Av st) s.heap.objs.size f cdv))->sp vs H Q E ->
   ∃ t,PSs (X6 Do P w K mg base N qual (Av st) f cdv A outer s H E).nox (Dj st) t/\t { nx:=λ_ H'=>Q .non H',rt:=Q } (Rf N vs) H):WN P w K mg base Do (k+1) f fd ps sp:=by
 obtain⟨oc,od,dV,kV,doc,pm,an,cdv,ct,osl,e,lk,hcd⟩:=F.ex;subst e;refine MX lk hcd S len λA outer s H vs Q E hr hsp=>?_;obtain⟨t,h,q⟩:=hbody cdv A outer s H vs Q E hr hsp;exact⟨t,h.nox,q⟩
def KA {x qual:Str} {st:Stmt} {f:Addr} {oc:Value} {od an:Option Addr} {osl:Array (Option Value)} {dV kV doc pm cdv ct:Value} (l:K.lookup f=some ⟨oc,od,.func (zAK x qual (Dt st) (Dj st) (Av st) dV kV doc pm an cdv ct),osl⟩)
  (c:zAP K cdv qual=true) (k:zAJ K (.ref f)=true):YJ K x qual st f (zAK x qual (Dt st) (Dj st) (Av st) dV kV doc pm an cdv ct):=⟨⟨oc,od,dV,kV,doc,pm,an,cdv,ct,osl,rfl,l,c⟩,k⟩
end
def Vq {K K':zAb} {a:Addr} {xs:List V} {i1 i2:Nat} {tb:TS} {D:Om} {σ:St} {H:Hp} (Pv:Nat->St->Hp->Prop) (h0:Pv 0 σ H) (hl:∀ i σ H,i<=xs.length->Pv i σ H->WL K H a xs)
  (hs:∀ i x σ H t,xs[i]?=some x->Pv i σ H->H t=none->tb { D with nx:=Pv (i+1),ct:=Pv (i+1),bk:=D.nx } ((σ.set i1 (some (.int i))).set i2 (some x)) (upd H t (.tup [.int i,x]))) (hd:∀ σ H,Pv xs.length σ H->D.nx σ H) :
  ∃ W:Nat->Nat->St->Hp->Prop,(∃ m,W 0 m σ H)/\∀ i m σ H,W i m σ H ->
   ((RE K a).stop i H/\D.nx σ H)\/((RE K a).go i H/\∃ N:St->Hp->Prop,(∀ σ' H',N σ' H'->∃ m',m'<m/\W (i+1) m' σ' H')/\∀ x H',(RE K a).yld i H x H'->EG K' 2 (Rv (He i1) (Rv (He i2) FV)) x σ H' λσ2 H2=>tb { D with nx:=N,ct:=N,bk:=D.nx } σ2 H2):=by
 refine⟨λi m σ H=>m=xs.length-i/\i<=xs.length/\Pv i σ H,⟨xs.length,by simp,zAB _,h0⟩,?_⟩;rintro i m σ H ⟨rfl,hi,p⟩;have q:=hl i σ H hi p;by_cases hlt:i<xs.length
 .refine .inr ⟨⟨xs,xs[i],q,by simp [hlt]⟩,Pv (i+1),λσ' H' p'=>⟨xs.length-(i+1),by omega,rfl,hlt,p'⟩,λx H' y=>?_⟩
  obtain⟨t,z,ex,ht,hz,e3⟩:=y;subst ex e3;exact⟨t,_,rfl,WX.of Ac,rfl,_,_,rfl,_,_,rfl,rfl,hs i z σ H t (hz xs q) p ht⟩
 .obtain rfl:i=xs.length:=by omega
  exact .inl ⟨⟨xs,q,zAn _⟩,hd σ H p⟩
def QL (K:zAb) (a b:Addr):It:=
 ⟨λi H=>∃ xs ys x y,WL K H a xs/\WL K H b ys/\xs[i]?=some x/\ys[i]?=some y,
   λi H v H'=>∃ t x y,v=.ref t/\H t=none/\(∀ xs,WL K H a xs->xs[i]?=some x)/\(∀ ys,WL K H b ys->ys[i]?=some y)/\H'=upd H t (.tup [x,y]),
   λi H=>∃ xs ys,WL K H a xs/\WL K H b ys/\(xs.length<=i\/ys.length<=i)⟩
structure Zp (z u o i j:Addr):Prop where
 uz:u≠z
 oz:o≠z
 iz:i≠z
 jz:j≠z
 uo:u≠o
 ui:u≠i
 uj:u≠j
 oi:o≠i
 oj:o≠j
 ij:i≠j
def PX (n:Nat):Zp (n+4) (n+2) (n+3) n (n+1):=
 ⟨zAy (by lia),zAy (by lia),zAy (by lia),zAy (by lia),zAy (by lia),zBr (by lia),zBr (by lia),zBr (by lia),zBr (by lia),zAy (by lia)⟩
def NG (a b z u o i j:Addr) (k:Nat) (h:Heap):Prop:=IsZip h z u o .none/\IsPair h u (.ref i) (.ref j)/\(∃ x y,IsPair h o x y)/\h.IsListIter i a k/\h.IsListIter j b k
def Zs {a b z u o i j:Addr} {k:Nat} {h:Heap} {xs ys:Array Value} (D:Zp z u o i j) (st:NG a b z u o i j k h) (ha:h.IsList a xs) (hb:h.IsList b ys):ZipApart z u o i j a b:=by
 obtain⟨hz,hu,⟨x,y,ho⟩,⟨oi,ei,ci,_⟩,⟨oj,ej,cj,_⟩⟩:=st;have ne:∀ {c d:Addr} {p q:Obj} {zs:Array Value},h.IsList c zs->h.get? d=some q->q.cls≠.type "list"->c≠d:=λ{c d p q zs} hl hd hn e=>by
  obtain⟨p',hp,hc,_⟩:=hl;rw[e,hd] at hp;cases hp;exact hn hc
 have nz:(Value.type "zip")≠.type "list":=by ac_nf
 have nt:(Value.type "tuple")≠.type "list":=by ac_nf
 have ni:(Value.type "list_iterator")≠.type "list":=by ac_nf
 have hci:oi.cls≠.type "list":=by rw[ci];exact ni
 have hcj:oj.cls≠.type "list":=by rw[cj];exact ni
 constructor <;> first
  |exact D.uz|exact D.oz|exact D.iz|exact D.jz|exact D.uo|exact D.ui|exact D.uj|exact D.oi|exact D.oj|exact D.ij
  |exact ne (p:=oi) ha hz nz|exact ne (p:=oi) hb hz nz|exact ne (p:=oi) ha ho nt|exact ne (p:=oi) hb ho nt|exact ne (p:=oi) ha hu nt|exact ne (p:=oi) hb hu nt
  |exact ne (p:=oi) ha ei hci|exact ne (p:=oi) hb ei hci|exact ne (p:=oi) ha ej hcj|exact ne (p:=oi) hb ej hcj
def FF {P:Program} {w:World} {K:zAb} {elts:List Expr} {n:Nat} {tp:Pos} (a b z u o i j:Addr) (D:Zp z u o i j) :
  R5 P w K (.Tuple elts n tp) (QL K a b) [z,u,o,i,j] z (NG a b z u o i j) where
 mem:=by simp
 obj:=λk h st c hc=>by
  obtain⟨hz,hu,⟨x,y,ho⟩,⟨oi,ei,ci,di⟩,⟨oj,ej,cj,dj⟩⟩:=st;simp only [zAj,zAV,or_false] at hc;rcases hc with rfl|rfl|rfl|rfl|rfl
  .exact⟨_,hz,λv q=>by
    have q':Data.fields _=Data.cell v:=q;cases q'⟩
  .exact⟨_,hu,λv q=>by
    have q':Data.seq _ _=Data.cell v:=q;cases q'⟩
  .exact⟨_,ho,λv q=>by
    have q':Data.seq _ _=Data.cell v:=q;cases q'⟩
  .exact⟨oi,ei,λv q=>by rw[di] at q;cases q⟩
  .exact⟨oj,ej,λv q=>by rw[dj] at q;cases q⟩
 keep:=λk h h' st kk=>by
  obtain⟨hz,hu,⟨x,y,ho⟩,h1,h2⟩:=st;exact⟨kk z (by simp) _ hz,kk u (by simp) _ hu,⟨x,y,kk o (by simp) _ ho⟩,h1.at λob e=>kk i (by simp) ob e,h2.at λob e=>kk j (by simp) ob e⟩
 item:=by
  intro X hP hw hK hc k pins s σ H E I hf st hg;subst hP hw hK;obtain⟨xs,ys,x,y,hq1,hq2,hx,hy⟩:=hg;obtain⟨its,rv,p,hz⟩:=I.list hq1;obtain⟨jts,rv',p',hz'⟩:=I.list hq2;obtain⟨v,hv,ru⟩:=rv.get hx;obtain⟨v',hv',ru'⟩:=rv'.get hy;have DD:=Zs D st p.isList p'.isList;obtain⟨sz,su,⟨x0,y0,so⟩,s1,s2⟩:=id st;have fz:=hf z (by simp);have fu:=hf u (by simp);have fo:=hf o (by simp);have fi:=hf i (by simp);have fj:=hf j (by simp);refine wpAny_pyNext_zip_item DD sz su so s1 s2 p.isList p'.isList (x:=v) (y:=v') (by simpa using hv) (by simpa using hv') λh1 a1 a2 a3 a4 a5 a6 hk=>⟨_,rfl,?_⟩;refine wpAny_letOwnedTupleGo_zip a1 λh2 hz2 hs2=>?_;have hs2':zBq z h1 h2:=hs2;have hzlt:z<s.heap.objs.size:=zAr sz;have hnT:H s.heap.objs.size=none:=I.hok.fresh (zAn _);have up:∀ c ob,c≠z->c≠o->c≠i->c≠j->s.heap.get? c=some ob->h2.get? c=some ob:=λc ob c1 c2 c3 c4 q=>(hs2'.2 c c1).trans (hk c ob c1 c2 c3 c4 q);have nch:∀ c,c∉[z,o,i,j]->c≠z/\c≠o/\c≠i/\c≠j:=λc hc=>by
   simp only [zAj,zAV,or_false,not_or] at hc;exact hc
  have ntr:∀ c ob,H c=some ob->c≠z/\c≠o/\c≠i/\c≠j:=λc ob q=>
   ⟨λe=>by (rw[e,fz.1] at q;cases q),λe=>by (rw[e,fo.1] at q;cases q),λe=>by (rw[e,fi.1] at q;cases q),λe=>by (rw[e,fj.1] at q;cases q)⟩
  have up2:∀ c ob,c∉[z,o,i,j]->s.heap.get? c=some ob->h2.get? c=some ob:=λc ob hc q=>up c ob (nch c hc).1 (nch c hc).2.1 (nch c hc).2.2.1 (nch c hc).2.2.2 q;have up3:∀ c ob ob',H c=some ob'->s.heap.get? c=some ob->h2.get? c=some ob:=λc ob ob' hc q=>up c ob (ntr c ob' hc).1 (ntr c ob' hc).2.1 (ntr c ob' hc).2.2.1 (ntr c ob' hc).2.2.2 q;have htup:h2.get? s.heap.objs.size=some { cls:=.type "tuple",data:=.seq #[v,v'] }:=(hs2'.2 _ (zBr hzlt)).trans a5;have I1:WM X pins σ (upd H s.heap.objs.size (.tup [x,y])) { s with heap:=h2,gens:=s.gens,drawn:=s.drawn,toks:=s.toks }:=by
   refine I.step (ch:=[z,o,i,j]) (λc hc=>?_) (λc ob _ _ hc q _=>up2 c ob hc q) (λc ob _ _ hc q _=>⟨ob.slots,up2 c ob hc q⟩) (λc ob _ q n=>by rw[Au (zAy (zAr q))];exact n)
    (λc ob hc q=>⟨ob,up2 c ob hc q⟩) (λc xs q=>by rw[Au (Ak q hnT)];exact q) (λc ob u q=>by rw[Au (Ak q hnT)];exact q) (λc ps q=>⟨#[],by rw[Au (Ak q hnT),q];simp⟩)
    (λm hm=>?_) (λc ob q=>?_) I.bare
   .simp only [zAj,zAV,or_false] at hc
    rcases hc with rfl|rfl|rfl|rfl
    .exact⟨fz.2.2.2.1,fz.2.1,fz.2.2.2.2.1,fz.2.2.2.2.2⟩
    .exact⟨fo.2.2.2.1,fo.2.1,fo.2.2.2.2.1,fo.2.2.2.2.2⟩
    .exact⟨fi.2.2.2.1,fi.2.1,fi.2.2.2.2.1,fi.2.2.2.2.2⟩
    .exact⟨fj.2.2.2.1,fj.2.1,fj.2.2.2.2.1,fj.2.2.2.2.2⟩
   .obtain⟨ob,es,ep,hoL,r⟩:=hm
    exact⟨ob,es,ep,up _ ob (Ne.symm fz.2.1) (Ne.symm fo.2.1) (Ne.symm fi.2.1) (Ne.symm fj.2.1) hoL,r⟩
   .by_cases hb:c=s.heap.objs.size
    .subst hb
     rw[Ac] at q;cases q;exact⟨Gv (by show 2<=1000;decide),[v,v'],.cons ru (.cons ru' .nil),_,htup,rfl,_,rfl⟩
    .rw[Au hb] at q
     refine (I.hok c ob q).stay (λd w' hd q2=>?_) (λd q2=>by rw[Au (Ak q2 hnT)];exact q2) (λd zs q2=>by rw[Au (Ak q2 hnT)];exact q2);rcases hd with rfl|hd
     .exact up3 _ w' _ q q2
     .exact up3 _ w' _ hd q2
  refine⟨.ref s.heap.objs.size,_,I1,rfl,⟨_,x,y,rfl,hnT,λzs hy'=>by rw[I.list_inj hy' hq1];exact hx,λzs hy'=>by rw[I.list_inj hy' hq2];exact hy,rfl⟩,⟨hz2,?_,⟨v,v',?_⟩,?_,?_⟩,λc hc=>?_⟩
  .exact (hs2'.2 u D.uz).trans (hk u _ D.uz D.uo D.ui D.uj su)
  .exact (hs2'.2 o D.oz).trans a2
  .exact a3.at λob q=>(hs2'.2 i D.iz).trans q
  .exact a4.at λob q=>(hs2'.2 j D.jz).trans q
  .have hl:c<s.heap.objs.size:=by
    simp only [zAj,zAV,or_false] at hc;rcases hc with rfl|rfl|rfl|rfl|rfl
    .exact zAr sz
    .exact zAr su
    .exact zAr so
    .obtain⟨_,q,_⟩:=s1;exact zAr q
    .obtain⟨_,q,_⟩:=s2;exact zAr q
   rw[Au (zAy hl)];exact (hf c hc).1
 done:=by
  intro X hP hw hK hc k pins s σ H E I hf st hg;subst hP hw hK;obtain⟨xs,ys,hq1,hq2,hle⟩:=hg;obtain⟨its,rv,p,hz⟩:=I.list hq1;obtain⟨jts,rv',p',hz'⟩:=I.list hq2;have DD:=Zs D st p.isList p'.isList;obtain⟨sz,su,⟨x0,y0,so⟩,s1,s2⟩:=id st;have fz:=hf z (by simp);have fo:=hf o (by simp);have fi:=hf i (by simp);have fj:=hf j (by simp);have hl:=rv.length;have hl':=rv'.length;refine wpAny_pyNext_zip_end (I.ok.hd hc) DD sz su so s1 s2 p.isList p'.isList ?_ λh' hk=>⟨rfl,?_⟩
  .rcases hle with e|e
   .exact .inl (by simp;lia)
   .exact .inr (by simp;lia)
  .have nch:∀ c,c∉[z,o,i,j]->c≠z/\c≠o/\c≠i/\c≠j:=λc hc=>by
    simp only [zAj,zAV,or_false,not_or] at hc;exact hc
   have ntr:∀ c ob,H c=some ob->c≠z/\c≠o/\c≠i/\c≠j:=λc ob q=>
    ⟨λe=>by (rw[e,fz.1] at q;cases q),λe=>by (rw[e,fo.1] at q;cases q),λe=>by (rw[e,fi.1] at q;cases q),λe=>by (rw[e,fj.1] at q;cases q)⟩
   have up2:∀ c ob,c∉[z,o,i,j]->s.heap.get? c=some ob->h'.get? c=some ob:=λc ob hc q=>hk c ob (nch c hc).1 (nch c hc).2.1 (nch c hc).2.2.1 (nch c hc).2.2.2 q;have up3:∀ c ob ob',H c=some ob'->s.heap.get? c=some ob->h'.get? c=some ob:=λc ob ob' hc q=>hk c ob (ntr c ob' hc).1 (ntr c ob' hc).2.1 (ntr c ob' hc).2.2.1 (ntr c ob' hc).2.2.2 q;refine I.step (H':=H) (ch:=[z,o,i,j]) (λc hc=>?_) (λc ob _ _ hc q _=>up2 c ob hc q) (λc ob _ _ hc q _=>⟨ob.slots,up2 c ob hc q⟩) (λc ob _ q n=>n)
    (λc ob hc q=>⟨ob,up2 c ob hc q⟩) (λc xs q=>q) (λc ob u q=>q) (λc ps q=>⟨#[],by rw[q];simp⟩)
    (λm hm=>?_) (λc ob q=>?_) I.bare
   .simp only [zAj,zAV,or_false] at hc
    rcases hc with rfl|rfl|rfl|rfl
    .exact⟨fz.2.2.2.1,fz.2.1,fz.2.2.2.2.1,fz.2.2.2.2.2⟩
    .exact⟨fo.2.2.2.1,fo.2.1,fo.2.2.2.2.1,fo.2.2.2.2.2⟩
    .exact⟨fi.2.2.2.1,fi.2.1,fi.2.2.2.2.1,fi.2.2.2.2.2⟩
    .exact⟨fj.2.2.2.1,fj.2.1,fj.2.2.2.2.1,fj.2.2.2.2.2⟩
   .obtain⟨ob,es,ep,hoL,r⟩:=hm
    exact⟨ob,es,ep,hk _ ob (Ne.symm fz.2.1) (Ne.symm fo.2.1) (Ne.symm fi.2.1) (Ne.symm fj.2.1) hoL,r⟩
   .refine (I.hok c ob q).stay (λd w' hd q2=>?_) (λd q2=>q2) (λd zs q2=>q2)
    rcases hd with rfl|hd
    .exact up3 _ w' _ q q2
    .exact up3 _ w' _ hd q2
 self:=λ_ _ _ _ _ st h=>wpAny_pyIter_zip st.1 h
def TR (K:zAb) (ta:TA):TI:=λσ H R=>ta σ H λvs H1=>∃ a b,vs=[.ref a,.ref b]/\(∃ xs,WL K H1 a xs)/\(∃ ys,WL K H1 b ys)/\R (QL K a b) H1
def GI {X:Cx} {e1 e2:Expr} {ta:TA} {p pos tp:Pos} {elts:List Expr} {n:Nat} (hg:Gl X "zip") (hm:X.mg "zip"=none) (ha:PA X [e1,e2] ta) (hs:starEach [e1,e2] X.env=[(false,eval e1 X.env),(false,eval e2 X.env)]:=by rfl) (hs2:starEach [e2] X.env=[(false,eval e2 X.env)]:=by rfl) :
  PI X (.Tuple elts n tp) (.Call (.Name "zip" p) [e1,e2] [] pos) (TR X.K ta):=by
 intro pins s σ H R I h;refine Call_ (My I hg hm (show zCg "zip"=some (.type "zip") from rfl) (PyProof.Rows.callWith_type1 (Dx (ha pos pins s σ H _ I h) λus s1 h9=>?_) (by rw[hs,hs2]) (by rw[hs2];rfl)));obtain⟨vs,H1,I1,r1,q1⟩:=h9;obtain⟨a,b,ev,⟨xs,hq1⟩,⟨ys,hq2⟩,q⟩:=q1;subst ev;cases r1 with
 |cons ra rr=>
  cases rr with
  |cons rb rr=>
   cases rr
   cases ra
   cases rb
   obtain⟨its,rv,pl,hz⟩:=I1.list hq1;obtain⟨jts,rv',pl',hz'⟩:=I1.list hq2;refine call_zip_2 pl.isList pl'.isList λh' b1 b2 b3 b4 b5 b6 hk=>?_;refine wpAny_pyIter_zip b1 ?_;have I2:WM X pins σ H1 { s1 with heap:=h' }:=I1.kept (t':=s1.toks) hk;refine⟨_,[s1.heap.objs.size+4,s1.heap.objs.size+2,s1.heap.objs.size+3,s1.heap.objs.size,s1.heap.objs.size+1],_,_,H1,rfl,I2,FF a b (s1.heap.objs.size+4) (s1.heap.objs.size+2) (s1.heap.objs.size+3) s1.heap.objs.size (s1.heap.objs.size+1) (PX _),⟨b1,b2,⟨_,_,b3⟩,b4,b5⟩,λc hc=>?_,q⟩;have le:s1.heap.objs.size<=c:=by
    simp only [zAj,zAV,or_false] at hc;rcases hc with rfl|rfl|rfl|rfl|rfl <;> lia
   exact I1.fpOk le (I1.hok.fresh le)
def LQ {K K':zAb} {a b:Addr} {xs ys:List V} {i1 i2:Nat} {tb:TS} {D:Om} {σ:St} {H:Hp} (Pv:Nat->St->Hp->Prop) (h0:Pv 0 σ H) (hl:∀ i σ H,i<=min xs.length ys.length->Pv i σ H->WL K H a xs/\WL K H b ys)
  (hs:∀ i x y σ H t,xs[i]?=some x->ys[i]?=some y->Pv i σ H->H t=none->tb { D with nx:=Pv (i+1),ct:=Pv (i+1),bk:=D.nx } ((σ.set i1 (some x)).set i2 (some y)) (upd H t (.tup [x,y]))) (hd:∀ σ H,Pv (min xs.length ys.length) σ H->D.nx σ H) :
  ∃ W:Nat->Nat->St->Hp->Prop,(∃ m,W 0 m σ H)/\∀ i m σ H,W i m σ H ->
   ((QL K a b).stop i H/\D.nx σ H)\/((QL K a b).go i H/\∃ N:St->Hp->Prop,(∀ σ' H',N σ' H'->∃ m',m'<m/\W (i+1) m' σ' H')/\∀ x H',(QL K a b).yld i H x H'->EG K' 2 (Rv (He i1) (Rv (He i2) FV)) x σ H' λσ2 H2=>tb { D with nx:=N,ct:=N,bk:=D.nx } σ2 H2):=by
 refine⟨λi m σ H=>m=min xs.length ys.length-i/\i<=min xs.length ys.length/\Pv i σ H,⟨min xs.length ys.length,rfl,zAB _,h0⟩,?_⟩;rintro i m σ H ⟨rfl,hi,p⟩;obtain⟨q1,q2⟩:=hl i σ H hi p;by_cases hlt:i<min xs.length ys.length
 .have l1:i<xs.length:=by lia
  have l2:i<ys.length:=by lia
  refine .inr ⟨⟨xs,ys,xs[i],ys[i],q1,q2,by simp [l1],by simp [l2]⟩,Pv (i+1),λσ' H' p'=>⟨min xs.length ys.length-(i+1),by lia,rfl,by lia,p'⟩,λv H' y=>?_⟩;obtain⟨t,x,z,ex,ht,hx,hz,e3⟩:=y;subst ex e3;exact⟨t,_,rfl,WX.of Ac,rfl,_,_,rfl,_,_,rfl,rfl,hs i x z σ H t (hx xs q1) (hz ys q2) p ht⟩
 .obtain rfl:i=min xs.length ys.length:=by lia
  exact .inl ⟨⟨xs,ys,q1,q2,by lia⟩,hd σ H p⟩
def JE {K K':zAb} {a b:Addr} {xs zs:List V} {tc:TT} {te:TE} {σ:St} {ix:List Nat} {QQ:Hp->Prop} {H1:Hp} {p:Addr} (Pv:Nat->List V->Hp->Prop) (h0:Pv 0 [] (upd H1 p (.lst [])))
  (hp:∀ i ys H,i<=min xs.length zs.length->Pv i ys H->H p=some (.lst ys)/\ys.length<=i/\WL K H a xs/\WL K H b zs) (hn:xs.length<=sizeLine)
  (hs:∀ i x z ys H t,xs[i]?=some x->zs[i]?=some z->Pv i ys H->H t=none->tc (some x::some z::Fv ix σ) (upd H t (.tup [x,z])) λb H5=>if b=true then te (some x::some z::Fv ix σ) H5 λy H6=>H6 p=some (.lst ys) /\
   (some x::some z::Fv ix σ)=(some x::some z::Fv ix σ)/\Pv (i+1) (ys++[y]) (upd H6 p (.lst (ys++[y]))) else (some x::some z::Fv ix σ)=(some x::some z::Fv ix σ)/\Pv (i+1) ys H5)
  (hd:∀ ys H,Pv (min xs.length zs.length) ys H->QQ H) :
  Zt (EG K' 2 (Rv (He 0) (Rv (He 1) FV))) tc te 2 ix σ (QL K a b) p H1 QQ:=by
 refine⟨λi m ys σ2 H2=>m=min xs.length zs.length-i/\i<=min xs.length zs.length/\(∃ o o',σ2=o::o'::Fv ix σ)/\Pv i ys H2,⟨min xs.length zs.length,rfl,zAB _,⟨none,none,rfl⟩,h0⟩,?_⟩;rintro i m ys σ2 H2 ⟨rfl,hi,⟨o,o',rfl⟩,pv⟩;obtain⟨hp2,hl2,hq2,hq3⟩:=hp i ys H2 hi pv;refine⟨hp2,?_⟩;by_cases hlt:i<min xs.length zs.length
 .have l1:i<xs.length:=by lia
  have l2:i<zs.length:=by lia
  refine .inr ⟨⟨xs,zs,xs[i],zs[i],hq2,hq3,by simp [l1],by simp [l2]⟩,by lia,λx H3 y=>?_⟩;obtain⟨t,u,z,ex,ht,hu,hz,e3⟩:=y;subst ex e3;refine⟨λys' σ' H'=>σ'=(some u::some z::Fv ix σ)/\Pv (i+1) ys' H',λys' σ' H' ⟨e,q⟩=>⟨min xs.length zs.length-(i+1),by lia,rfl,by lia,⟨_,_,e⟩,q⟩,?_⟩;exact⟨t,_,rfl,WX.of Ac,rfl,_,_,rfl,_,_,rfl,rfl,hs i u z ys H2 t (hu xs hq2) (hz zs hq3) pv ht⟩
 .obtain rfl:i=min xs.length zs.length:=by lia
  exact .inl ⟨⟨xs,zs,hq2,hq3,by lia⟩,hd ys H2 pv⟩
def AT (l:List Nat):∀ n:Nat,(zAC n l.toArray).foldl (· ++ ·) #[]=((zAC n l).flatten).toArray:=λn=>by
 have go:∀ (n:Nat) (a:List Nat),(zAC n l.toArray).foldl (· ++ ·) a.toArray=(a++(zAC n l).flatten).toArray:=λn=>by
  induction n with
  |zero=>intro a;simp
  |succ n ih=>
   intro a;rw[zBw,zBe,zBw,zBv,<- zAA];have e:a.toArray++l.toArray=(a++l).toArray:=by simp
   rw[e];exact ih (a++l)
 have z:=go n []
 simpa using z
def Vu {X:Cx}:Pa X (binaryOp .Mult) (λx y H Q=>∃ (l:List Nat) (n:Int),x=.str (tx l)/\y=.int n/\1<=n/\n<=1000/\l.length<=1000/\Q (.str (tx (zAC n.toNat l).flatten)) H):=by
 intro pins s σ H x y v u Q I rx ry h;obtain⟨l,n,rfl,rfl,h1,h2,h3,q⟩:=h;obtain⟨t,rfl⟩:=rx;obtain⟨t',rfl⟩:=ry;have hl:(tx l).length=l.length:=Ci l;have small:l.length*n.toNat<=1000*1000:=Nat.mul_le_mul h3 (by lia);refine PySem.P.mul_str ?_ (λ_ _=>?_) (λ_ _=>?_) ?_
 .rw[decide_eq_false (by lia),decide_eq_false (by lia)];rfl
 .rw[hl]
  have:(1000:Int)<=(2^63-1)/n:=Int.le_ediv_of_mul_le (by lia) (by lia)
  lia
 .rw[hl]
  unfold Builtin.Str.tooLong;simp only [decide_eq_false_iff_not];have:=zCf
  lia
 .rw[if_neg (by lia)]
  by_cases c:(n==1||(tx l).length==0)=true
  .rw[if_pos c]
   refine⟨.str (tx (zAC n.toNat l).flatten),H,I,⟨t,?_⟩,q⟩;have e:(zAC n.toNat l).flatten=l:=by
    rcases (Bool.or_eq_true _ _).mp c with z|z
    .have z':n=1:=by simpa using z
     subst z';simp
    .have z':l=[]:=by
      rw[hl] at z;exact List.eq_nil_of_length_eq_zero (by simpa using z)
     subst z';simp
   rw[e]
  .rw[if_neg c]
   refine⟨?_,.str (tx (zAC n.toNat l).flatten),H,I.tok _,⟨s.toks,?_⟩,q⟩
   .have e:=AT l n.toNat
    show (⟨(zAC n.toNat (tx l).cps).foldl (· ++ ·) #[]⟩:Str).length<=sizeLine;unfold tx;rw[e];have e2:(⟨((zAC n.toNat l).flatten).toArray⟩:Str)=tx (zAC n.toNat l).flatten:=rfl;rw[e2,Ci,LL,zCf,Nat.mul_comm]
    lia
   .show Value.str ⟨(zAC n.toNat (tx l).cps).foldl (· ++ ·) #[]⟩ _=Value.str (tx _) _
    have e:=AT l n.toNat;unfold tx at *;rw[e]
end L2
namespace CRL
open PySem L2
def UK (H H':Hp):Prop:=∀ t xs,H t=some (.tup xs)->H' t=some (.tup xs)
def Fu {H H':Hp} (s:WJ H H'):UK H H':=λt xs h=>s t _ h
end CRL
namespace CST
open PySem
abbrev Rs (xs:Array Nat):Prop:=xs.toList.Pairwise (· < ·)
def HI {xs:Array Nat} (h:Rs xs) {i k:Nat} (hik:i<k) (hk:k<xs.size):xs[i]'(by lia)<xs[k]:=by
 have:=List.pairwise_iff_getElem.mp h i k (by simpa using (by lia:i<xs.size)) (by simpa using hk) hik
 simpa using this
structure VJ (xs:Array Nat) (j p:Nat):Prop where
 le:p<=xs.size
 lo:∀ i (h:i<xs.size),i<p->xs[i]<j
 hi:∀ i (h:i<xs.size),p<=i->j<=xs[i]
theorem Xk {xs:Array Nat} {j:Nat} (r:Rs xs):∀ (f lo hi:Nat),hi-lo<=f->lo<=hi->hi<=xs.size->(∀ i (h:i<xs.size),i<lo->xs[i]<j)->(∀ i (h:i<xs.size),hi<=i->j<=xs[i])->VJ xs j (SetTable.below.go xs j f lo hi)
 |0,lo,hi,h0,h1,h2,a,b=>by
  have e:lo=hi:=by omega
  subst e;unfold SetTable.below.go;exact⟨h2,a,b⟩
 |f+1,lo,hi,h0,h1,h2,a,b=>by
  unfold SetTable.below.go;by_cases c:lo<hi
  .rw[if_pos c]
   have hm:(lo+hi)/2<xs.size:=by omega
   have e:xs.getD ((lo+hi)/2) j=xs[(lo+hi)/2]:=by simp [Array.getD,hm]
   dsimp only
   rw[e];by_cases d:xs[(lo+hi)/2]<j
   .rw[if_pos d]
    refine Xk r f _ hi (by omega) (by omega) h2 (λi h hi'=>?_) b;by_cases q:i=(lo+hi)/2
    .subst q;exact d
    .exact Nat.lt_trans (HI r (by omega) hm) d
   .rw[if_neg d]
    refine Xk r f lo _ (by omega) (by omega) (by omega) a (λi h hi'=>?_);by_cases q:i=(lo+hi)/2
    .subst q;omega
    .have:=HI r (i:=(lo+hi)/2) (k:=i) (by omega) h
     omega
  .rw[if_neg c]
   have e:lo=hi:=by omega
   subst e;exact⟨h2,a,b⟩
def Q9 {xs:Array Nat} {j:Nat} (r:Rs xs):VJ xs j (SetTable.below xs j):=by
 unfold SetTable.below;exact Xk r _ _ _ (by lia) (zAB _) (zAn _) (λi _ h=>absurd h (zBA _)) (λi h h'=>absurd h' (by lia))
structure Sm (by_:Bool) (t:SetTable):Prop where
 rs:Rs t.place
 dm:t.dummies = #[]
 ld:by_=false->t.led=true
def Z3 (b:Bool):Sm b (.fresh 0 0 (!b)):=⟨List.Pairwise.nil,rfl,λh=>by rw[h];rfl⟩
def Iq {b:Bool} {t:SetTable} (g:Sm b t) (n:Nat):Sm b (t.standIn n):=by
 refine⟨?_,rfl,g.ld⟩;show (Array.range n).toList.Pairwise (· < ·);rw[Array.toList_range];exact List.pairwise_lt_range
def W9 {b:Bool} {t:SetTable} (g:Sm b t) (p:Bool):Sm b { t with plain:=p }:=⟨g.rs,g.dm,g.ld⟩
def T0 (j:Nat):SetTable.has #[] j=false:=by
 unfold SetTable.has;have:(#[]:Array Nat)[SetTable.below #[] j]?=none:=by simp
 rw[this];rfl
def Y6 {t:SetTable} {j:Nat} (dm:t.dummies = #[]):t.slot j=.empty\/∃ i,t.slot j=.live i:=by
 unfold SetTable.slot
 dsimp only
 by_cases c:(t.place[SetTable.below t.place j]?==some j)=true
 .rw[if_pos c];exact .inr ⟨_,rfl⟩
 .rw[if_neg c,dm,T0]
  exact .inl rfl
def AA {t:SetTable} {j:Nat} (r:Rs t.place) (h:t.slot j=.empty):∀ i (hi:i<t.place.size),t.place[i]≠j:=λi hi e=>by
 have b:=Q9 (j:=j) r;have hp:SetTable.below t.place j<=i:=by
  rcases Nat.lt_or_ge i (SetTable.below t.place j) with z|z
  .have:=b.lo i hi z;lia
  .exact z
 have hps:SetTable.below t.place j<t.place.size:=by lia
 have e2:t.place[SetTable.below t.place j]=j:=by
  have h1:=b.hi _ hps (zAn _);rcases Nat.lt_or_eq_of_le hp with z|z
  .have:=HI r z hi;lia
  .have:t.place[SetTable.below t.place j]=t.place[i]:=by congr 1
   lia
 unfold SetTable.slot at h
 dsimp only at h
 have c:(t.place[SetTable.below t.place j]?==some j)=true:=by
  rw[Array.getElem?_eq_getElem hps,e2];simp
 rw[if_pos c] at h;cases h
theorem P1 {t:SetTable} {ha:Nat->Int} {h:Int} (dm:t.dummies = #[]):∀ (f:Nat) (p:SetTable.Probe) (j:Nat) (d:Option Nat),p.dummy=none->SetTable.probe.go t ha h f p=some (.empty j d)->d=none/\t.slot j=.empty
 |0,p,j,d,_,e=>by unfold SetTable.probe.go at e;cases e
 |f+1,p,j,d,hp,e=>by
  unfold SetTable.probe.go at e;have adv:(t.advance p).dummy=none:=by
   unfold SetTable.advance
   split
   .exact hp
   .exact hp
  rcases Y6 (t:=t) (j:=p.j) dm with z|⟨i,z⟩
  .rw[z] at e
   dsimp only at e
   injection e with e;injection e with e1 e2;subst e1;exact⟨e2▸hp,z⟩
  .rw[z] at e
   dsimp only at e
   split at e
   .injection e with e;cases e
   .exact P1 dm f _ j d adv e
def QC {t:SetTable} {j:Nat} (r:Rs t.place) (h:∀ i (hi:i<t.place.size),t.place[i]≠j):Rs (t.put j).1.place:=by
 have b:=Q9 (j:=j) r;show (SetTable.insertAt t.place (SetTable.below t.place j) j).toList.Pairwise (· < ·);rw[SetTable.toList_insertAt];have e1:∀ x∈t.place.toList.take (SetTable.below t.place j),x<j:=λx hx=>by
  obtain⟨i,hi,ei⟩:=zBc hx;rw[List.getElem_take] at ei;have hi':i<SetTable.below t.place j/\i<t.place.size:=by
   rw[zAw,zAR] at hi;lia
  have:=b.lo i hi'.2 hi'.1;rw[<- ei]
  simpa using this
 have e2:∀ x∈t.place.toList.drop (SetTable.below t.place j),j<x:=λx hx=>by
  obtain⟨i,hi,ei⟩:=zBc hx;rw[List.getElem_drop] at ei;have hi':SetTable.below t.place j+i<t.place.size:=by
   rw[zBE,zAR] at hi;lia
  have h1:=b.hi _ hi' (Nat.le_add_right _ _);have h2:=h _ hi';rw[<- ei];have:j<t.place[SetTable.below t.place j+i]:=by lia
  simpa using this
 refine List.pairwise_append.mpr ⟨r.sublist (List.take_sublist _ _),List.pairwise_cons.mpr ⟨e2,r.sublist (List.drop_sublist _ _)⟩,λa ha b' hb=>?_⟩;rcases zAj.mp hb with z|z
 .rw[z];exact e1 a ha
 .exact Nat.lt_trans (e1 a ha) (e2 b' z)
def V1 {b:Bool} {t:SetTable} {j:Nat} (g:Sm b t) (h:t.slot j=.empty):Sm b (t.put j).1:=by
 refine⟨QC g.rs (AA g.rs h),?_,g.ld⟩;show (if SetTable.has t.dummies j then _ else t.dummies) = #[];rw[g.dm,T0];rfl
set_option tactic.hygienic true in
def V3 {b:Bool} {t:SetTable} (g:Sm b t) (es:Array (Int×Value)) (h:Int) (x:Value):Sm b (layNew t es h x).2.1/\(layNew t es h x).2.2.1=false:=by
 unfold layNew;cases e:t.freeSlot h with
 |none=>exact⟨Iq g _,rfl⟩
 |some p=>
  obtain⟨sl,wd⟩:=p;unfold SetTable.freeSlot at e
  split at e
  .rename_i j d hp
   injection e with e;injection e with e1 e2;obtain⟨hd,hs⟩:=P1 g.dm _ _ j d rfl hp;subst hd
   dsimp only at e1 e2 ⊢
   have e1':j=sl:=e1;subst e1';refine⟨?_,e2.symm⟩;unfold SetTable.orStandIn
   split
   .exact V1 g hs
   .exact Iq (V1 g hs) _
  .cases e
theorem Wn (o:Nat->Option Nat):∀ l:List Nat,((l.filterMap λj=>(o j).map (j,·)).map (·.1)).Sublist l
 |[]=>List.Sublist.slnil
 |j::l=>by
  rw[zBb];cases e:o j with
  |none=>exact (Wn o l).cons j
  |some k=>exact (Wn o l).cons₂ j
def Xs {b:Bool} {t:SetTable} (g:Sm b t) (es:Array (Int×Value)) (wanted:Nat):Sm b (relayAll t es wanted).2.1:=by
 unfold relayAll;cases e:t.relaid (es.map (·.1)) wanted with
 |none=>exact Iq g _
 |some p=>
  obtain⟨t',order⟩:=p
  dsimp only
  split
  .unfold SetTable.relaid SetTable.laid at e
   cases e2:SetTable.layClean (SetTable.sizeAbove wanted-1) (es.map (·.1)) with
   |none=>rw[e2] at e;cases e
   |some owner=>
    rw[e2] at e;have e3:=Option.some.inj e;injection e3 with e4 _;subst e4;refine⟨?_,rfl,g.ld⟩;show (List.toArray _).toList.Pairwise (· < ·);rw[List.toList_toArray];exact List.pairwise_lt_range.sublist (Wn _ _)
  .exact Iq g _
section
variable {prog:Program} {w:World} {K:Type} [DecidableEq K] (knd:KeyKind prog w K)
def QJ (e:Int×Value) (k:K):Prop:=knd.is k e.2=true/\e.1=knd.hash k/\e.2.scannable=true
def XN (h:Heap) (a:Addr) (ks:List K):Prop:=∃ o es ep t,h.get? a=some o/\o.ExactSet/\o.data=.set es ep t/\Paired (QJ knd) es.toList ks/\ks.Nodup/\es.size<scanBound/\t.fits es.size=true/\Sm (w.params.followText "set-order") t
variable {knd}
variable {A:Around} {E:Value->Shared->Prop} {s:Shared}
def Ul {α β:Type} {F:α->β->Prop}:∀ {l l':List α} {ks:List β},l'.Perm l->Paired F l ks->∃ ks',ks'.Perm ks/\Paired F l' ks':=by
 intro l l' ks p;have q:=p.symm;clear p
 induction q generalizing ks with
 |nil=>intro h;exact⟨ks,List.Perm.refl _,h⟩
 |cons x _ ih=>
  intro h;cases h with
  |cons r t=>
   obtain⟨ks',p',h'⟩:=ih t;exact⟨_,p'.cons _,.cons r h'⟩
 |swap x y l=>
  intro h;cases h with
  |cons r t=>
   cases t with
   |cons r2 t2=>exact⟨_,List.Perm.swap _ _ _,.cons r2 (.cons r t2)⟩
 |trans _ _ ih1 ih2=>
  intro h;obtain⟨k1,p1,h1⟩:=ih1 h;obtain⟨k2,p2,h2⟩:=ih2 h1;exact⟨k2,p2.trans p1,h2⟩
theorem Um {α β:Type} {F:α->β->Prop} {a:α} {b:β} (r:F a b):∀ {l:List α} {ks:List β},Paired F l ks->Paired F (l++[a]) (ks++[b])
 |_,_,.nil=>.cons r .nil
 |_,_,.cons q t=>.cons q (Um r t)
theorem Qe {α β:Type} {F:α->β->Prop}:∀ {l:List α} {ks:List β},Paired F l ks->∀ a∈l,∃ b∈ks,F a b
 |_,_,.nil,_,h=>nomatch h
 |_,_,.cons q t,a,h=>by
  rcases zAj.mp h with z|z
  .subst z;exact⟨_,zAk,q⟩
  .obtain⟨b,hb,r⟩:=Qe t a z
   exact⟨b,zAi _ hb,r⟩
theorem Ug {α β:Type} {F:α->β->Prop}:∀ {l:List α} {ks:List β},Paired F l ks->∀ b∈ks,∃ a∈l,F a b
 |_,_,.nil,_,h=>nomatch h
 |_,_,.cons q t,a,h=>by
  rcases zAj.mp h with z|z
  .subst z;exact⟨_,zAk,q⟩
  .obtain⟨b,hb,r⟩:=Ug t a z
   exact⟨b,zAi _ hb,r⟩
def RQ {l:List (Int×Value)} {ks:List K} (h:Paired (QJ knd) l ks):ElemsOf knd l:=λe he=>by
 obtain⟨k,_,r1,r2,r3⟩:=Qe h e he;exact⟨⟨k,r1,r2⟩,r3⟩
def U3 {l:List (Int×Value)} {ks:List K} {k:K} (h:Paired (QJ knd) l ks):(l.findIdx? λe=>knd.is k e.2)=none↔k∉ks:=by
 rw[List.findIdx?_eq_none_iff];constructor
 .intro z hk
  obtain⟨e,he,r⟩:=Ug h k hk;have:=z e he;rw[r.1] at this;cases this
 .intro z e he
  obtain⟨k',hk',r⟩:=Qe h e he;cases c:knd.is k e.2 with
  |false=>rfl
  |true=>exact absurd (knd.inj _ _ _ c r.1▸hk') z
def stored {h:Heap} {a:Addr} {o:Obj} {es es':Array (Int×Value)} {ep:Nat} {t t':SetTable} {ks:List K} (ho:h.get? a=some o) (hex:o.ExactSet) (hd:o.data=.set es ep t) (hp:Paired (QJ knd) es'.toList ks) (nd:ks.Nodup) (hb:es'.size<scanBound) (hf:t'.fits es'.size=true)
  (g:Sm (w.params.followText "set-order") t'):(h.update a (Obj.putSet es' t')).get? a=some { o with data:=.set es' (ep+1) t' }/\XN knd (h.update a (Obj.putSet es' t')) a ks:=by
 have hg:(h.update a (Obj.putSet es' t')).get? a=some { o with data:=.set es' (ep+1) t' }:=by
  have q:=zBK (Obj.putSet es' t') ho (by rw[putSet_of es' t' hd];rfl)
  rwa [putSet_of es' t' hd] at q
 exact⟨hg,_,es',ep+1,t',hg,hex,rfl,hp,nd,hb,hf,g⟩
def O3 {a:Addr} {o:Obj} {es es1:Array (Int×Value)} {ep:Nat} {t t2:SetTable} {ks1:List K} (ho:s.heap.get? a=some o) (hex:o.ExactSet) (hd:o.data=.set es ep t) (hp:Paired (QJ knd) es1.toList ks1) (nd:ks1.Nodup) (hb:es1.size<scanBound) (hf:t2.fits es1.size=true)
  (g:Sm (w.params.followText "set-order") t2) {wd:Bool} {gw:Bool->Sem Unit} (hgw:∀ (b:Bool) (s₁:Shared) (Q':Unit->Shared->Prop),Q' () s₁->wpAny (model prog w) A (gw b) Q' E s₁) {R:Option Bool->Shared->Prop}
  (h:∀ h' ks',zBq a s.heap h'->XN knd h' a ks'->ks'.Perm ks1->R (some true) { s with heap:=h' }) :
  wpAny (model prog w) A (do
   storeSet a es1 t2
   if (!wd&&t2.tooFull)=true then do
    gw (relayAll t2 es1 (SetTable.grown es1.size)).2.2
    storeSet a (relayAll t2 es1 (SetTable.grown es1.size)).1 (relayAll t2 es1 (SetTable.grown es1.size)).2.1
    pure (some true)
   else pure (some true)) R E s:=by
 obtain⟨ho1,G1⟩:=stored (knd:=knd) ho hex hd hp nd hb hf g;have sb:=zBq.update s.heap a (Obj.putSet es1 t2);refine zCd (wpAny_storeSet_of ho hd ?_ (fits_of_scanBound hb));by_cases c:(!wd&&t2.tooFull)=true
 .rw[if_pos c]
  have p2:=relayAll_perm t2 es1 (SetTable.grown es1.size);have f2:=relayAll_fits t2 es1 (SetTable.grown es1.size);have g2:=Xs g es1 (SetTable.grown es1.size);generalize relayAll t2 es1 (SetTable.grown es1.size)=Y at p2 f2 g2;obtain⟨es2,t3,gv⟩:=Y
  dsimp only at p2 f2 g2
  have z2:es2.size=es1.size:=by rw[<- zAR,p2.length_eq,zAR]
  obtain⟨ks2,q2,hp2⟩:=Ul p2 hp;refine zCd (hgw _ _ _ (zCd (wpAny_storeSet_of ho1 rfl ?_ (fits_of_scanBound (by rw[z2];exact hb)))));obtain⟨_,G2⟩:=stored (knd:=knd) ho1 hex rfl hp2 (q2.nodup_iff.mpr nd) (by rw[z2];exact hb) f2 g2;exact zCe (h _ ks2 (sb.trans (zBq.update _ a _)) G2 q2)
 .rw[if_neg c]
  exact zCe (h _ ks1 sb G1 (List.Perm.refl _))
def QU {a:Addr} {ks:List K} {k:K} {x:Value} {Q:Bool->Shared->Prop} (hkey:knd.is k x=true) (hsc:x.scannable=true) (hS:XN knd s.heap a ks) (hroom:ks.length+1<scanBound)
  (h:∀ b h' ks',zBq a s.heap h'->XN knd h' a ks'->ks'.Perm (if k∈ks then ks else ks++[k])->Q b { s with heap:=h' }) :
  wpAny (model prog w) A (setAddHashed a x (knd.hash k)) Q E s:=by
 obtain⟨o,es,ep,t,ho,hex,hd,hp,nd,hb,hf,g⟩:=id hS;have hel:=RQ hp;have lk:es.size=ks.length:=by rw[<- zAR];exact Paired.length hp
 unfold setAddHashed setAddHashedIn;refine wpAny_holding (zCd (wpAny_setState_of ho hd hf ?_))
 dsimp only
 rw[byScan_of hsc hb hel];simp only [↓reduceIte];unfold setAddByScan;refine zCd (zCd (wpAny_rule (zCd (wpAny_setScan_of hkey ho hd hf hel ?_))));cases hr:List.findIdx? (λe=>knd.is k e.2) es.toList with
 |some j=>
  have hk:k∈ks:=Classical.byContradiction λz=>by rw[(U3 hp).mpr z] at hr;cases hr
  dsimp only
  refine zCe (zCe ?_);have e:s={ s with heap:=s.heap }:=by cases s;rfl
  rw[e];exact h false s.heap ks (zBq.refl a s.heap) hS (by rw[if_pos hk])
 |none=>
  have hk:k∉ks:=(U3 hp).mp hr
  dsimp only
  have p1:=layNew_perm t es (knd.hash k) x;have f1:=layNew_fits t es (knd.hash k) x;have g1:=(V3 g es (knd.hash k) x).1;generalize layNew t es (knd.hash k) x=Y at p1 f1 g1 ⊢;obtain⟨es1,t1,wd,gv⟩:=Y
  dsimp only at p1 f1 g1 ⊢
  rw[Array.toList_push] at p1;obtain⟨ks1,q1,hp1⟩:=Ul p1 (Um (show QJ knd (knd.hash k,x) k from ⟨hkey,rfl,hsc⟩) hp);have nd1:ks1.Nodup:=q1.nodup_iff.mpr (zBa.mpr ⟨nd,by simp,λa ha b hb'=>by rw[zAp] at hb';subst hb';rintro rfl;exact hk ha⟩);have b1:es1.size<scanBound:=by rw[<- zAR,p1.length_eq,zAc,zAR,lk];exact hroom
  have fin:∀ h' ks',zBq a s.heap h'->XN knd h' a ks'->ks'.Perm ks1->Q true { s with heap:=h' }:=λh' ks' sb G p=>h true h' ks' sb G (by rw[if_neg hk];exact p.trans q1);have gw:∀ (b:Bool) (s₁:Shared) (Q':Unit->Shared->Prop),Q' () s₁->wpAny (model prog w) A (match b with|true=>rule "set.scan.the-table-gave-way" |false=>pure ()) Q' E s₁ :=
   λb s₁ Q' hq=>by cases b <;> first|exact zCe hq|exact wpAny_rule hq
  refine zCd (gw _ _ _ ?_)
  split
  .refine zCd ?_
   rw[hashByValue_scannable 8 hsc];refine zCe ?_;refine O3 (ks1:=ks1) (knd:=knd) ho hex hd hp1 nd1 b1 ?_ ?_ gw λh' ks' sb G p=>?_
   .split
    .exact f1
    .exact SetTable.fits_plain_off f1
   .split
    .exact g1
    .exact W9 g1 _
   .exact zCe (fin h' ks' sb G p)
  .refine zCd (zCe ?_)
   simp only [↓reduceIte];exact O3 (ks1:=ks1) (knd:=knd) ho hex hd hp1 nd1 b1 f1 g1 gw λh' ks' sb G p=>zCe (fin h' ks' sb G p)
end
section
variable {prog:Program} {w:World} {A:Around} {E:Value->Shared->Prop} {s:Shared}
def MH {x:Value} {Q:Value->Shared->Prop} (h:Q (.ref s.heap.objs.size) { s with heap:=s.heap.push { cls:=.type "set",dict:=none,data:=.set #[] 0 (.fresh 0 0 (!w.params.followText "set-order")) } }) :
  codeAny (model prog w) A (.call (.builtin "set.__new__") ⟨[.type "set",x],[]⟩) (wants Q E) s:=by
 refine codeAny_of_tree ?_;show wpAny _ A.in1 (do checkBuiltinCall "set.__new__" ⟨[.type "set",x],[]⟩;again (.builtin "set.__new__" ⟨[.type "set",x],[]⟩)) _ _ s;refine zCd (wpAny_of_eq (F.newCall_set_1 x) (zCe ⟨plainId_quiet F.plain_set_new _,codeAny_builtin F.entry_set_new ?_⟩));rw[Around.under_plainId F.plain_set_new _];unfold Builtin.«set.__new__» Builtin.Frozenset.newClass;have hsub:=sub_set_self;obtain⟨hp,gn,d,tk,os⟩:=s
 dsimp only
 wp_walk
 refine wpAny_askSetting (zCe ?_)
 dsimp only
 simp only [newObj];exact zCd (wpAny_alloc (zCe (zCe h)))
variable {R:Result->Shared->Prop} {I:Addr} {fp wr:List Addr} {G:Array GenState->Array GenState->Prop} {n:Nat} {P:Nat->Value->Prop} {St:Nat->Shared->Prop}
def XN.keep {h h':Heap} {a:Addr} {K:Type} [DecidableEq K] {knd:KeyKind prog w K} {ks:List K} (g:XN knd h a ks) (k:∀ o,h.get? a=some o->h'.get? a=some o):XN knd h' a ks:=by
 obtain⟨o,es,ep,t,ho,r⟩:=g;exact⟨o,es,ep,t,k o ho,r⟩
def P6 {K:Type} [DecidableEq K] {knd:KeyKind prog w K} {mk:K->Nat->Value} (isk:∀ k t,knd.is k (mk k t)=true) (scn:∀ k t,(mk k t).scannable=true) (W:WalksS prog w A.in1 I fp wr G n P St) (S:Addr) (nS:S∉fp) (val:Nat->K) (hv:∀ i v,P i v->∃ t,v=mk (val i) t) (hb:n+1<scanBound) :
  ∀ (k i:Nat) (s:Shared) (ks:List K),n-i=k->i<=n->St i s->XN knd s.heap S ks->(∀ y,y∈ks↔∃ j,j<i/\val j=y)->ks.length<=i ->
   (∀ s' ks',Moved (S::wr) G s s'->XN knd s'.heap S ks'->(∀ y,y∈ks'↔∃ j,j<n/\val j=y)->ks'.length<=n->R (.ok (.ret .none)) s') ->
   codeAny (model prog w) A (.builtin "set.update.loop" ⟨[.ref S,.ref I],[]⟩) R s:=by
 have nw:S∉wr:=λz=>nS (W.sub _ z);have sub:∀ b∈wr,b∈S::wr:=λb hb=>zAi _ hb;intro k
 induction k with
 |zero=>
  intro i s ks hk hi st g mem len fin;have e:i=n:=by lia
  subst e;refine codeAny_builtin PyProof.Rows.F.entry_set_update_loop ?_;rw[Around.under_plainId PyProof.Rows.F.plain_set_update_loop _];show wpAny _ A.in1 (pyNext (.ref I) >>= _) _ _ s;refine zCd (W.done s _ _ st λs' hm=>?_);show wpAny _ A.in1 (ret Value.none) _ _ s';exact zCe (fin s' ks (hm.mono sub) (g.keep λo e=>hm.heap S o nw e) mem len)
 |succ k ih=>
  intro i s ks hk hi st g mem len fin;refine codeAny_builtin PyProof.Rows.F.entry_set_update_loop ?_;rw[Around.under_plainId PyProof.Rows.F.plain_set_update_loop _];show wpAny _ A.in1 (pyNext (.ref I) >>= _) _ _ s;refine zCd (W.item i s _ _ (by lia) st λv s' hP st' hm=>?_);obtain⟨tk,rfl⟩:=hv i v hP;have g':=g.keep λo e=>hm.heap S o nw e;show wpAny _ A.in1 (holding [mk (val i) tk] (setAdd S (mk (val i) tk)) >>= _) _ _ s';refine zCd (wpAny_holding ?_);unfold setAdd;refine wpAny_holding (zCd (knd.pyHash (k:=val i) (isk _ _) ?_));refine QU (knd:=knd) (s:={ s' with toks:=s'.toks+1 }) (isk _ _) (scn _ _) g' (by lia) λb h' ks' sb g2 pm=>?_;have len':ks'.length<=i+1:=by
   rw[pm.length_eq]
   split
   .lia
   .rw[zAc,zAX];lia
  have mem':∀ y,y∈ks'↔∃ j,j<i+1/\val j=y:=λy=>by
   rw[pm.mem_iff];constructor
   .intro hy
    split at hy
    .obtain⟨j,h1,h2⟩:=(mem y).mp hy
     exact⟨j,by lia,h2⟩
    .rcases zAF.mp hy with z|z
     .obtain⟨j,h1,h2⟩:=(mem y).mp z
      exact⟨j,by lia,h2⟩
     .exact⟨i,by lia,(zAp.mp z).symm⟩
   .rintro ⟨j,h1,h2⟩
    have old:∀ {z},z∈ks->z∈(if val i∈ks then ks else ks++[val i]):=λ{z} hz=>by
     split
     .exact hz
     .exact zBp _ hz
    by_cases c:j<i
    .exact old ((mem y).mpr ⟨j,c,h2⟩)
    .have e:j=i:=by lia
     subst e
     split
     .rw[<- h2];assumption
     .rw[<- h2];exact zAM _ (zAp.mpr rfl)
  refine zCe ⟨plainId_quiet PyProof.Rows.F.plain_set_update_loop _,ih (i+1) _ ks' (by lia) (by lia) (W.frame _ s' _ _ st' (zBY _) λb hb o e=>?_) g2 mem' len' λs2 ks2 hm2 g3 m3 l3=>?_⟩
  .rw[sb.2 b (λz:b=S=>nS (by rw[<- z];exact hb))];exact e
  .refine fin s2 ks2 (Moved.trans W.gtrans ((hm.mono sub).then_heap (zBY _) λb o hb e=>?_) hm2) g3 m3 l3
   rw[sb.2 b (λz:b=S=>hb (by rw[z];exact zAk))];exact e
end
section
variable {prog:Program} {w:World} {A:Around} {E:Value->Shared->Prop} {s:Shared}
abbrev Yp (w:World):Obj:={ cls:=.type "set",dict:=none,data:=.set #[] 0 (.fresh 0 0 (!w.params.followText "set-order")) }
def FS {h:Heap} {a:Addr} {K:Type} [DecidableEq K] {knd:KeyKind prog w K} (ho:h.get? a=some (Yp w)):XN knd h a []:=by
 refine⟨_,#[],0,_,ho,⟨rfl,rfl,rfl⟩,rfl,.nil,List.nodup_nil,by decide,rfl,?_⟩;exact Z3 (w.params.followText "set-order")
set_option maxRecDepth 100000 in
def IS {K:Type} [DecidableEq K] {knd:KeyKind prog w K} {mk:K->Nat->Value} (isk:∀ k t,knd.is k (mk k t)=true) (scn:∀ k t,(mk k t).scannable=true) (dd:K) {l:Addr} {items:Array Value} {ns:List K} {Q:Value->Shared->Prop} (hh:A.handled=none) (hl:s.heap.IsList l items) (hi:∀ (i:Nat) (v:Value),items[i]?=some v->∃ t,v=mk (ns.getD i dd) t) (ln:items.size=ns.length) (hb:items.size+1<scanBound)
  (h:∀ (h':Heap) (tk:Nat) (ks:List K),XN knd h' s.heap.objs.size ks->(∀ y,y∈ks↔y∈ns)->ks.length<=items.size->(∀ b o,s.heap.get? b=some o->h'.get? b=some o)->Q (.ref s.heap.objs.size) { s with heap:=h',toks:=tk }) :
  wpAny (model prog w) A (call (.type "set") [.ref l]) Q E s:=by
 obtain⟨c,tl,hmro⟩:=F.called_set.mro;have hmade:=F.called_set.made;have hsub:=F.called_set.sub;have h1:=F.called_set.notType;have h2:=F.called_set.canCreate;have hct:=F.typeCall_set_1 (.ref l);refine wpAny_call (codeAny_of_tree (show wpAny _ _ (callAny (.type "set") _) _ _ _ from ?_));refine zCe ⟨Code.quiet_builtin _ (by ac_nf),codeAny_builtin F.entry_type_call ?_⟩;rw[Around.under_plain (weight_type_call_type "set" [.ref l] []) rfl]
 repeat (any_goals (first|assumption|wp_step))
 refine codeAny_mono (MH (x:=.ref l) (E:=E) (Q:=λv s₁=>v=.ref s.heap.objs.size/\s₁={ s with heap:=s.heap.push (Yp w) }) ⟨rfl,rfl⟩) λr s₁ hr=>?_;cases r with
 |error e=>exact hr
 |ok fl=>
  cases fl with
  |ret obj=>
   obtain⟨rfl,rfl⟩:=hr;have at0:(s.heap.push (Yp w)).get? s.heap.objs.size=some (Yp w):=zAG _ rfl;have hT:Shared.TypeIs { s with heap:=s.heap.push (Yp w) } (.ref s.heap.objs.size) "set":=⟨_,at0,rfl⟩;have hli:=F.called_set.init.lookup;have hbi:=F.called_set.init.bind (.ref s.heap.objs.size)
   repeat (any_goals (first|assumption|wp_step))
   refine codeAny_mono (codeAny_call_builtin (R:=wants (λr s₂=>r=.none/\∃ h' tk ks,s₂={ s with heap:=h',toks:=tk }/\XN knd h' s.heap.objs.size ks/\(∀ y,y∈ks↔y∈ns)/\ks.length<=items.size/\(∀ b o,s.heap.get? b=some o->h'.get? b=some o)) E)
    F.called_set.init.plain F.entry_set_init (check_set_init_1 hT ?_)) λr₂ s₂ hr₂=>?_
   .obtain⟨⟨oc,od,odt,osl⟩,hol,hcl,nl,hdl⟩:=id hl
    simp only at hcl hdl;subst hcl hdl;have old:(s.heap.push (Yp w)).get? l=some { cls:=.type "list",dict:=od,data:=.seq items nl,slots:=osl }:=zAm _ hol;have il:(s.heap.push (Yp w)).IsList l items:=⟨_,old,rfl,nl,rfl⟩;have lt:l<s.heap.objs.size:=zAr hol;have u1:=F.sub_list_set;have u2:=F.sub_list_frozenset;have u3:(Value.type "list"== Value.type "dict")=false:=by decide
    unfold Builtin.«set.__init__» noKeywords Builtin.Frozenset.updateFrom;generalize hPI:pyIter=PI
    wp_walk
    subst hPI;refine wpAny_pyIter_list il (zCd (wpAny_runValue ?_));have sz:(s.heap.push (Yp w)).objs.size=s.heap.objs.size+1:=zBV ..;have ne:l≠(s.heap.push (Yp w)).objs.size:=by rw[sz];exact zAy (Nat.lt_succ_of_lt lt)
    have h3:A.in1.in1.in1.handled=none:=by simp [hh]
    have nf:s.heap.objs.size∉[(s.heap.push (Yp w)).objs.size,l]:=by
     rw[sz];intro z;rcases zAj.mp z with z|z
     .exact absurd z (zAy (zCa _))
     .exact absurd (zAp.mp z) (zBr lt)
    refine P6 isk scn ((Walks.list h3 _ l ne items).toS) s.heap.objs.size nf (λi=>ns.getD i dd) hi hb (items.size-0) 0 _ [] (by lia) (zAB _) ⟨⟨_,zAG _ rfl,rfl,rfl⟩,il.push _⟩ (FS (zAm _ at0)) (λy=>⟨λz=>(nomatch z),λ⟨j,z,_⟩=>absurd z (zBA _)⟩) (zAB _) λs' ks hm g m ln'=>?_;obtain⟨h',g',d',tk',os'⟩:=s';have eg:g'=s.gens:=hm.gens;have ed:d'=s.drawn:=hm.drawn;have eo:os'=s.os:=hm.os;subst eg ed eo;refine zCe (zCe ⟨rfl,h',tk',ks,rfl,g,λy=>?_,ln',λb o e=>?_⟩)
    .rw[m y]
     constructor
     .rintro ⟨j,z1,z2⟩
      rw[<- z2];show ns.getD j dd∈ns;rw[zAT,zAg (by lia)];exact zBn _
     .intro z
      obtain⟨j,hj,e⟩:=zBc z;refine⟨j,by lia,?_⟩;show ns.getD j dd=y;rw[zAT,zAg hj];exact e
    .refine hm.heap b o (λz=>?_) (zAm _ (zAm _ e))
     have lb:=zAr e;rcases zAj.mp z with z|z
     .exact absurd z (zAy lb)
     .exact absurd (zAp.mp z) (by rw[sz];exact zAy (Nat.lt_succ_of_lt lb))
   .cases r₂ with
    |error e=>exact hr₂
    |ok fl₂ =>
     cases fl₂ with
     |ret r=>
      obtain⟨rfl,h',tk,ks,rfl,g,m,ln,k⟩:=hr₂
      repeat (any_goals (first|assumption|wp_step))
      exact h _ _ ks g m ln k
     |_=>exact hr₂.elim
  |_=>exact hr.elim
end
end CST
namespace L2
open PySem PySem.Spec PyProof.Rows
inductive Co where
 |alw|cau (n:Str)|thi (n:Str)|day (a b:Int)|ovr (m:Int)
inductive Dw where
 |at (c:Co)|no (t:Dw)|al (ts:List Dw)|so (ts:List Dw)
structure A8 where
 a0:Addr
 a1:Addr
 a2:Addr
 a3:Addr
 a4:Addr
 a5:Addr
 a6:Addr
 a7:Addr
def A8.l (κ:A8):List Addr:=[κ.a0,κ.a1,κ.a2,κ.a3,κ.a4,κ.a5,κ.a6,κ.a7]
def A8.cl (κ:A8) (i:Nat):Addr:=κ.l.getD i 0
def A8.inj {κ:A8} (nd:κ.l.Nodup) {i j:Nat} (hi:i<8) (hj:j<8) (h:κ.cl i=κ.cl j):i=j:=by
 have hl:κ.l.length=8:=rfl;unfold A8.cl at h;rw[zAT,zAT,zAg (by lia),zAg (by lia)] at h;have p:=List.pairwise_iff_getElem.mp nd;rcases Nat.lt_trichotomy i j with c|c|c
 .exact absurd h (p i j (by lia) (by lia) c)
 .exact c
 .exact absurd h.symm (p j i (by lia) (by lia) c)
def kd:Dw->Nat
 |.at .alw=>0
 |.at (.cau _)=>1
 |.at (.thi _)=>2
 |.at (.day _ _)=>3
 |.at (.ovr _)=>4
 |.no _=>5
 |.al _=>6
 |.so _=>7
def Uj (t:Dw):kd t<8:=by
 cases t with
 |«at» c=>cases c <;> simp [kd]
 |no t=>exact (by decide:5<8)
 |al ts=>exact (by decide:6<8)
 |so ts=>exact (by decide:7<8)
def A8.of (κ:A8) (t:Dw):Addr:=κ.cl (kd t)
def A8.Fam (κ:A8) (C:Addr):Prop:=C=κ.a0\/C=κ.a1\/C=κ.a2\/C=κ.a3\/C=κ.a4\/C=κ.a5\/C=κ.a6\/C=κ.a7
def A8.fam (κ:A8) (t:Dw):κ.Fam (κ.of t):=by
 cases t with
 |«at» c=>
  cases c with
  |alw=>exact .inl rfl
  |cau _=>exact .inr (.inl rfl)
  |thi _=>exact .inr (.inr (.inl rfl))
  |day _ _=>exact .inr (.inr (.inr (.inl rfl)))
  |ovr _=>exact .inr (.inr (.inr (.inr (.inl rfl))))
 |no t=>exact .inr (.inr (.inr (.inr (.inr (.inl rfl)))))
 |al ts=>exact .inr (.inr (.inr (.inr (.inr (.inr (.inl rfl))))))
 |so ts=>exact .inr (.inr (.inr (.inr (.inr (.inr (.inr rfl))))))
section
variable {κ:A8} {t:Dw}
def VU (nd:κ.l.Nodup) (h:κ.of t=κ.a0):t=.at .alw:=by
 have e:kd t=0:=A8.inj nd (Uj t) (by decide) h;cases t with
 |«at» c=>cases c <;> first|rfl|(simp [kd] at e)
 |_=>simp [kd] at e
def WE (nd:κ.l.Nodup) (h:κ.of t=κ.a1):∃ n,t=.at (.cau n):=by
 have e:kd t=1:=A8.inj nd (Uj t) (by decide) h;cases t with
 |«at» c=>cases c <;> first|exact⟨_,rfl⟩|(simp [kd] at e)
 |_=>simp [kd] at e
def WC (nd:κ.l.Nodup) (h:κ.of t=κ.a2):∃ n,t=.at (.thi n):=by
 have e:kd t=2:=A8.inj nd (Uj t) (by decide) h;cases t with
 |«at» c=>cases c <;> first|exact⟨_,rfl⟩|(simp [kd] at e)
 |_=>simp [kd] at e
def WA (nd:κ.l.Nodup) (h:κ.of t=κ.a3):∃ a b,t=.at (.day a b):=by
 have e:kd t=3:=A8.inj nd (Uj t) (by decide) h;cases t with
 |«at» c=>cases c <;> first|exact⟨_,_,rfl⟩|(simp [kd] at e)
 |_=>simp [kd] at e
def VT (nd:κ.l.Nodup) (h:κ.of t=κ.a4):∃ n,t=.at (.ovr n):=by
 have e:kd t=4:=A8.inj nd (Uj t) (by decide) h;cases t with
 |«at» c=>cases c <;> first|exact⟨_,rfl⟩|(simp [kd] at e)
 |_=>simp [kd] at e
def VY (nd:κ.l.Nodup) (h:κ.of t=κ.a5):∃ u,t=.no u:=by
 have e:kd t=5:=A8.inj nd (Uj t) (by decide) h;cases t with
 |«at» c=>cases c <;> simp [kd] at e
 |no u=>exact⟨_,rfl⟩
 |_=>simp [kd] at e
def VM (nd:κ.l.Nodup) (h:κ.of t=κ.a6):∃ u,t=.al u:=by
 have e:kd t=6:=A8.inj nd (Uj t) (by decide) h;cases t with
 |«at» c=>cases c <;> simp [kd] at e
 |al u=>exact⟨_,rfl⟩
 |_=>simp [kd] at e
def VN (nd:κ.l.Nodup) (h:κ.of t=κ.a7):∃ u,t=.so u:=by
 have e:kd t=7:=A8.inj nd (Uj t) (by decide) h;cases t with
 |«at» c=>cases c <;> simp [kd] at e
 |so u=>exact⟨_,rfl⟩
 |_=>simp [kd] at e
end
def Oo:Co->List (Str×V)
 |.alw=>[]
 |.cau n=>Ca "name" (.str n) []
 |.thi n=>Ca "name" (.str n) []
 |.day a b=>Ca "last" (.int b) (Ca "first" (.int a) [])
 |.ovr m=>Ca "cents" (.int m) []
mutual
def WT (κ:A8) (H:Hp):V->Dw->Prop
 |v,.at c=>∃ p dx,v=.ref p/\H p=some (.ins (κ.of (.at c)) dx (Oo c))
 |v,.no t=>∃ p dx w,v=.ref p/\H p=some (.ins κ.a5 dx (Ca "part" w []))/\WT κ H w t
 |v,.al ts=>∃ p dx l vs,v=.ref p/\H p=some (.ins κ.a6 dx (Ca "several" (.ref l) []))/\H l=some (.lst vs)/\CdsAt κ H vs ts
 |v,.so ts=>∃ p dx l vs,v=.ref p/\H p=some (.ins κ.a7 dx (Ca "several" (.ref l) []))/\H l=some (.lst vs)/\CdsAt κ H vs ts
def CdsAt (κ:A8) (H:Hp):List V->List Dw->Prop
 |[],[]=>True
 |v::vs,t::ts=>WT κ H v t/\CdsAt κ H vs ts
 |[],_::_=>False
 |_::_,[]=>False
end
mutual
def WP (H:Hp):V->Dw->Prop
 |v,.at .alw=>∃ p,v=.ref p/\H p=some (.tup [.str "always"])
 |v,.at (.cau n)=>∃ p,v=.ref p/\H p=some (.tup [.str "cause",.str n])
 |v,.at (.thi n)=>∃ p,v=.ref p/\H p=some (.tup [.str "thing",.str n])
 |v,.at (.day a b)=>∃ p,v=.ref p/\H p=some (.tup [.str "days",.int a,.int b])
 |v,.at (.ovr m)=>∃ p,v=.ref p/\H p=some (.tup [.str "over",.int m])
 |v,.no t=>∃ p w,v=.ref p/\H p=some (.tup [.str "not",w])/\WP H w t
 |v,.al ts=>∃ p l vs,v=.ref p/\H p=some (.tup [.str "all",.ref l])/\H l=some (.lst vs)/\TrsAt H vs ts
 |v,.so ts=>∃ p l vs,v=.ref p/\H p=some (.tup [.str "some",.ref l])/\H l=some (.lst vs)/\TrsAt H vs ts
def TrsAt (H:Hp):List V->List Dw->Prop
 |[],[]=>True
 |v::vs,t::ts=>WP H v t/\TrsAt H vs ts
 |[],_::_=>False
 |_::_,[]=>False
end
mutual
def Ki:Dw->Nat
 |.at _=>0
 |.no t=>Ki t+1
 |.al ts=>hgts ts+1
 |.so ts=>hgts ts+1
def hgts:List Dw->Nat
 |[]=>0
 |t::ts=>max (Ki t) (hgts ts)
end
mutual
theorem WT.same {κ:A8} {H H':Hp} (s:WJ H H'):∀ {v:V} (t:Dw),WT κ H v t->WT κ H' v t
 |v,.at c,h=>by
  unfold WT at h ⊢;obtain⟨p,dx,e,h⟩:=h;exact⟨p,dx,e,s _ _ h⟩
 |v,.no t,h=>by
  unfold WT at h ⊢;obtain⟨p,dx,w,e,h,r⟩:=h;exact⟨p,dx,w,e,s _ _ h,WT.same s t r⟩
 |v,.al ts,h=>by
  unfold WT at h ⊢;obtain⟨p,dx,l,vs,e,h,g,r⟩:=h;exact⟨p,dx,l,vs,e,s _ _ h,s _ _ g,CdsAt.same s ts r⟩
 |v,.so ts,h=>by
  unfold WT at h ⊢;obtain⟨p,dx,l,vs,e,h,g,r⟩:=h;exact⟨p,dx,l,vs,e,s _ _ h,s _ _ g,CdsAt.same s ts r⟩
theorem CdsAt.same {κ:A8} {H H':Hp} (s:WJ H H'):∀ {vs:List V} (ts:List Dw),CdsAt κ H vs ts->CdsAt κ H' vs ts
 |[],[],_=>by unfold CdsAt;trivial
 |v::vs,t::ts,h=>by
  unfold CdsAt at h ⊢;exact⟨WT.same s t h.1,CdsAt.same s ts h.2⟩
 |[],_::_,h=>by unfold CdsAt at h;exact h.elim
 |_::_,[],h=>by unfold CdsAt at h;exact h.elim
end
mutual
theorem WP.same {H H':Hp} (s:WJ H H'):∀ {v:V} (t:Dw),WP H v t->WP H' v t
 |v,.at .alw,h=>by unfold WP at h ⊢;obtain⟨p,e,h⟩:=h;exact⟨p,e,s _ _ h⟩
 |v,.at (.cau n),h=>by unfold WP at h ⊢;obtain⟨p,e,h⟩:=h;exact⟨p,e,s _ _ h⟩
 |v,.at (.thi n),h=>by unfold WP at h ⊢;obtain⟨p,e,h⟩:=h;exact⟨p,e,s _ _ h⟩
 |v,.at (.day a b),h=>by unfold WP at h ⊢;obtain⟨p,e,h⟩:=h;exact⟨p,e,s _ _ h⟩
 |v,.at (.ovr m),h=>by unfold WP at h ⊢;obtain⟨p,e,h⟩:=h;exact⟨p,e,s _ _ h⟩
 |v,.no t,h=>by
  unfold WP at h ⊢;obtain⟨p,w,e,h,r⟩:=h;exact⟨p,w,e,s _ _ h,WP.same s t r⟩
 |v,.al ts,h=>by
  unfold WP at h ⊢;obtain⟨p,l,vs,e,h,g,r⟩:=h;exact⟨p,l,vs,e,s _ _ h,s _ _ g,TrsAt.same s ts r⟩
 |v,.so ts,h=>by
  unfold WP at h ⊢;obtain⟨p,l,vs,e,h,g,r⟩:=h;exact⟨p,l,vs,e,s _ _ h,s _ _ g,TrsAt.same s ts r⟩
theorem TrsAt.same {H H':Hp} (s:WJ H H'):∀ {vs:List V} (ts:List Dw),TrsAt H vs ts->TrsAt H' vs ts
 |[],[],_=>by unfold TrsAt;trivial
 |v::vs,t::ts,h=>by
  unfold TrsAt at h ⊢;exact⟨WP.same s t h.1,TrsAt.same s ts h.2⟩
 |[],_::_,h=>by unfold TrsAt at h;exact h.elim
 |_::_,[],h=>by unfold TrsAt at h;exact h.elim
end
theorem CdsAt.len {κ:A8} {H:Hp}:∀ {vs:List V} {ts:List Dw},CdsAt κ H vs ts->vs.length=ts.length
 |[],[],_=>rfl
 |v::vs,t::ts,h=>by
  unfold CdsAt at h;rw[zAe,zAe,CdsAt.len h.2]
 |[],_::_,h=>by unfold CdsAt at h;exact h.elim
 |_::_,[],h=>by unfold CdsAt at h;exact h.elim
theorem TrsAt.len {H:Hp}:∀ {vs:List V} {ts:List Dw},TrsAt H vs ts->vs.length=ts.length
 |[],[],_=>rfl
 |v::vs,t::ts,h=>by
  unfold TrsAt at h;rw[zAe,zAe,TrsAt.len h.2]
 |[],_::_,h=>by unfold TrsAt at h;exact h.elim
 |_::_,[],h=>by unfold TrsAt at h;exact h.elim
theorem CdsAt.get {κ:A8} {H:Hp}:∀ {vs:List V} {ts:List Dw} {i:Nat} {v:V},CdsAt κ H vs ts->vs[i]?=some v->∃ t,ts[i]?=some t/\WT κ H v t
 |[],[],_,_,_,e=>by simp at e
 |v::vs,t::ts,0,u,h,e=>by
  unfold CdsAt at h;simp at e;subst e;exact⟨t,rfl,h.1⟩
 |v::vs,t::ts,i+1,u,h,e=>by
  unfold CdsAt at h;obtain⟨t',e',r⟩:=CdsAt.get (i:=i) h.2 (by simpa using e);exact⟨t',by simpa using e',r⟩
 |[],_::_,_,_,h,_=>by unfold CdsAt at h;exact h.elim
 |_::_,[],_,_,h,_=>by unfold CdsAt at h;exact h.elim
theorem TrsAt.get {H:Hp}:∀ {vs:List V} {ts:List Dw} {i:Nat} {v:V},TrsAt H vs ts->vs[i]?=some v->∃ t,ts[i]?=some t/\WP H v t
 |[],[],_,_,_,e=>by simp at e
 |v::vs,t::ts,0,u,h,e=>by
  unfold TrsAt at h;simp at e;subst e;exact⟨t,rfl,h.1⟩
 |v::vs,t::ts,i+1,u,h,e=>by
  unfold TrsAt at h;obtain⟨t',e',r⟩:=TrsAt.get (i:=i) h.2 (by simpa using e);exact⟨t',by simpa using e',r⟩
 |[],_::_,_,_,h,_=>by unfold TrsAt at h;exact h.elim
 |_::_,[],_,_,h,_=>by unfold TrsAt at h;exact h.elim
theorem CdsAt.snoc {κ:A8} {H:Hp}:∀ {vs:List V} {ts:List Dw} {v:V} {t:Dw},CdsAt κ H vs ts->WT κ H v t->CdsAt κ H (vs++[v]) (ts++[t])
 |[],[],v,t,_,r=>by
  show CdsAt κ H [v] [t];unfold CdsAt;exact⟨r,by unfold CdsAt;trivial⟩
 |v::vs,t::ts,v',t',h,r=>by
  unfold CdsAt at h;show CdsAt κ H (v::(vs++[v'])) (t::(ts++[t']));unfold CdsAt;exact⟨h.1,CdsAt.snoc h.2 r⟩
 |[],_::_,_,_,h,_=>by unfold CdsAt at h;exact h.elim
 |_::_,[],_,_,h,_=>by unfold CdsAt at h;exact h.elim
def C3 {ts:List Dw} {t:Dw} {m:Nat} (h:hgts ts<m) (i:Nat) (e:ts[i]?=some t):Ki t<m:=by
 induction ts generalizing i with
 |nil=>simp at e
 |cons u us ih=>
  unfold hgts at h;cases i with
  |zero=>simp at e;subst e;lia
  |succ i=>exact ih (by lia) i (by simpa using e)
def VE:¬ (("first" : Str)="last"):=by ac_nf
def GB (n:Str):(Oo (.cau n)).lookup ("name" : Str)=some (.str n):=by unfold Oo;rw[Bm,if_pos rfl]
def JN (n:Str):(Oo (.thi n)).lookup ("name" : Str)=some (.str n):=by unfold Oo;rw[Bm,if_pos rfl]
def LP (a b:Int):(Oo (.day a b)).lookup ("last" : Str)=some (.int b):=by unfold Oo;rw[Bm,if_pos rfl]
def FB (a b:Int):(Oo (.day a b)).lookup ("first" : Str)=some (.int a):=by unfold Oo;rw[Bm,if_neg VE,Bm,if_pos rfl]
def II (m:Int):(Oo (.ovr m)).lookup ("cents" : Str)=some (.int m):=by unfold Oo;rw[Bm,if_pos rfl]
def W8 (f:Str) (v:V):(Ca f v []).lookup f=some v:=by rw[Bm,if_pos rfl]
def Ii {f g:Str} (h:¬ g=f) (v:V):(Ca f v []).lookup g=none:=by rw[Bm,if_neg h];rfl
def AS (c:Co) {m:Str} (h1:¬ m="name") (h2:¬ m="first") (h3:¬ m="last") (h4:¬ m="cents"):(Oo c).lookup m=none:=by
 cases c with
 |alw=>rfl
 |cau n=>unfold Oo;rw[Bm,if_neg h1];rfl
 |thi n=>unfold Oo;rw[Bm,if_neg h1];rfl
 |day a b=>unfold Oo;rw[Bm,if_neg h3,Bm,if_neg h2];rfl
 |ovr m=>unfold Oo;rw[Bm,if_neg h4];rfl
def WT.obj {κ:A8} {H:Hp} {v:V} {t:Dw} (h:WT κ H v t):∃ p dx fs,v=.ref p/\H p=some (.ins (κ.of t) dx fs) /\
  fs.lookup ("holds" : Str)=none/\fs.lookup ("rank" : Str)=none/\fs.lookup ("words" : Str)=none/\fs.lookup ("marks" : Str)=none:=by
 cases t with
 |«at» c=>
  unfold WT at h;obtain⟨p,dx,e,h⟩:=h;exact⟨p,dx,_,e,h,AS c (by ac_nf) (by ac_nf) (by ac_nf) (by ac_nf),AS c (by ac_nf) (by ac_nf) (by ac_nf) (by ac_nf),AS c (by ac_nf) (by ac_nf) (by ac_nf) (by ac_nf),AS c (by ac_nf) (by ac_nf) (by ac_nf) (by ac_nf)⟩
 |no t=>
  unfold WT at h;obtain⟨p,dx,w,e,h,_⟩:=h;exact⟨p,dx,_,e,h,Ii (by ac_nf) _,Ii (by ac_nf) _,Ii (by ac_nf) _,Ii (by ac_nf) _⟩
 |al ts=>
  unfold WT at h;obtain⟨p,dx,l,vs,e,h,_⟩:=h;exact⟨p,dx,_,e,h,Ii (by ac_nf) _,Ii (by ac_nf) _,Ii (by ac_nf) _,Ii (by ac_nf) _⟩
 |so ts=>
  unfold WT at h;obtain⟨p,dx,l,vs,e,h,_⟩:=h;exact⟨p,dx,_,e,h,Ii (by ac_nf) _,Ii (by ac_nf) _,Ii (by ac_nf) _,Ii (by ac_nf) _⟩
def Nw (H H':Hp):Hp:=λb=>match H b with
 |none=>H' b
 |some _=>none
def Nw.of {H H':Hp} {b:Addr} {o:HO} (h:H b=none) (e:H' b=some o):Nw H H' b=some o:=by
 unfold Nw;rw[h];exact e
def Nw.at {H H':Hp} {b:Addr} {o:HO} (e:Nw H H' b=some o):H b=none/\H' b=some o:=by
 unfold Nw at e;cases h:H b with
 |none=>rw[h] at e;exact⟨rfl,e⟩
 |some o'=>rw[h] at e;cases e
def Nw.later {H H1 H2:Hp} (s:WJ H H1):WJ (Nw H1 H2) (Nw H H2):=λb o e=>Nw.of (s.free (Nw.at e).1) (Nw.at e).2
def Nw.grow {H H1 H2:Hp} (s:∀ b o,H b=none->H1 b=some o->H2 b=some o):WJ (Nw H H1) (Nw H H2):=λb o e=>Nw.of (Nw.at e).1 (s b o (Nw.at e).1 (Nw.at e).2)
def Dz:Dw->Int
 |.al _=>2
 |.so _=>1
 |_=>3
def OV:Dw->Str
 |.at .alw => "always"
 |.at (.cau _) => "cause"
 |.at (.thi _) => "thing"
 |.at (.day _ _) => "days"
 |.at (.ovr _) => "over"
 |.no _ => "not"
 |.al _ => "all"
 |.so _ => "some"
mutual
def Ef:Dw->Int
 |.at .alw=>1
 |.at (.cau _)=>2
 |.at (.thi _)=>2
 |.at (.day _ _)=>3
 |.at (.ovr _)=>2
 |.no t=>(if Dz t<3 then Ef t+2 else Ef t)+1
 |.al ts=>(ts.length:Int)-1+sizesT 3 ts
 |.so ts=>(ts.length:Int)-1+sizesT 2 ts
def sizesT (m:Int):List Dw->Int
 |[]=>0
 |t::ts=>(if Dz t<m then Ef t+2 else Ef t)+sizesT m ts
end
mutual
def Cq:Dw->Int
 |.at _=>0
 |.no t=>(if Dz t<3 then Cq t+1 else Cq t)+1
 |.al ts=>deepsT 3 ts
 |.so ts=>deepsT 2 ts
def deepsT (m:Int):List Dw->Int
 |[]=>0
 |t::ts=>max (if Dz t<m then Cq t+1 else Cq t) (deepsT m ts)
end
mutual
def Eo (φ:Co->Prop):Dw->Prop
 |.at c=>φ c
 |.no t=>Eo φ t
 |.al ts=>2<=ts.length/\ts.length<=8/\okTs φ ts
 |.so ts=>2<=ts.length/\ts.length<=8/\okTs φ ts
def okTs (φ:Co->Prop):List Dw->Prop
 |[]=>True
 |t::ts=>Eo φ t/\okTs φ ts
end
def B3 {φ:Co->Prop} {ts:List Dw} (h:∀ t∈ts,Eo φ t):okTs φ ts:=by
 induction ts with
 |nil=>unfold okTs;trivial
 |cons t ts ih=>unfold okTs;exact⟨h t zAk,ih λu hu=>h u (zAi _ hu)⟩
def Hc {φ:Co->Prop} {ts:List Dw} (h:okTs φ ts):∀ t∈ts,Eo φ t:=by
 induction ts with
 |nil=>intro t ht;cases ht
 |cons t ts ih=>
  unfold okTs at h;intro u hu;rcases zAj.mp hu with rfl|hu
  .exact h.1
  .exact ih h.2 u hu
def WP.tag {H:Hp} {v:V} {t:Dw} (h:WP H v t):∃ p xs,v=.ref p/\H p=some (.tup (.str (OV t)::xs)):=by
 cases t with
 |«at» c=>
  cases c <;> (unfold WP at h;obtain⟨p,e,h⟩:=h;exact⟨p,_,e,h⟩)
 |no t=>unfold WP at h;obtain⟨p,w,e,h,_⟩:=h;exact⟨p,_,e,h⟩
 |al ts=>unfold WP at h;obtain⟨p,l,vs,e,h,_⟩:=h;exact⟨p,_,e,h⟩
 |so ts=>unfold WP at h;obtain⟨p,l,vs,e,h,_⟩:=h;exact⟨p,_,e,h⟩
def T8:Co->Int
 |.alw=>1
 |.day _ _=>3
 |_=>2
def O7 (c:Co):Ef (.at c)=T8 c:=by cases c <;> (unfold Ef;rfl)
def Su (xs:List V) {k:Nat} (h:k<=xs.length):Mq xs none (some (k:Int))=xs.take k:=by
 unfold Mq;rw[HT.sIx_none,HT.sIx_nat,List.drop_zero,Nat.sub_zero,Nat.min_eq_left h]
def AN {c:Prop} {inst:Decidable c} {t u:TS} {D:Om} {σ:St} {H:Hp} (G:St->Hp->Prop)
  (h1:c->∀ N:St->Hp->Prop,(∀ σ' H',G σ' H'->N σ' H')->t { D with nx:=N } σ H) (h2:¬ c->∀ N:St->Hp->Prop,(∀ σ' H',G σ' H'->N σ' H')->u { D with nx:=N } σ H)
  (R:∀ σ' H',G σ' H'->D.nx σ' H'):@ite Prop c inst (t D σ H) (u D σ H):=by
 by_cases z:c
 .rw[if_pos z];exact h1 z _ R
 .rw[if_neg z];exact h2 z _ R
abbrev UY:=Str×V
def FU:Co->List UY
 |.alw=>[]
 |.cau n=>[("cause",.str n)]
 |.thi n=>[("thing",.str n)]
 |.day a b=>[("day",.int a),("day",.int (b+1))]
 |.ovr m=>[("cents",.int m)]
mutual
def Py:Dw->List UY
 |.at c=>FU c
 |.no t=>Py t
 |.al ts=>marksTs ts
 |.so ts=>marksTs ts
def marksTs:List Dw->List UY
 |[]=>[]
 |t::ts=>Py t++marksTs ts
end
mutual
theorem Lb {φ:Co->Prop}:∀ t:Dw,Eo φ t->((Py t).length:Int)<=Ef t
 |.at c,_=>by cases c <;> (unfold Py Ef;simp [FU])
 |.no t,h=>by
  unfold Eo at h;have:=Lb t h;unfold Py;rw[Ef]
  split <;> lia
 |.al ts,h=>by
  unfold Eo at h;have:=marks_sizes 3 ts h.2.2;unfold Py;rw[Ef]
  lia
 |.so ts,h=>by
  unfold Eo at h;have:=marks_sizes 2 ts h.2.2;unfold Py;rw[Ef]
  lia
theorem marks_sizes {φ:Co->Prop} (m:Int):∀ ts:List Dw,okTs φ ts->((marksTs ts).length:Int)<=sizesT m ts
 |[],_=>by unfold marksTs sizesT;decide
 |t::ts,h=>by
  unfold okTs at h;have h1:=Lb t h.1;have h2:=marks_sizes m ts h.2;unfold marksTs;rw[sizesT,zAc]
  split <;> lia
end
def Cr (b:Str):List (List Str)->List Str
 |[]=>[]
 |w::ws=>b::(w++Cr b ws)
def Dd (b:Str):List (List Str)->List Str
 |[]=>[]
 |w::ws=>w++Cr b ws
def Je (b:Str) (ws:List (List Str)) (w:List Str):Cr b (ws++[w])=Cr b ws++b::w:=by
 induction ws with
 |nil=>show b::(w++[])=b::w;rw[zAI]
 |cons v vs ih=>rw[zAZ,Cr,ih,Cr,zAZ,zAA]
def X2 (b:Str) {ws:List (List Str)} (h:ws≠[]) (w:List Str):Dd b (ws++[w])=Dd b ws++b::w:=by
 cases ws with
 |nil=>exact absurd rfl h
 |cons v vs=>rw[zAZ,Dd,Je,Dd,zAA]
mutual
inductive Sr (wc:Co->List Str) (φ:Co->Prop):Nat->List Str->Dw->Nat->Prop
 |leaf {c d}:φ c->Sr wc φ 0 (wc c) (.at c) d
 |no {ws t d}:Sr wc φ 0 ws t d->Sr wc φ 0 (Str.ofString "not" :: ws) (.no t) (d+1)
 |br {ws t d}:Sr wc φ 2 ws t d->Sr wc φ 0 (Str.ofString "(" :: (ws++[Str.ofString ")"])) t (d+1)
 |row1 {ws t d}:Sr wc φ 0 ws t d->Sr wc φ 1 ws t d
 |rowN {wss ts d}:Spls wc φ 0 wss ts d->2<=ts.length->ts.length<=8->Sr wc φ 1 (Dd (Str.ofString "and") wss) (.al ts) d
 |rows1 {ws t d}:Sr wc φ 1 ws t d->Sr wc φ 2 ws t d
 |rowsN {wss ts d}:Spls wc φ 1 wss ts d->2<=ts.length->ts.length<=8->Sr wc φ 2 (Dd (Str.ofString "or") wss) (.so ts) d
inductive Spls (wc:Co->List Str) (φ:Co->Prop):Nat->List (List Str)->List Dw->Nat->Prop
 |nil {k d}:Spls wc φ k [] [] d
 |cons {k ws t d' wss ts d}:Sr wc φ k ws t d'->d'<=d->Spls wc φ k wss ts d->Spls wc φ k (ws::wss) (t::ts) d
end
theorem Spls.len {wc:Co->List Str} {φ:Co->Prop} {k:Nat}:∀ {wss:List (List Str)} {ts:List Dw} {d:Nat},Spls wc φ k wss ts d->wss.length=ts.length
 |_,_,_,.nil=>rfl
 |_,_,_,.cons _ _ h=>by rw[zAe,zAe,Spls.len h]
theorem Spls.get {wc:Co->List Str} {φ:Co->Prop} {k:Nat}:∀ {wss:List (List Str)} {ts:List Dw} {d:Nat},Spls wc φ k wss ts d->∀ {i:Nat} {t:Dw},ts[i]?=some t->∃ ws d',wss[i]?=some ws/\d'<=d/\Sr wc φ k ws t d'
 |_,_,_,.nil,_,_,e=>by simp at e
 |_,_,_,.cons (ws:=ws) (d':=d') h hd _,0,_,e=>by
  simp at e;subst e;exact⟨ws,d',rfl,hd,h⟩
 |_,_,_,.cons _ _ h,i+1,_,e=>by
  obtain⟨ws,d',e1,e2,e3⟩:=Spls.get h (i:=i) (by simpa using e);exact⟨ws,d',by simpa using e1,e2,e3⟩
mutual
def Bo (wc:Co->List Str):Dw->List Str
 |.at c=>wc c
 |.no t=>Str.ofString "not" :: (if Dz t<3 then Str.ofString "(" :: (Bo wc t++[Str.ofString ")"]) else Bo wc t)
 |.al ts=>Dd (Str.ofString "and") (innerT wc 3 ts)
 |.so ts=>Dd (Str.ofString "or") (innerT wc 2 ts)
def innerT (wc:Co->List Str) (m:Int):List Dw->List (List Str)
 |[]=>[]
 |t::ts=>(if Dz t<m then Str.ofString "(" :: (Bo wc t++[Str.ofString ")"]) else Bo wc t)::innerT wc m ts
end
def Jn (wc:Co->List Str) (m:Int) (t:Dw):List Str:=if Dz t<m then Str.ofString "(" :: (Bo wc t++[Str.ofString ")"]) else Bo wc t
def Lg (wc:Co->List Str) (m:Int) (ts:List Dw):innerT wc m ts=ts.map (Jn wc m):=by
 induction ts with
 |nil=>unfold innerT;rfl
 |cons t ts ih=>rw[innerT,ih];rfl
def Tl (wc:Co->List Str) (t:Dw):Bo wc (.no t)=Str.ofString "not" :: Jn wc 3 t:=by rw[Bo];rfl
def Tt (wc:Co->List Str) (ts:List Dw):Bo wc (.al ts)=Dd (Str.ofString "and") (ts.map (Jn wc 3)):=by rw[Bo,Lg]
def Tu (wc:Co->List Str) (ts:List Dw):Bo wc (.so ts)=Dd (Str.ofString "or") (ts.map (Jn wc 2)):=by rw[Bo,Lg]
def Gi (wc:Co->List Str) (c:Co):Bo wc (.at c)=wc c:=by rw[Bo]
def BK (t:Dw):1<=Dz t/\Dz t<=3:=by
 cases t with
 |«at» c=>exact⟨show (1:Int)<=3 by decide,show (3:Int)<=3 by decide⟩
 |no _=>exact⟨show (1:Int)<=3 by decide,show (3:Int)<=3 by decide⟩
 |al _=>exact⟨show (1:Int)<=2 by decide,show (2:Int)<=3 by decide⟩
 |so _=>exact⟨show (1:Int)<=1 by decide,show (1:Int)<=3 by decide⟩
mutual
theorem Vn:∀ t:Dw,0<=Cq t
 |.at c=>by rw[Cq];lia
 |.no t=>by have:=Vn t;rw[Cq];split <;> lia
 |.al ts=>by rw[Cq];exact deeps_nn 3 ts
 |.so ts=>by rw[Cq];exact deeps_nn 2 ts
theorem deeps_nn (m:Int):∀ ts:List Dw,0<=deepsT m ts
 |[]=>by unfold deepsT;omega
 |t::ts=>by have:=deeps_nn m ts;rw[deepsT];omega
end
section
variable {wc:Co->List Str} {φ:Co->Prop}
mutual
theorem FJ:∀ t:Dw,Eo φ t->Sr wc φ 2 (Bo wc t) t (Cq t).toNat/\(2<=Dz t->Sr wc φ 1 (Bo wc t) t (Cq t).toNat)/\(Dz t=3->Sr wc φ 0 (Bo wc t) t (Cq t).toNat)
 |.at c,h=>by
  unfold Eo at h;rw[Bo];have p:Sr wc φ 0 (wc c) (.at c) (Cq (.at c)).toNat:=.leaf h;exact⟨.rows1 (.row1 p),λ_=>.row1 p,λ_=>p⟩
 |.no t,h=>by
  unfold Eo at h;obtain⟨h2,h1,h0⟩:=FJ t h;have nn:=Vn t;have p:Sr wc φ 0 (Bo wc (.no t)) (.no t) (Cq (.no t)).toNat:=by
   rw[Bo,Cq];by_cases c:Dz t<3
   .rw[if_pos c,if_pos c,show (Cq t+1+1).toNat=((Cq t).toNat+1)+1 by lia]
    exact .no (.br h2)
   .rw[if_neg c,if_neg c,show (Cq t+1).toNat=(Cq t).toNat+1 by lia]
    exact .no (h0 (by have:=(BK t).2;lia))
  exact⟨.rows1 (.row1 p),λ_=>.row1 p,λ_=>p⟩
 |.al ts,h=>by
  unfold Eo at h;have p:Sr wc φ 1 (Bo wc (.al ts)) (.al ts) (Cq (.al ts)).toNat:=by
   rw[Bo,Cq];exact .rowN (canons 3 ts h.2.2 |>.1 rfl) h.1 h.2.1
  exact⟨.rows1 p,λ_=>p,λz=>absurd z (show ¬ (2:Int)=3 by decide)⟩
 |.so ts,h=>by
  unfold Eo at h;have p:Sr wc φ 2 (Bo wc (.so ts)) (.so ts) (Cq (.so ts)).toNat:=by
   rw[Bo,Cq];exact .rowsN (canons 2 ts h.2.2 |>.2 rfl) h.1 h.2.1
  exact⟨p,λz=>absurd z (show ¬ (2:Int)<=1 by decide),λz=>absurd z (show ¬ (1:Int)=3 by decide)⟩
theorem canons (m:Int):∀ ts:List Dw,okTs φ ts->(m=3->Spls wc φ 0 (innerT wc m ts) ts (deepsT m ts).toNat)/\(m=2->Spls wc φ 1 (innerT wc m ts) ts (deepsT m ts).toNat)
 |[],_=>by
  unfold innerT;exact⟨λ_=>.nil,λ_=>.nil⟩
 |t::ts,h=>by
  unfold okTs at h;obtain⟨h2,h1,h0⟩:=FJ t h.1;obtain⟨r3,r2⟩:=canons m ts h.2;have nn:=Vn t;have nns:=deeps_nn m ts;refine⟨λe=>?_,λe=>?_⟩
  .have r3:=r3 e
   subst e;have wk:∀ {k wss us d d'},Spls wc φ k wss us d->d<=d'->Spls wc φ k wss us d':=λh hd=>by
    induction h using Spls.rec (motive_1:=λ_ _ _ _ _=>True) with
    |nil=>exact .nil
    |cons a b c ih1 ih2=>exact .cons a (zAD b hd) (ih2 hd)
    |_=>trivial
   rw[innerT,deepsT];by_cases c:Dz t<3
   .rw[if_pos c,if_pos c]
    exact .cons (d':=(Cq t).toNat+1) (.br h2) (by omega) (wk r3 (by omega))
   .rw[if_neg c,if_neg c]
    exact .cons (d':=(Cq t).toNat) (h0 (by have:=(BK t).2;omega)) (by omega) (wk r3 (by omega))
  .have r2:=r2 e
   subst e;have wk:∀ {k wss us d d'},Spls wc φ k wss us d->d<=d'->Spls wc φ k wss us d':=λh hd=>by
    induction h using Spls.rec (motive_1:=λ_ _ _ _ _=>True) with
    |nil=>exact .nil
    |cons a b c ih1 ih2=>exact .cons a (zAD b hd) (ih2 hd)
    |_=>trivial
   rw[innerT,deepsT];by_cases c:Dz t<2
   .rw[if_pos c,if_pos c]
    exact .cons (d':=(Cq t).toNat+1) (.row1 (.br h2)) (by omega) (wk r2 (by omega))
   .rw[if_neg c,if_neg c]
    exact .cons (d':=(Cq t).toNat) (h1 (by omega)) (by omega) (wk r2 (by omega))
end
end
def Zc (b:Str) (ws:List (List Str)):(Cr b ws).length=ws.length+(ws.map List.length).sum:=by
 induction ws with
 |nil=>rfl
 |cons w ws ih=>rw[Cr,zAe,zAc,ih,zAe,zAv,zBf];lia
mutual
theorem Of {wc:Co->List Str} {φ:Co->Prop} (hw:∀ c,φ c->((wc c).length:Int)=T8 c):∀ t:Dw,Eo φ t->((Bo wc t).length:Int)=Ef t
 |.at c,h=>by unfold Eo at h;rw[Bo,O7];exact hw c h
 |.no t,h=>by
  unfold Eo at h;have:=Of hw t h;rw[Bo,Ef,zAe]
  split
  .rw[zAe,zAc,zAX];omega
  .omega
 |.al ts,h=>by
  unfold Eo at h;have:=inner_len hw 3 ts h.2.2;rw[Bo,Ef];cases ts with
  |nil=>exact absurd h.1 (by simp)
  |cons t ts=>
   rw[innerT] at this ⊢;rw[Dd,zAc,Zc];rw[zAv,zBf] at this;have l:(innerT wc 3 ts).length=ts.length:=by rw[Lg,zAa]
   rw[zAe];omega
 |.so ts,h=>by
  unfold Eo at h;have:=inner_len hw 2 ts h.2.2;rw[Bo,Ef];cases ts with
  |nil=>exact absurd h.1 (by simp)
  |cons t ts=>
   rw[innerT] at this ⊢;rw[Dd,zAc,Zc];rw[zAv,zBf] at this;have l:(innerT wc 2 ts).length=ts.length:=by rw[Lg,zAa]
   rw[zAe];omega
theorem inner_len {wc:Co->List Str} {φ:Co->Prop} (hw:∀ c,φ c->((wc c).length:Int)=T8 c) (m:Int):∀ ts:List Dw,okTs φ ts->((((innerT wc m ts).map List.length).sum:Nat):Int)=sizesT m ts
 |[],_=>by unfold innerT sizesT;rfl
 |t::ts,h=>by
  unfold okTs at h;have h1:=Of hw t h.1;have h2:=inner_len hw m ts h.2;rw[innerT,sizesT,zAv,zBf]
  split
  .rw[zAe,zAc,zAX];lia
  .lia
end
def JH:∀ {φ:Co->Prop} (t:Dw),Eo φ t->1<=Ef t:=by
 intro φ t h;have:=Lb t h;cases t with
 |«at» c=>rw[O7];cases c <;> simp [T8]
 |no t=>unfold Eo at h;have:=Lb t h;rw[Ef];split <;> lia
 |al ts=>unfold Eo at h;have:=marks_sizes 3 ts h.2.2;rw[Ef];lia
 |so ts=>unfold Eo at h;have:=marks_sizes 2 ts h.2.2;rw[Ef];lia
theorem Zw {ψ:Str->Prop} {b:Str} (hb:ψ b):∀ {wss:List (List Str)},(∀ ws∈wss,∀ w∈ws,ψ w)->∀ w∈Cr b wss,ψ w
 |[],_=>by intro w hw;cases hw
 |ws::wss,h=>by
  intro w hw;rw[Cr] at hw;rcases zAj.mp hw with rfl|hw
  .exact hb
  .rcases zAF.mp hw with hw|hw
   .exact h ws zAk w hw
   .exact Zw hb (λv hv=>h v (zAi _ hv)) w hw
def Zm {ψ:Str->Prop} {b:Str} (hb:ψ b) {wss:List (List Str)} (h:∀ ws∈wss,∀ w∈ws,ψ w):∀ w∈Dd b wss,ψ w:=by
 cases wss with
 |nil=>intro w hw;cases hw
 |cons ws wss=>
  intro w hw;rw[Dd] at hw;rcases zAF.mp hw with hw|hw
  .exact h ws zAk w hw
  .exact Zw hb (λv hv=>h v (zAi _ hv)) w hw
mutual
theorem Tr {wc:Co->List Str} {φ:Co->Prop} {ψ:Str->Prop} (hw:∀ c,φ c->∀ w∈wc c,ψ w) (k1:ψ (Str.ofString "not")) (k2:ψ (Str.ofString "(")) (k3:ψ (Str.ofString ")")) (k4:ψ (Str.ofString "and")) (k5:ψ (Str.ofString "or")):∀ t:Dw,Eo φ t->∀ w∈Bo wc t,ψ w
 |.at c,h=>by unfold Eo at h;rw[Bo];exact hw c h
 |.no t,h=>by
  unfold Eo at h;have r:=Tr hw k1 k2 k3 k4 k5 t h;rw[Bo];intro w hw';rcases zAj.mp hw' with rfl|hw'
  .exact k1
  .split at hw'
   .rcases zAj.mp hw' with rfl|hw'
    .exact k2
    .rcases zAF.mp hw' with hw'|hw'
     .exact r w hw'
     .rw[zAp.mp hw'];exact k3
   .exact r w hw'
 |.al ts,h=>by
  unfold Eo at h;rw[Bo];exact Zm k4 (inner_all hw k1 k2 k3 k4 k5 3 ts h.2.2)
 |.so ts,h=>by
  unfold Eo at h;rw[Bo];exact Zm k5 (inner_all hw k1 k2 k3 k4 k5 2 ts h.2.2)
theorem inner_all {wc:Co->List Str} {φ:Co->Prop} {ψ:Str->Prop} (hw:∀ c,φ c->∀ w∈wc c,ψ w) (k1:ψ (Str.ofString "not")) (k2:ψ (Str.ofString "(")) (k3:ψ (Str.ofString ")")) (k4:ψ (Str.ofString "and")) (k5:ψ (Str.ofString "or")) (m:Int):∀ ts:List Dw,okTs φ ts->∀ ws∈innerT wc m ts,∀ w∈ws,ψ w
 |[],_=>by unfold innerT;intro ws hws;cases hws
 |t::ts,h=>by
  unfold okTs at h;have r:=Tr hw k1 k2 k3 k4 k5 t h.1;have rs:=inner_all hw k1 k2 k3 k4 k5 m ts h.2;rw[innerT];intro ws hws w hw';rcases zAj.mp hws with rfl|hws
  .split at hw'
   .rcases zAj.mp hw' with rfl|hw'
    .exact k2
    .rcases zAF.mp hw' with hw'|hw'
     .exact r w hw'
     .rw[zAp.mp hw'];exact k3
   .exact r w hw'
  .exact rs ws hws w hw'
end
end L2
namespace L2
open PySem PySem.Spec PyProof PyProof.Rows
def Vk {X:Cx} {K:zAb} {f:Str} {pos:Pos} {e:Expr} {ta:TE} (he:PE X e ta) (hb:attributeBase e f X.env (eval e X.env)=eval e X.env) (hK:X.K=K:=by rfl):PE X (.Attribute e f pos) (SG K ta f):=hK▸Bx he hb
end L2
namespace CST
open PySem
section
variable {prog:Program} {w:World} {A:Around} {E:Value->Shared->Prop} {s:Shared}
def set_of_strs {l:Addr} {items:Array Value} {ns:List Str} {Q:Value->Shared->Prop} (hh:A.handled=none) (hl:s.heap.IsList l items) (hi:∀ (i:Nat) (v:Value),items[i]?=some v->∃ t,v=.str (ns.getD i Str.empty) t) (ln:items.size=ns.length) (hb:items.size+1<scanBound)
  (h:∀ (h':Heap) (tk:Nat) (ks:List Str),XN (strKind prog w) h' s.heap.objs.size ks->(∀ y,y∈ks↔y∈ns)->ks.length<=items.size->(∀ b o,s.heap.get? b=some o->h'.get? b=some o)->Q (.ref s.heap.objs.size) { s with heap:=h',toks:=tk }) :
  wpAny (model prog w) A (call (.type "set") [.ref l]) Q E s:=
 IS (mk:=.str) (λ_ _=>strKind_is _ _ _ _) (λ_ _=>rfl) Str.empty hh hl hi ln hb h
end
end CST
namespace L2
open PySem PySem.Spec PyProof PyProof.Rows
section
variable {α:Type} [DecidableEq α]
theorem Sa:∀ {ks ss:List α},ks.Nodup->(∀ y∈ks,y∈ss)->ks.length<=ss.length
 |[],_,_,_=>zAB _
 |k::ks,ss,nd,h=>by
  rw[zBd] at nd;have hk:=h k zAk;have ih:=Sa (ks:=ks) (ss:=ss.erase k) nd.2 λy hy=>(List.mem_erase_of_ne (λz=>nd.1 (by rw[<- z];exact hy))).mpr (h y (zAi _ hy));rw[List.length_erase_of_mem hk] at ih;have:0<ss.length:=List.length_pos_of_mem hk;rw[zAe]
  lia
theorem S8:∀ {ss:List α},¬ ss.Nodup->∃ x,x∈ss/\x∈ss.erase x
 |[],h=>absurd List.nodup_nil h
 |y::t,h=>by
  by_cases c:y∈t
  .exact⟨y,zAk,by rw[List.erase_cons_head];exact c⟩
  .obtain⟨x,h1,h2⟩:=S8 (ss:=t) (λz=>h (zBd.mpr ⟨c,z⟩))
   have ne:¬ (y==x)=true:=λz=>c (by rw[beq_iff_eq.mp z];exact h1);exact⟨x,zAi _ h1,by rw[List.erase_cons_tail ne];exact zAi _ h2⟩
def GO {ks ss:List α} (nd:ks.Nodup) (m:∀ y,y∈ks↔y∈ss):(ss.Nodup->ks.length=ss.length)/\(¬ ss.Nodup->ks.length<ss.length):=by
 refine⟨λh=>Nat.le_antisymm (Sa nd λy hy=>(m y).mp hy) (Sa h λy hy=>(m y).mpr hy),λh=>?_⟩;obtain⟨x,h1,h2⟩:=S8 h;have:=Sa (ss:=ss.erase x) nd λy hy=>by
  by_cases c:y=x
  .rw[c];exact h2
  .exact (List.mem_erase_of_ne c).mpr ((m y).mp hy)
 rw[List.length_erase_of_mem h1] at this;have:0<ss.length:=List.length_pos_of_mem h1
 lia
end
theorem CN:∀ {ss:List Str} {us:List Value},WR (ss.map V.str) us->∀ (i:Nat) (v:Value),us[i]?=some v->∃ t,v=.str (ss.getD i Str.empty) t
 |[],_,.nil,i,v,e=>by simp at e
 |_::_,_::_,.cons r _,0,v,e=>by
  simp at e;subst e;obtain⟨t,rfl⟩:=r;exact⟨t,rfl⟩
 |_::ss,_::us,.cons _ q,i+1,v,e=>by
  obtain⟨t,rfl⟩:=CN q i v (by simpa using e);exact⟨t,by simp⟩
def LB (K:zAb) (te:TE):TE:=λσ H Q=>te σ H λx H1=>∃ a ss,x=.ref a/\WL K H1 a (List.map V.str ss)/\ss.length<60/\∀ n:Nat,(ss.Nodup->n=ss.length)->(¬ ss.Nodup->n<ss.length)->Q (.int (n:Int)) H1
section
variable {X:Cx}
def EK {e:Expr} {te:TE} {p1 p2 pos1 pos2:Pos} (he:PE X e te) (hc:X.calm=true) (hg1:Gl X "len") (hm1:X.mg "len"=none) (hg2:Gl X "set") (hm2:X.mg "set"=none)
  (hv1:zCg "len"=some (.builtin "len"):=by rfl) (hv2:zCg "set"=some (.type "set"):=by rfl)
  (hs1:starEach [.Call (.Name "set" p2) [e] [] pos2] X.env=[(false,eval (.Call (.Name "set" p2) [e] [] pos2) X.env)]:=by rfl) (hs2:starEach [e] X.env=[(false,eval e X.env)]:=by rfl) :
  PE X (.Call (.Name "len" p1) [.Call (.Name "set" p2) [e] [] pos2] [] pos1) (LB X.K te):=by
 intro pins s σ H Q I h;refine wpAny_Call_Name_kw (My I hg1 hm1 hv1 ?_ (by decide) (by decide));refine PyProof.Rows.callWith_builtin1 ?_ hs1 rfl;rw[hs1];show wpAny _ _ (spliced ((false,eval (.Call (.Name "set" p2) [e] [] pos2) X.env)::backTo pos1 [])) _ _ s;refine Calls.spliced_cons ?_;refine wpAny_Call_Name_kw (My I hg2 hm2 hv2 ?_ (by decide) (by decide));refine PyProof.Rows.callWith_type1 ?_ hs2 rfl;rw[hs2];show wpAny _ _ (spliced ((false,eval e X.env)::backTo pos2 [])) _ _ s;refine Calls.spliced_cons (Dx (he pins s σ H _ I h) λu s1 h9=>?_);obtain⟨x,H1,I1,r1,a,ss,ex,hq,l60,q⟩:=h9;subst ex;cases r1;refine Calls.spliced_nil ?_;obtain⟨its,rv,pl,hz⟩:=I1.list hq;have hl:=rv.length;rw[zAa] at hl;have hh:X.A.handled=none:=I.ok.hd hc;have hv:∀ (i:Nat) (v:Value),its.toArray[i]?=some v->∃ t,v=.str (ss.getD i Str.empty) t:=λi v e=>by
  rw[List.getElem?_toArray] at e;exact CN rv i v e
 refine CST.set_of_strs (items:=its.toArray) (ns:=ss) hh pl.isList hv (by rw[zAh];exact hl.symm) (by rw[zAh];unfold scanBound;lia) λh2 tk ks g mem len k2=>?_;refine Calls.spliced_nil ?_;rw[zAh] at len;obtain⟨o,es,ep,t,ho,hex,hd,hp,nd,hsz,hf,_⟩:=g;obtain⟨z1,z2⟩:=GO nd mem;have le:es.size=ks.length:=by rw[<- zAR];exact hp.length
 refine call_len_set (s:={ s1 with heap:=h2,toks:=tk }) ho hex hd hf (by lia) ?_;exact⟨.int (ks.length:Int),H1,I1.kept (h':=h2) k2,⟨_,by rw[le]⟩,q ks.length z1 z2⟩
end
end L2
namespace L2
open PySem PySem.Spec PyProof.Rows
structure DfIn (K:zAb) (x:Str) (st:Stmt) (f:Addr):Prop where
 ns:zAq K zCi x=some (some (.ref f))
 ex:∃ (od an:Option Addr) (sl:Array (Option Value)) (oc kV dc pm cd ct:Value),K.lookup f=some ⟨oc,od,.func (zAK x x (Dt st) (Dj st) (Av st) .none kV dc pm an cd ct),sl⟩/\zAP K cd x=true
 kp:zAJ K (.ref f)=true
structure MtIn (K:zAb) (x qual:Str) (st:Stmt) (f:Addr):Prop where
 fn:zBs K (.ref f)=true
 ex:∃ (od an:Option Addr) (sl:Array (Option Value)) (oc kV dc pm cd ct:Value),K.lookup f=some ⟨oc,od,.func (zAK x qual (Dt st) (Dj st) (Av st) .none kV dc pm an cd ct),sl⟩/\zAP K cd qual=true
 kp:zAJ K (.ref f)=true
structure XD (K:zAb) (x:Str) (C:Addr):Prop where
 ns:zAq K zCi x=some (some (.ref C))
 pg:zBL K C Str.empty=true
 hd:zBW K C=true
 po:PySem.W.plainOver K C=true
 sa:zAd K (.ref C) "__setattr__"=some (some (.builtin "object.__setattr__"))
 mi:zBQ K C=true
 kp:zAJ K (.ref C)=true
def XD.cl {K:zAb} {x:Str} {C:Addr} (c:XD K x C):XI K C:=⟨c.pg,c.hd,c.po,c.sa⟩
section
variable {K:zAb} {h:Heap} {mg:Str->Option Value} {x qual:Str} {st:Stmt} {f:Addr} {ps:List Str}
def DfIn.df (d:DfIn K x st f) (X:K.In h) (G:h.Ns zCi mg)
  (hb:∀ (kV dc pm:Value) (an:Option Addr) (cd ct:Value) (us:List Value),us.length=ps.length->bindArgs (zAK x x (Dt st) (Dj st) (Av st) .none kV dc pm an cd ct) ⟨us,[]⟩=pure (ps.zip us)):YQ K mg x st ps:=by
 obtain⟨od,an,sl,oc,kV,dc,pm,cd,ct,l,c⟩:=d.ex;have F:=W3 (x:=x) (qual:=x) (st:=st) l c d.kp;exact⟨f,_,F,F.binds hb,zAl X G d.ns⟩
def MtIn.get (d:MtIn K x qual st f)
  (hb:∀ (kV dc pm:Value) (an:Option Addr) (cd ct:Value) (us:List Value),us.length=ps.length->bindArgs (zAK x qual (Dt st) (Dj st) (Av st) .none kV dc pm an cd ct) ⟨us,[]⟩=pure (ps.zip us)):∃ fd,WV K x qual st f fd/\XB K fd ps []:=by
 obtain⟨od,an,sl,oc,kV,dc,pm,cd,ct,l,c⟩:=d.ex;have F:=W3 (x:=x) (qual:=qual) (st:=st) l c d.kp;exact⟨_,F,F.binds hb⟩
end
section
variable {Pr:List Value->Prop}
theorem Hs (h:∀ a,Pr [a]):∀ us,us.length=1->Pr us
 |[a],_=>h a
theorem Sl (h:∀ a b,Pr [a,b]):∀ us,us.length=2->Pr us
 |[a,b],_=>h a b
theorem QB (h:∀ a b c,Pr [a,b,c]):∀ us,us.length=3->Pr us
 |[a,b,c],_=>h a b c
theorem UJ (h:∀ a b c d,Pr [a,b,c,d]):∀ us,us.length=4->Pr us
 |[a,b,c,d],_=>h a b c d
end
def vE {α β:Type} {f:α->β} {y:β} {v:α} {R:α->Prop} (e:y=f v) (h:R v):∃ x,y=f x/\R x:=⟨v,e,h⟩
def DfIn.of {K:zAb} {x:Str} {st:Stmt} {f:Addr} {od an:Option Addr} {sl:Array (Option Value)} {oc kV dc pm cd ct:Value} (n:zAq K zCi x=some (some (.ref f))) (l:K.lookup f=some ⟨oc,od,.func (zAK x x (Dt st) (Dj st) (Av st) .none kV dc pm an cd ct),sl⟩) (c:zAP K cd x=true) (k:zAJ K (.ref f)=true):DfIn K x st f:=⟨n,⟨od,an,sl,oc,kV,dc,pm,cd,ct,l,c⟩,k⟩
def MtIn.of {K:zAb} {x qual:Str} {st:Stmt} {f:Addr} {od an:Option Addr} {sl:Array (Option Value)} {oc kV dc pm cd ct:Value} (n:zBs K (.ref f)=true) (l:K.lookup f=some ⟨oc,od,.func (zAK x qual (Dt st) (Dj st) (Av st) .none kV dc pm an cd ct),sl⟩) (c:zAP K cd qual=true) (k:zAJ K (.ref f)=true):MtIn K x qual st f:=⟨n,⟨od,an,sl,oc,kV,dc,pm,cd,ct,l,c⟩,k⟩
def vF {α β γ δ:Type} {f:α->β} {g:γ->δ} {x:β} {y:δ} {a:α} {b:γ} {R:α->γ->Prop} (e:x=f a) (e':y=g b) (h:R a b):∃ i j,x=f i/\y=g j/\R i j:=⟨a,b,e,e',h⟩
def vI {x y:V} {A:Addr->List V->Prop} {B:List V->Int->V->Prop} {R:V->Prop} {p:Addr} {xs:List V} {i:Int} {v:V} (e:x=.ref p) (e':y=.int i) (a:A p xs) (b:B xs i v) (h:R v):∃ p xs i v,x=.ref p/\y=.int i/\A p xs/\B xs i v/\R v:=⟨p,xs,i,v,e,e',a,b,h⟩
def vC {α:Type} {l:List α} {a:α} {t:List α} {R:α->List α->Prop} (e:l=a::t) (h:R a t):∃ v r,l=v::r/\R v r:=⟨a,t,e,h⟩
end L2
namespace L2
open PySem PySem.Spec PyProof.Rows PySem.W
theorem Na:∀ {xs:List V},xs.all Ff=true->Uf xs xs=true
 |[],_=>rfl
 |x::xs,h=>by
  rw[zBZ,zBF] at h;unfold Uf;rw[U0 h.1,Na h.2];rfl
end L2
namespace L2
open PySem PySem.Spec PyProof.Rows
section
variable {X:Cx}
def Qs (xs:List V) (lo:Option Int) (j:Int):List V:=(sliceRange (sliceBounds lo none (some j) xs.length).1 (sliceBounds lo none (some j) xs.length).2.1 (sliceBounds lo none (some j) xs.length).2.2).filterMap (xs[·]?)
theorem F5 {xs:List V} {its:List Value} (r:WR xs its):∀ l:List Nat,WR (l.filterMap (xs[·]?)) (l.filterMap (its.toArray[·]?))
 |[]=>.nil
 |i::l=>by
  have q:=F5 r l;rw[zBb,zBb,List.getElem?_toArray];cases e:xs[i]? with
  |none=>
   rw[r.none_of e];exact q
  |some x=>
   obtain⟨u,hu,ru⟩:=r.get e;rw[hu];exact .cons ru q
def SM (K:zAb) (te tk:TE):TE:=λσ H Q=>te σ H λx H1=>tk σ H1 λk H2=>∃ a xs j,x=.ref a/\k=.int j/\j≠0/\WL K H2 a xs/\(Qs xs none j).length<=1000/\∀ p,H2 p=none->Q (.ref p) (upd H2 p (.lst (Qs xs none j)))
def SV {e k:Expr} {te tk:TE} {p2 pos:Pos} (he:PE X e te) (hk:PE X k tk):PE X (.Subscript e (.Slice none none (some k) p2) pos) (SM X.K te tk):=by
 intro pins s σ H Q I h;refine Subscript_ (Dx (he pins s σ H _ I h) λv s1 h9=>?_);obtain⟨x,H1,I1,r1,q1⟩:=h9;refine wpAny_Slice ?_;rw[evalPart_none];refine zCe (zCe ?_);rw[evalPart_some];refine Dx (hk pins s1 σ H1 _ I1 q1) λvk s2 h9=>?_;obtain⟨z,H2,I2,r2,a,xs,j,ex,hz,j0,hx,l1000,q⟩:=h9;subst hz ex;cases r1;obtain⟨t,rfl⟩:=r2;have I4:WM X pins σ H2 { s2 with heap:=s2.heap.push { cls:=.type "slice",data:=.fields #[.none,.none,.int j t] } }:=I2.kept (t':=s2.toks) λb ob q=>zAm _ q;obtain⟨its,r,ht,hz⟩:=I4.list hx;have hlen:=r.length;refine tail_any (ops:=[.ref a,.ref s2.heap.objs.size]) ht.isList.typeIs slot_list_getitem.lookup ?_ (by with_unfolding_all rfl);refine wpAny_getItem_list_slice ht.isList (Heap.IsSliceOf.new ..) .none .none (.int j t) (by simpa using j0) ?_ (by rw[zAh] <;> lia);refine⟨.ref _,_,I4.laid (t':=s2.toks) (o:=.lst (Qs xs none j)) (λb ob q=>zAm _ q) (zAn _) ?_,rfl,q _ (I4.hok.fresh (zAn _))⟩;refine⟨by rw[zCf];lia,_,0,F5 r _,?_⟩;rw[hlen];unfold slicePick;exact zAG _ rfl
def PP (K:zAb) (te tl tk:TE):TE:=λσ H Q=>te σ H λx H1=>tl σ H1 λl H2=>tk σ H2 λk H3=>∃ a xs i j,x=.ref a/\l=.int i/\k=.int j/\j≠0/\WL K H3 a xs/\(Qs xs (some i) j).length<=1000/\∀ p,H3 p=none->Q (.ref p) (upd H3 p (.lst (Qs xs (some i) j)))
def Q1 {e l k:Expr} {te tl tk:TE} {p2 pos:Pos} (he:PE X e te) (hl:PE X l tl) (hk:PE X k tk):PE X (.Subscript e (.Slice (some l) none (some k) p2) pos) (PP X.K te tl tk):=by
 intro pins s σ H Q I h;refine Subscript_ (Dx (he pins s σ H _ I h) λv s1 h9=>?_);obtain⟨x,H1,I1,r1,q1⟩:=h9;refine wpAny_Slice ?_;rw[evalPart_some];refine Dx (hl pins s1 σ H1 _ I1 q1) λvl s2 h9=>?_;obtain⟨z,H2,I2,r2,q2⟩:=h9;rw[evalPart_none];refine zCe ?_;rw[evalPart_some];refine Dx (hk pins s2 σ H2 _ I2 q2) λvk s3 h9=>?_;obtain⟨z',H3,I3,r3,a,xs,i,j,ex,el,ek,j0,hx,l1000,q⟩:=h9;subst ex el ek;cases r1;obtain⟨tl',rfl⟩:=r2;obtain⟨tk',rfl⟩:=r3;have I4:WM X pins σ H3 { s3 with heap:=s3.heap.push { cls:=.type "slice",data:=.fields #[.int i tl',.none,.int j tk'] } }:=I3.kept (t':=s3.toks) λb ob q=>zAm _ q;obtain⟨its,r,ht,hz⟩:=I4.list hx;have hlen:=r.length;refine tail_any (ops:=[.ref a,.ref s3.heap.objs.size]) ht.isList.typeIs slot_list_getitem.lookup ?_ (by with_unfolding_all rfl);refine wpAny_getItem_list_slice ht.isList (Heap.IsSliceOf.new ..) (.int i tl') .none (.int j tk') (by simpa using j0) ?_ (by rw[zAh] <;> lia);refine⟨.ref _,_,I4.laid (t':=s3.toks) (o:=.lst (Qs xs (some i) j)) (λb ob q=>zAm _ q) (zAn _) ?_,rfl,q _ (I4.hok.fresh (zAn _))⟩;refine⟨by rw[zCf];lia,_,0,F5 r _,?_⟩;rw[hlen];unfold slicePick;exact zAG _ rfl
end
section
variable {f:Addr}
theorem WF {Pr:List Value->Prop} (h:∀ a b c d e f g,Pr [a,b,c,d,e,f,g]):∀ us,us.length=7->Pr us
 |[a,b,c,d,e,f,g],_=>h a b c d e f g
end
section
variable {w:World} {K:zAb} {x qual:Str} {st:Stmt} {C:Addr} {k:Nat}
def YR (K:zAb) (C:Addr) (x qual:Str) (st:Stmt) (ds:Array Value):Prop:=∃ (f dv:Addr) (od an:Option Addr) (sl:Array (Option Value)) (oc kV dc pm cd ct:Value) (nd:Nat),zAd K (.ref C) x=some (some (.ref f))/\zBs K (.ref f)=true /\
 K.lookup f=some ⟨oc,od,.func (zAK x qual (Dt st) (Dj st) (Av st) (.ref dv) kV dc pm an cd ct),sl⟩/\zAP K cd qual=true/\zAJ K (.ref f)=true/\K.lookup dv=some ⟨.type "tuple",none,.seq ds nd,#[]⟩
def YT (K:zAb) (C:Addr) (x qual:Str) (st:Stmt) (T:Addr):Prop:=∃ (f c:Addr) (od an:Option Addr) (sl:Array (Option Value)) (oc kV dc pm ct:Value),zAd K (.ref C) x=some (some (.ref f))/\zBs K (.ref f)=true /\
 K.lookup f=some ⟨oc,od,.func (zAK x qual (Dt st) (Dj st) (Av st) .none kV dc pm an (.ref c) ct),sl⟩/\zAP K (.ref c) qual=true/\zAJ K (.ref f)=true/\PySem.W.codeHdIn K c T=true
def YU (K:zAb) (C:Addr) (x qual:Str) (st:Stmt):Prop:=∃ f,zCc K (.ref C) (.type "type") x=some (.val (.ref f))/\zBD K (.ref C) "__getattribute__"=some (some (.builtin "type.__getattribute__"))/\zCb K C (.type "type")=true/\MtIn K x qual st f
def YR.of {K:zAb} {C:Addr} {x qual:Str} {st:Stmt} {ds:Array Value} {f dv:Addr} {od an:Option Addr} {sl:Array (Option Value)} {oc kV dc pm cd ct:Value} {nd:Nat} (a:zAd K (.ref C) x=some (some (.ref f))) (i:zBs K (.ref f)=true)
  (l:K.lookup f=some ⟨oc,od,.func (zAK x qual (Dt st) (Dj st) (Av st) (.ref dv) kV dc pm an cd ct),sl⟩) (c:zAP K cd qual=true) (k:zAJ K (.ref f)=true) (d:K.lookup dv=some ⟨.type "tuple",none,.seq ds nd,#[]⟩):YR K C x qual st ds:=⟨_,_,_,_,_,_,_,_,_,_,_,_,a,i,l,c,k,d⟩
def YT.of {K:zAb} {C T:Addr} {x qual:Str} {st:Stmt} {f c:Addr} {od an:Option Addr} {sl:Array (Option Value)} {oc kV dc pm ct:Value} (a:zAd K (.ref C) x=some (some (.ref f))) (i:zBs K (.ref f)=true)
  (l:K.lookup f=some ⟨oc,od,.func (zAK x qual (Dt st) (Dj st) (Av st) .none kV dc pm an (.ref c) ct),sl⟩) (d:zAP K (.ref c) qual=true) (k:zAJ K (.ref f)=true) (h:PySem.W.codeHdIn K c T=true):YT K C x qual st T:=⟨_,_,_,_,_,_,_,_,_,_,a,i,l,d,k,h⟩
def YU.of {K:zAb} {C f:Addr} {x qual:Str} {st:Stmt} (b:zCc K (.ref C) (.type "type") x=some (.val (.ref f))) (g:zBD K (.ref C) "__getattribute__"=some (some (.builtin "type.__getattribute__"))) (r:zCb K C (.type "type")=true) (i:MtIn K x qual st f):YU K C x qual st:=⟨_,b,g,r,i⟩
def YS (K:zAb) (x p q r s:Str):Prop:=∃ (w:Addr) (n:Nat) (a b c d:Tok),zAq K zCi x=some (some (.ref w))/\K.lookup w=some ⟨.type "tuple",none,.seq #[.str p a,.str q b,.str r c,.str s d] n,#[]⟩
def YS.of {K:zAb} {x p q r s:Str} {w:Addr} {n:Nat} {a b c d:Tok} (h:zAq K zCi x=some (some (.ref w))) (l:K.lookup w=some ⟨.type "tuple",none,.seq #[.str p a,.str q b,.str r c,.str s d] n,#[]⟩):YS K x p q r s:=⟨_,_,_,_,_,_,h,l⟩
end
section
variable {X:Cx}
def W1 (n m:Nat) (K:zAb):V->List V->Hp->VK->Prop:=λx vs H Q=>∃ z p ps,x=.str z/\vs=[.ref p]/\(WL K H p (ps.map V.str)\/WX K H p (ps.map V.str))/\1<=ps.length/\ps.length<=n/\z.length<=100/\(∀ y∈ps,y.length<=m)/\Q (.str (Str.join z ps)) H
def R6 {n m:Nat} (nm:n*m+n*100<=1100000) {K:zAb} (hK:X.K=K):MI X "str.join" (W1 n m K):=by
 subst hK;intro pins s σ H x vs v us Q I rx rv h;obtain⟨z,p,ps,rfl,rfl,hl,h1,h2,hz,hb,q⟩:=h;obtain⟨t,rfl⟩:=rx;obtain⟨w,rfl,ru⟩:=rv.one;cases ru;have z1:ps.length*m<=n*m:=zBt _ h2;have z2:ps.length*z.length<=n*100:=Nat.mul_le_mul h2 hz;have fit:Builtin.Str.tooLong (ps.toArray.foldl (· + ·.length+z.length) 0)=false:=StrLaws.joinFits hb (by lia);have le:(Str.join z ps).length<=sizeLine:=by
  refine zAD (Iu hb) ?_;rw[zCf,Nat.mul_add]
  lia
 rcases hl with hl|hl
 .obtain⟨its,r,pl,_⟩:=I.list hl
  obtain⟨l,rfl,e⟩:=C5 r;refine call_meets F.slot_str_join (typeIs_str _ _ _) F.entry_str_join (F.args_str_join_2 _ _) (meets_str_join_list z t p l (by rw[e];exact fit)) ⟨pl.isList,?_⟩;have el:l.length=ps.length:=by rw[<- e,zAa]
  match l,el,e with
  |[],z,_=>simp at z;lia
  |[(y,u)],_,e=>
   have e':ps=[y]:=by rw[<- e];rfl
   subst e';exact⟨.str y,H,I,⟨u,rfl⟩,q⟩
  |a::b::c,_,e=>
   have em:joinMade z (a::b::c)=.str (Str.join z ps):=by show Made.str (Builtin.Str.glued _ _)=_;rw[StrLaws.glued_eq_join,e]
   rw[em];exact⟨le,⟨.str _,H,I.tok _,⟨_,rfl⟩,q⟩⟩
 .obtain⟨its,r,pl,_⟩:=I.tuple hl
  obtain⟨l,rfl,e⟩:=C5 r;refine call_meets F.slot_str_join (typeIs_str _ _ _) F.entry_str_join (F.args_str_join_2 _ _) (meets_str_join_tuple z t p l (by rw[e];exact fit)) ⟨(by obtain⟨o,e1,e2,n,e3⟩:=pl;exact⟨o,n,e1,e2,e3⟩),?_⟩;have el:l.length=ps.length:=by rw[<- e,zAa]
  match l,el,e with
  |[],z,_=>simp at z;lia
  |[(y,u)],_,e=>
   have e':ps=[y]:=by rw[<- e];rfl
   subst e';exact⟨.str y,H,I,⟨u,rfl⟩,q⟩
  |a::b::c,_,e=>
   have em:joinMade z (a::b::c)=.str (Str.join z ps):=by show Made.str (Builtin.Str.glued _ _)=_;rw[StrLaws.glued_eq_join,e]
   rw[em];exact⟨le,⟨.str _,H,I.tok _,⟨_,rfl⟩,q⟩⟩
abbrev PY:=W1 1000 1000
abbrev OR:=W1 70 6200
def Ix {K:zAb} (hK:X.K=K):MI X "str.join" (PY K):=R6 (by decide) hK
def Xm {K:zAb} (hK:X.K=K):MI X "str.join" (OR K):=R6 (by decide) hK
end
end L2
namespace CR
def at0 (l:List Int) (k:Int):Int:=l.getD k.toNat 0
structure GW (ws:List Int):Prop where
 lo:1<=ws.length
 hi:ws.length<=8
 pos:∀ w∈ws,1<=w
 sum:ws.sum<=100
def may (ws ds:List Int) (t k:Int):Bool:=decide (at0 ds k*ws.sum<at0 ws k*(t+1))
def due (ws ds:List Int) (k:Int):Int:=((at0 ds k+1)*ws.sum+at0 ws k-1)/at0 ws k
def placesTo (ws ds:List Int) (t:Int) (n:Nat):List Int:=((zAO n).map λk:Nat=>(k:Int)).filter λk=>may ws ds t k
def places (ws ds:List Int) (t:Int):List Int:=placesTo ws ds t ws.length
def pick (f:Int->Int) (b:Int) (l:List Int):Int:=l.foldl (λb p=>if f p<f b then p else b) b
def place (ws ds:List Int) (t:Int):Int:=pick (due ws ds) ((places ws ds t).headD 0) (places ws ds t)
def put (ds:List Int) (p:Int):List Int:=ds.set p.toNat (at0 ds p+1)
def run (ws:List Int):Nat->List Int×List Int
 |0=>(zAC ws.length 0,[])
 |t+1=>(put (run ws t).1 (place ws (run ws t).1 t),(run ws t).2++[place ws (run ws t).1 t])
def wheel (ws:List Int):List Int:=(run ws ws.sum.toNat).2
def placesTo_succ (ws ds:List Int) (t:Int) (n:Nat):placesTo ws ds t (n+1)=placesTo ws ds t n++(if may ws ds t n=true then [(n:Int)] else []):=by
 unfold placesTo;rw[zBR,zAf,List.filter_append]
 congr 1
 by_cases h:may ws ds t n=true
 .simp [h]
 .simp [h]
def placesTo_le (ws ds:List Int) (t:Int) (n:Nat):(placesTo ws ds t n).length<=n:=by
 unfold placesTo;refine zAD (zBB _ _) ?_;rw[zAa,zAW];exact zAn _
def placesTo_mem {ws ds:List Int} {t:Int} {n:Nat} {k:Int} (h:k∈placesTo ws ds t n):0<=k/\k<n/\may ws ds t k=true:=by
 unfold placesTo at h;obtain⟨h1,h2⟩:=List.mem_filter.mp h;obtain⟨j,hj,rfl⟩:=zAz.mp h1;have:=zBg.mp hj;exact⟨by lia,by lia,h2⟩
theorem V0 (f:Int->Int):∀ (l:List Int) (b:Int),pick f b l=b\/pick f b l∈l
 |[],b=>.inl rfl
 |p::l,b=>by
  show pick f (if f p<f b then p else b) l=b\/pick f (if f p<f b then p else b) l∈p::l;rcases V0 f l (if f p<f b then p else b) with h|h
  .rw[h]
   split
   .exact .inr zAk
   .exact .inl rfl
  .exact .inr (zAi _ h)
def DN {ws ds:List Int} {t:Int} (h:places ws ds t≠[]):place ws ds t∈places ws ds t:=by
 unfold place;rcases V0 (due ws ds) (places ws ds t) ((places ws ds t).headD 0) with e|e
 .rw[e]
  cases q:places ws ds t with
  |nil=>exact absurd q h
  |cons p l=>exact zAk
 .exact e
theorem FD:∀ (ws ds:List Int) (T c:Int),ds.length=ws.length->(∀ k:Nat,k<ws.length->ws.getD k 0*c<=ds.getD k 0*T)->ws.sum*c<=ds.sum*T
 |[],[],_,_,_,_=>by simp
 |[],_::_,_,_,h,_=>by simp at h
 |_::_,[],_,_,h,_=>by simp at h
 |w::ws,d::ds,T,c,h,hk=>by
  have ih:=FD ws ds T c (by simpa using h) λk hk'=>by simpa using hk (k+1) (by simpa using hk')
  have h0:=hk 0 (by simp);simp only [zBf,List.getD_cons_zero] at *;rw[Int.add_mul,Int.add_mul]
  lia
def sum_pos {ws:List Int} (g:GW ws):1<=ws.sum:=by
 have aux:∀ l:List Int,(∀ w∈l,1<=w)->(l.length:Int)<=l.sum:=by
  intro l
  induction l with
  |nil=>intro _;simp
  |cons w l ih=>
   intro h;have h1:=h w zAk;have h2:=ih λx hx=>h x (zAi _ hx);rw[zBf,zAe]
   lia
 have:=aux ws g.pos;have:=g.lo
 lia
def places_ne {ws ds:List Int} {t:Nat} (g:GW ws) (hl:ds.length=ws.length) (hs:ds.sum=t):places ws ds t≠[]:=by
 intro h;have key:∀ k:Nat,k<ws.length->ws.getD k 0*((t:Int)+1)<=ds.getD k 0*ws.sum:=λk hk=>by
  by_cases c:ds.getD k 0*ws.sum<ws.getD k 0*((t:Int)+1)
  .have m:(k:Int)∈places ws ds t:=by
    unfold places placesTo;refine List.mem_filter.mpr ⟨zAz.mpr ⟨k,zBg.mpr hk,rfl⟩,?_⟩;unfold may at0
    simpa using c
   rw[h] at m;cases m
  .lia
 have q:=FD ws ds ws.sum ((t:Int)+1) hl key;rw[hs] at q;have p:=sum_pos g;have e:ws.sum*((t:Int)+1)=(t:Int)*ws.sum+ws.sum:=by rw[Int.mul_add,Int.mul_comm,Int.mul_one]
 lia
def AE (ds:List Int) (p:Int):(put ds p).length=ds.length:=by unfold put;rw[List.length_set]
theorem AO:∀ (ds:List Int) (k:Nat) (x:Int),k<ds.length->(ds.set k x).sum=ds.sum-ds.getD k 0+x
 |[],_,_,h=>by simp at h
 |d::ds,0,x,_=>by simp only [List.set_cons_zero,zBf,List.getD_cons_zero];lia
 |d::ds,k+1,x,h=>by
  have ih:=AO ds k x (by simpa using h);simp only [List.set_cons_succ,zBf,List.getD_cons_succ,ih];lia
def KW {ds:List Int} {p:Int} (h0:0<=p) (h:p<ds.length):(put ds p).sum=ds.sum+1:=by
 unfold put at0;rw[AO ds p.toNat _ (by lia)]
 lia
def Yo (n:Nat):(zAC n (0:Int)).sum=0:=by
 induction n with
 |zero=>rfl
 |succ n ih=>rw[zBw,zBf,ih];rfl
structure At (ws:List Int) (t:Nat):Prop where
 len:(run ws t).1.length=ws.length
 sum:(run ws t).1.sum=t
 row:(run ws t).2.length=t
 inr:∀ p∈(run ws t).2,0<=p/\p<ws.length
def place_in {ws ds:List Int} {t:Nat} (g:GW ws) (hl:ds.length=ws.length) (hs:ds.sum=t):0<=place ws ds t/\place ws ds t<ws.length/\may ws ds t (place ws ds t)=true:=
 placesTo_mem (DN (places_ne g hl hs))
theorem run_at {ws:List Int} (g:GW ws):∀ t:Nat,At ws t
 |0=>⟨by simp [run],by show (zAC _ 0).sum=_;rw[Yo];rfl,rfl,λ_ h=>by cases h⟩
 |t+1=>by
  have a:=run_at g t;obtain⟨h0,h1,_⟩:=place_in (t:=t) g a.len a.sum;refine⟨?_,?_,?_,λp hp=>?_⟩
  .show (put _ _).length=_
   rw[AE,a.len]
  .show (put _ _).sum=_
   rw[KW h0 (by rw[a.len];exact h1),a.sum]
   lia
  .show (_++[_]).length=_
   rw[zAc,a.row];rfl
  .rcases zAF.mp hp with h|h
   .exact a.inr p h
   .rw[zAp.mp h]
    exact⟨h0,h1⟩
end CR
namespace CRL
open PySem L2
def top (i:Nat):Stmt:=PySem.Challenge.pw_coverroll_k91_books_read_and_shown.main.body.getD i (.Pass ⟨0,0,0,0⟩)
abbrev Ih:Stmt:=Cd (top 14) 0
abbrev Qb:Stmt:=top 18
abbrev Fq:Stmt:=top 19
abbrev Iy:Stmt:=top 20
abbrev Ie:Stmt:=top 21
abbrev Ld:Stmt:=top 22
abbrev Lq:Stmt:=top 23
abbrev Fs:Stmt:=top 29
abbrev Sx:Stmt:=top 30
abbrev Vw:Stmt:=top 31
abbrev Mr:Stmt:=top 32
abbrev Hj:Stmt:=top 35
abbrev Gp:Stmt:=Cd (top 36) 0
abbrev Jf:Stmt:=Cd (top 37) 0
abbrev Nn:Stmt:=Cd (top 37) 2
abbrev Hi:Stmt:=Cd (top 38) 0
abbrev Kf:Stmt:=Cd (top 38) 2
abbrev Hm:Stmt:=Cd (top 39) 0
abbrev Kg:Stmt:=Cd (top 39) 2
abbrev Jg:Stmt:=top 44
abbrev Kv:Stmt:=top 45
abbrev Hb:Stmt:=Cd (top 46) 1
abbrev Hn:Stmt:=Cd (top 46) 2
abbrev Gf:Stmt:=Cd (top 47) 0
abbrev Il:Stmt:=Cd (top 47) 2
abbrev Gh:Stmt:=Cd (top 48) 0
abbrev Ik:Stmt:=Cd (top 48) 2
abbrev Gr:Stmt:=Cd (top 49) 0
abbrev Ji:Stmt:=Cd (top 49) 2
abbrev Ig:Stmt:=Cd (top 50) 0
abbrev Ks:Stmt:=Cd (top 50) 2
abbrev Jk:Stmt:=Cd (top 51) 0
abbrev No:Stmt:=Cd (top 51) 2
abbrev Jh:Stmt:=Cd (top 52) 0
abbrev Nr:Stmt:=Cd (top 52) 2
abbrev Ql:Stmt:=Cd (top 52) 3
abbrev Im:Stmt:=Cd (top 53) 0
abbrev Ls:Stmt:=Cd (top 53) 2
abbrev Mz:Stmt:=Cd (top 53) 3
abbrev Kc:Stmt:=top 57
abbrev Qj:Stmt:=top 58
abbrev Vp:Stmt:=top 59
abbrev Ij:Stmt:=top 60
abbrev B4:Stmt:=top 61
abbrev Io:Stmt:=Cd (top 62) 0
abbrev Jb:Stmt:=top 66
abbrev Cu:Stmt:=Cd (top 67) 0
abbrev We:Stmt:=top 73
abbrev Gw:Stmt:=Cd (top 74) 0
abbrev Jl:Stmt:=Cd (top 74) 1
abbrev Ke:Stmt:=Cd (top 74) 2
abbrev Ga:Stmt:=Cd (top 74) 3
abbrev Hd:Stmt:=Cd (top 74) 4
abbrev Hf:Stmt:=Cd (top 74) 5
abbrev Fo:Stmt:=Cd (top 74) 6
abbrev Fh:Stmt:=Cd (top 74) 7
abbrev Fb:Stmt:=Cd (top 74) 8
abbrev Gd:Stmt:=Cd (top 74) 9
abbrev Gc:Stmt:=Cd (top 74) 10
abbrev Gq:Stmt:=Cd (top 74) 11
abbrev Fg:Stmt:=Cd (top 74) 12
abbrev Hr:Stmt:=top 75
abbrev Hl:Stmt:=top 76
abbrev Hh:Stmt:=Cd (top 79) 0
abbrev Hg:Stmt:=Cd (top 79) 1
abbrev Nt:Stmt:=top 80
abbrev Mt:Stmt:=top 81
abbrev Mn:Stmt:=top 82
abbrev Kw:Stmt:=top 83
abbrev Lf:Stmt:=top 84
abbrev Mo:Stmt:=top 85
abbrev Ic:Stmt:=top 86
abbrev Qd:Stmt:=top 87
abbrev Nq:Stmt:=top 88
abbrev Lv:Stmt:=top 89
abbrev Li:Stmt:=top 90
abbrev Mh:Stmt:=top 91
abbrev Nc:Stmt:=top 93
abbrev Jv:Stmt:=top 94
abbrev Lm:Stmt:=top 95
abbrev Jt:Stmt:=top 96
abbrev Mv:Stmt:=top 97
abbrev Lh:Stmt:=top 98
abbrev Mi:Stmt:=top 99
abbrev Fp:Stmt:=top 100
abbrev Jy:Stmt:=top 101
abbrev Jw:Stmt:=top 102
abbrev Lk:Stmt:=top 103
abbrev Hq:Stmt:=top 106
abbrev Mg:Stmt:=top 107
abbrev Go:Stmt:=top 108
abbrev Gx:Stmt:=top 109
abbrev Nh:Stmt:=top 110
abbrev Gn:Stmt:=top 111
abbrev Mu:Stmt:=top 112
abbrev Wp:Stmt:=top 113
structure Txt (K:zAb) (mg:Str->Option Value):Prop where
 g_COVERED_ONE:LS mg "COVERED_ONE" "self"
 g_FIGURES:LS mg "FIGURES" "0123456789"
 g_LAST_DAY:Mw mg "LAST_DAY" 1000000
 g_LETTERS:LS mg "LETTERS" "abcdefghijklmnopqrstuvwxyz"
 g_LONGEST_NAME:Mw mg "LONGEST_NAME" 8
 g_MOST_CENTS:Mw mg "MOST_CENTS" 999999999999
 g_MOST_CLAUSES:Mw mg "MOST_CLAUSES" 8
 g_MOST_COVERS:Mw mg "MOST_COVERS" 8
 g_MOST_DAY_FIGURES:Mw mg "MOST_DAY_FIGURES" 7
 g_MOST_IN_ROW:Mw mg "MOST_IN_ROW" 8
 g_MOST_OPEN:Mw mg "MOST_OPEN" 6
 g_MOST_PLACES:Mw mg "MOST_PLACES" 8
 g_MOST_TURNS:Mw mg "MOST_TURNS" 100
 g_MOST_WEIGHT_FIGURES:Mw mg "MOST_WEIGHT_FIGURES" 3
 g_MOST_WHOLE_FIGURES:Mw mg "MOST_WHOLE_FIGURES" 10
 g_MOST_WORDS:Mw mg "MOST_WORDS" 60
 g_RANK_OF_ALL:Mw mg "RANK_OF_ALL" 2
 g_RANK_OF_OTHERS:Mw mg "RANK_OF_OTHERS" 3
 g_RANK_OF_SOME:Mw mg "RANK_OF_SOME" 1
 n_bool:mg "bool"=none
 n_enumerate:mg "enumerate"=none
 n_int:mg "int"=none
 n_isinstance:mg "isinstance"=none
 n_len:mg "len"=none
 n_list:mg "list"=none
 n_max:mg "max"=none
 n_range:mg "range"=none
 n_set:mg "set"=none
 n_str:mg "str"=none
 n_sum:mg "sum"=none
 n_zip:mg "zip"=none
 t_WAYS:SA K mg "WAYS" [.str "event",.str "thing",.str "year",.str "loss"]
structure Xc (K:zAb) (mg:Str->Option Value) (Ek Fj Fk Gm Gk Fi Gj Ib Ia Jr:Addr):Prop where
 a_CoverError:mg "CoverError"=some (.ref Ek)
 a_NoAmount:mg "NoAmount"=some (.ref Fj)
 a_NoShares:mg "NoShares"=some (.ref Fk)
 a_NoWords:mg "NoWords"=some (.ref Gm)
 a_TooDeep:mg "TooDeep"=some (.ref Gk)
 a_NoClause:mg "NoClause"=some (.ref Fi)
 a_NoCover:mg "NoCover"=some (.ref Gj)
 a_NoBook:mg "NoBook"=some (.ref Ib)
 a_NoText:mg "NoText"=some (.ref Ia)
 a_NoRow:mg "NoRow"=some (.ref Jr)
structure Kl (K:zAb) (mg:Str->Option Value) (Ab Ae Ad Ah Ao Ax Ay Am Al Ba An Aq Bb As Bd Af Aw:Addr):Prop where
 mg_Condition:mg "Condition"=some (.ref Ab)
 cl_Condition:XI K Ab
 mg_CauseIs:mg "CauseIs"=some (.ref Ae)
 cl_CauseIs:XI K Ae
 na_CauseIs_name:WQ K Ae "name"
 mg_ThingIs:mg "ThingIs"=some (.ref Ad)
 cl_ThingIs:XI K Ad
 na_ThingIs_name:WQ K Ad "name"
 mg_DaysIn:mg "DaysIn"=some (.ref Ah)
 cl_DaysIn:XI K Ah
 na_DaysIn_first:WQ K Ah "first"
 na_DaysIn_last:WQ K Ah "last"
 mg_Over:mg "Over"=some (.ref Ao)
 cl_Over:XI K Ao
 na_Over_cents:WQ K Ao "cents"
 mg_Not:mg "Not"=some (.ref Ax)
 cl_Not:XI K Ax
 na_Not_part:WQ K Ax "part"
 mg_All:mg "All"=some (.ref Ay)
 cl_All:XI K Ay
 na_All_several:WQ K Ay "several"
 mg_Some:mg "Some"=some (.ref Am)
 cl_Some:XI K Am
 na_Some_several:WQ K Am "several"
 mg_Clause:mg "Clause"=some (.ref Al)
 cl_Clause:XI K Al
 na_Clause_by:WQ K Al "by"
 mg_Own:mg "Own"=some (.ref Ba)
 cl_Own:XI K Ba
 na_Own_cents:WQ K Ba "cents"
 na_Own_by:WQ K Ba "by"
 mg_Layer:mg "Layer"=some (.ref An)
 cl_Layer:XI K An
 na_Layer_first:WQ K An "first"
 na_Layer_upto:WQ K An "upto"
 na_Layer_by:WQ K An "by"
 mg_Limit:mg "Limit"=some (.ref Aq)
 cl_Limit:XI K Aq
 na_Limit_most:WQ K Aq "most"
 na_Limit_by:WQ K Aq "by"
 mg_Deal:mg "Deal"=some (.ref Bb)
 cl_Deal:XI K Bb
 na_Deal_wheel:WQ K Bb "wheel"
 na_Deal_weights:WQ K Bb "weights"
 mg_Cover:mg "Cover"=some (.ref As)
 cl_Cover:XI K As
 na_Cover_name:WQ K As "name"
 na_Cover_condition:WQ K As "condition"
 na_Cover_clauses:WQ K As "clauses"
 na_Cover_houses:WQ K As "houses"
 na_Cover_deal:WQ K As "deal"
 na_Cover_waits:WQ K As "waits"
 mg_Book:mg "Book"=some (.ref Bd)
 cl_Book:XI K Bd
 na_Book_covers:WQ K Bd "covers"
 na_Book_asking:WQ K Bd "asking"
 ty_Book:∀ {H:Hp} {a dx:Addr} {fs:List (Str×V)},H a=some (.ins Bd dx fs)->Lw K H (.ref a) (.ref Bd)
 mg_Reader:mg "Reader"=some (.ref Af)
 cl_Reader:XI K Af
 na_Reader_row:WQ K Af "row"
 na_Reader_place:WQ K Af "place"
 na_Reader_depth:WQ K Af "depth"
 mg_Draft:mg "Draft"=some (.ref Aw)
 cl_Draft:XI K Aw
 na_Draft_name:WQ K Aw "name"
 na_Draft_condition:WQ K Aw "condition"
 na_Draft_clauses:WQ K Aw "clauses"
 na_Draft_shares:WQ K Aw "shares"
 na_Draft_waits:WQ K Aw "waits"
 kt_Book_Book:zBh K (.ref Bd) (.ref Bd)=some true
 nd:([Ab,Ae,Ad,Ah,Ao,Ax,Ay,Am,Al,Ba,An,Aq,Bb,As,Bd,Af,Aw]:List Addr).Nodup
def dT {c A B:Prop} [Decidable c] (h:c) (q:A):if decide c=true then A else B:=by rw[decide_eq_true h,if_pos rfl];exact q
def dF {c A B:Prop} [Decidable c] (h:¬ c) (q:B):if decide c=true then A else B:=by rw[decide_eq_false h,if_neg zAo];exact q
def nT {c A B:Prop} [Decidable c] (h:¬ c) (q:A):if (!decide c)=true then A else B:=by rw[decide_eq_false h];exact q
def nF {c A B:Prop} [Decidable c] (h:c) (q:B):if (!decide c)=true then A else B:=by rw[decide_eq_true h];exact q
def bT {c:Bool} {A B:Prop} (h:c=true) (q:A):if c=true then A else B:=by rw[if_pos h];exact q
def bF {c:Bool} {A B:Prop} (h:c=false) (q:B):if c=true then A else B:=by rw[if_neg (by rw[h];exact zAo)];exact q
def IM:V->Bool
 |.int _=>true
 |_=>false
def DP {K:zAb} {H:Hp} {x:V} {T:String} (h:Lw K H x (.type T)):∃ b1 b2,zBh K (.type T) (.type "int")=some b1/\zBh K (.type T) (.type "bool")=some b2/\IM x=(b1 && !b2):=by
 cases h with
 |non=>exact⟨false,false,by kernel_rfl,by kernel_rfl,rfl⟩
 |bl b=>exact⟨true,true,by kernel_rfl,by kernel_rfl,rfl⟩
 |int i=>exact⟨true,false,by kernel_rfl,by kernel_rfl,rfl⟩
 |str i=>exact⟨false,false,by kernel_rfl,by kernel_rfl,rfl⟩
 |flt i=>exact⟨false,false,by kernel_rfl,by kernel_rfl,rfl⟩
 |lst e=>exact⟨false,false,by kernel_rfl,by kernel_rfl,rfl⟩
 |frz e=>exact⟨false,false,by kernel_rfl,by kernel_rfl,rfl⟩
 |tup e=>exact⟨false,false,by kernel_rfl,by kernel_rfl,rfl⟩
 |dK e=>exact⟨false,false,by kernel_rfl,by kernel_rfl,rfl⟩
 |dT e=>exact⟨false,false,by kernel_rfl,by kernel_rfl,rfl⟩
def Z8 {K:zAb}:zBh K (.type "list") (.type "list")=some true:=by kernel_rfl
inductive P7 (K:zAb) (vs:List V) (H:Hp) (Q:VK):Prop
 |mk (x:_) (T:_) (z0:vs=[x]) (z1:Lw K H x (.type T)) (z2:Q (.bl (IM x)) H):P7 K vs H Q
def Rt (K:zAb):Sp:=λvs H Q _=>P7 K vs H Q
section
variable {P:Program} {w:World} {K:zAb} {mg:Str->Option Value} {base:Heap}
def O5:Bc ["thing"] ["thing"] (Av Qb):=by injections
def Q2 {f:Addr} {fd:zCh} (F:WV K "is_whole" "is_whole" Qb f fd) (T:Txt K mg):WN P w K mg base Do 1 f fd ["thing"] (Rt K):=by
 have sc:=O5;bv_omega
 .obtain⟨x,T,rfl,_⟩:=h
  rfl
 obtain⟨x,ty,rfl,hty,q⟩:=h;refine⟨_,(Aj (Bh (Tq (Bq Dp rfl T.n_isinstance (show zCg _=some (.builtin "isinstance") from rfl) (Aa (pv 0) (Aa (Oy "int" rfl T.n_int rfl) Ag))) (Sy (PD (Bq Dp rfl T.n_isinstance (show zCg _=some (.builtin "isinstance") from rfl) (Aa (pv 0) (Aa (Oy "bool" rfl T.n_bool rfl) Ag)))))))),?_⟩;obtain⟨b1,b2,k1,k2,e⟩:=DP hty;rw[e] at q;refine (vE rfl ⟨_,_,_,_,_,rfl,Ow,hty,k1,_,rfl,?_⟩);cases b1 with
 |false=>exact q
 |true=>exact⟨_,rfl,_,_,_,_,_,rfl,Ow,hty,k2,_,rfl,q⟩
end
def VA (m:Int):V->Bool
 |.int i=>decide (0<=i/\i<=m)
 |_=>false
inductive IN (K:zAb) (m:Int) (vs:List V) (H:Hp) (Q:VK):Prop
 |mk (x:_) (T:_) (z0:vs=[x]) (z1:Lw K H x (.type T)) (z2:Q (.bl (VA m x)) H):IN K m vs H Q
def JA (K:zAb) (m:Int):Sp:=λvs H Q _=>IN K m vs H Q
section
variable {P:Program} {w:World} {K:zAb} {mg:Str->Option Value} {base:Heap}
def M9:Bc ["thing"] ["thing"] (Av Mr):=by injections
def N0 {f:Addr} {fd:zCh} (F:WV K "is_amount" "is_amount" Mr f fd) (T:Txt K mg) (Cis_whole:Cy P w K mg base 1 "is_whole" ["thing"] (Rt K)):WN P w K mg base Do 2 f fd ["thing"] (JA K 999999999999):=by
 have sc:=M9;bv_omega
 .obtain⟨_,_,rfl,_⟩:=h
  rfl
 obtain⟨x,ty,rfl,hty,q⟩:=h;refine⟨_,(Aj (Bh (Tq (Az Cis_whole (hr.mono (by decide)) rfl (Aa (pv 0) Ag)) (Sy (Wr Ui Ui Ar (pv 0) (Dv T.g_MOST_CENTS rfl)))))),?_⟩;refine (vE rfl ⟨_,_,rfl,hty,_,rfl,?_⟩);cases x with
 |int i=>
  refine Kt (vE rfl (vF rfl rfl (vE rfl ?_)));by_cases c1:(0:Int)<=i
  .refine dT c1 (vF rfl rfl ?_)
   show Q (.bl (decide (i<=999999999999))) H;have e:decide (0<=i/\i<=999999999999)=decide (i<=999999999999):=by
    by_cases c2:i<=999999999999
    .rw[decide_eq_true c2,decide_eq_true ⟨c1,c2⟩]
    .rw[decide_eq_false c2,decide_eq_false (λy=>c2 y.2)]
   rw[<- e];exact q
  .refine dF c1 ?_
   rw[show VA 999999999999 (.int i)=false from decide_eq_false (λy=>c1 y.1)] at q;exact q
 |_=>exact Ep q
end
def Hk (c:Nat):Prop:=97<=c/\c<=122
instance:DecidablePred Hk:=λc=>by unfold Hk;exact inferInstance
def Nu (l:List Nat):Prop:=∀ c∈l,Hk c
instance (l:List Nat):Decidable (Nu l):=by unfold Nu;exact inferInstance
def Re (l:List Nat):Prop:=(1<=l.length/\l.length<=8)/\Nu l
instance (l:List Nat):Decidable (Re l):=by unfold Re;exact inferInstance
def YF {c:Nat}:(c∈(Str.ofString "abcdefghijklmnopqrstuvwxyz").cps.toList)↔Hk c:=by
 have e:(Str.ofString "abcdefghijklmnopqrstuvwxyz").cps.toList=(zAO 26).map (97 + ·):=by ac_nf
 rw[e,zAz];unfold Hk;constructor
 .rintro ⟨k,hk,rfl⟩
  have:=zBg.mp hk
  lia
 .intro h
  exact⟨c-97,zBg.mpr (by lia),by lia⟩
def OE:V->Bool
 |.str _=>true
 |_=>false
def Ew:V->Bool
 |.str z=>decide (Re z.cps.toList)
 |_=>false
def VR (x:V):Prop:=∀ z,x=.str z->z.length<=900
def MC {K:zAb} {H:Hp} {x:V} {T:String} (h:Lw K H x (.type T)):zBh K (.type T) (.type "str")=some (OE x):=by
 cases h with
 |non=>kernel_rfl
 |bl b=>kernel_rfl
 |int i=>kernel_rfl
 |str i=>kernel_rfl
 |flt i=>kernel_rfl
 |lst e=>kernel_rfl
 |frz e=>kernel_rfl
 |tup e=>kernel_rfl
 |dK e=>kernel_rfl
 |dT e=>kernel_rfl
inductive JV  (vs:List V) (H:Hp) (Q:VK):Prop
 |mk (l:_) (z0:vs=[.str (tx l)]) (z1:Q (.bl (decide (Nu l))) H):JV  vs H Q
def HZ:Sp:=λvs H Q _=>JV  vs H Q
inductive BD (K:zAb) (vs:List V) (H:Hp) (Q:VK):Prop
 |mk (x:_) (T:_) (z0:vs=[x]) (z1:Lw K H x (.type T)) (z2:VR x) (z3:Q (.bl (Ew x)) H):BD K vs H Q
def Wo (K:zAb):Sp:=λvs H Q _=>BD K vs H Q
def OU {l:List Nat} (h:l.length<=900):VR (.str (tx l)):=λz e=>by cases e;rw[Ci];exact h
section
seal L2.PS L2.PSs L2.PE
variable {P:Program} {w:World} {K:zAb} {mg:Str->Option Value} {base:Heap}
def Ml:Bc ["text","sign"] ["text"] (Av Fs):=by injections
def Ms {f:Addr} {fd:zCh} (F:WV K "has_letters_alone" "has_letters_alone" Fs f fd) (T:Txt K mg):WN P w K mg base Do 1 f fd ["text"] HZ:=by
 have sc:=Ml;bv_omega
 .obtain⟨_,rfl,_⟩:=h
  rfl
 obtain⟨l,rfl,q⟩:=h;refine⟨_,(Ai (El PassesOwn.never rfl (JU (pv 0)) (Bl (i:=1) sc.nd rfl (Or.inl rfl))
    (Aj (Bu (Bf Zf (pv 1) (E9 T.g_LETTERS rfl) rfl)
    (Aj (Bh Fn))
    Bj)))
   (Aj (Bh Fn))),?_⟩
 refine (vE rfl (vE rfl (CJ (l:=l) (λi σ H2=>((∃ o,σ=[some (.str (tx l)),o])/\H2=H)/\∀ j c,j<i->l[j]?=some c->Hk c) ⟨⟨⟨none,rfl⟩,rfl⟩,λ_ _ z=>absurd z (zBA _)⟩ ?_ ?_)))
 .rintro i c σ H2 hi ⟨⟨⟨o,rfl⟩,rfl⟩,good⟩
  refine (vE rfl ⟨c,_,rfl,rfl,vE rfl ?_⟩);by_cases hc:Hk c
  .refine nF (YF.mpr hc) ⟨⟨⟨_,rfl⟩,rfl⟩,λj d hj hd=>?_⟩
   by_cases e:j=i
   .subst e
    rw[hi] at hd;cases hd;exact hc
   .exact good j d (by lia) hd
  .refine nT (λz=>hc (YF.mp z)) ?_
   have n:¬ Nu l:=λz=>hc (z c (zAs hi));rw[decide_eq_false n] at q;exact q
 .rintro σ H2 ⟨⟨⟨o,rfl⟩,rfl⟩,good⟩
  have all:Nu l:=λc hc=>by
   obtain⟨j,hj,e⟩:=zBc hc;exact good j c hj (by rw[zAg hj,e])
  rw[decide_eq_true all] at q;exact q
def Y7:Bc ["thing"] ["thing"] (Av Sx):=by injections
def AB {f:Addr} {fd:zCh} (F:WV K "is_name" "is_name" Sx f fd) (T:Txt K mg) (Chas_letters_alone:Cy P w K mg base 1 "has_letters_alone" ["text"] HZ):WN P w K mg base Do 2 f fd ["thing"] (Wo K):=by
 have sc:=Y7;bv_omega
 .obtain⟨_,_,rfl,_⟩:=h
  rfl
 obtain⟨x,ty,rfl,hty,ok,q⟩:=h;refine⟨_,(Ai (Bu (Ee (Dc (Bq Dp rfl T.n_isinstance (show zCg _=some (.builtin "isinstance") from rfl) (Aa (pv 0) (Aa (Oy "str" rfl T.n_str rfl) Ag)))))
    (Aj (Bh Fn))
    Bj)
   (Aj (Bh (Tq (Wr Ui Ui Ar (Bq Gs rfl T.n_len (show zCg _=some (.builtin "len") from rfl) (Aa (pv 0) Ag)) (Dv T.g_LONGEST_NAME rfl)) (Sy (Az Chas_letters_alone (hr.mono (by decide)) rfl (Aa (pv 0) Ag))))))),?_⟩
 refine (vE rfl ⟨_,_,_,_,_,rfl,Ow,hty,MC hty,_,rfl,?_⟩);cases x with
 |str z=>
  have hz:=ok z rfl;have ez:tx z.cps.toList=z:=Uh z;refine Ep (vE rfl (vE rfl ⟨Gv (by lia),?_⟩));have lz:(z.length:Int)=(z.cps.toList.length:Int):=by rw[<- Ci,ez]
  refine (vF rfl rfl (vE rfl ?_));by_cases c1:1<=(z.length:Int)
  .refine dT c1 (vF rfl rfl (vE rfl ?_))
   by_cases c2:(z.length:Int)<=8
   .refine dT c2 (vE rfl ⟨z.cps.toList,by rw[ez];rfl,?_⟩)
    have e:decide (Re z.cps.toList)=decide (Nu z.cps.toList):=by
     by_cases a:Nu z.cps.toList
     .rw[decide_eq_true a,decide_eq_true (show Re _ from ⟨⟨by lia,by lia⟩,a⟩)]
     .rw[decide_eq_false a,decide_eq_false (λy=>a y.2)]
    rw[<- e];exact q
   .refine dF c2 ?_
    rw[show Ew (.str z)=false from decide_eq_false (λy=>c2 (by have:=y.1.2;lia))] at q;exact q
  .refine dF c1 (vE rfl (Ep ?_))
   rw[show Ew (.str z)=false from decide_eq_false (λy=>c1 (by have:=y.1.1;lia))] at q;exact q
 |_=>exact Kt q
end
def Dn (n:Nat):List Nat:=Ce (n/100)++[46,48+n/10%10,48+n%10]
def Oa {d:Nat} (h:d<10):((toString (d:Int):String):Str)=tx [48+d]:=by rw[Fl,Es h]
def OO {r:Nat} (h:r<100):Txt.zfill (tx (Ce r)) 2=tx [48+r/10,48+r%10]:=by
 by_cases h10:r<10
 .rw[Es h10]
  have:r=0\/r=1\/r=2\/r=3\/r=4\/r=5\/r=6\/r=7\/r=8\/r=9:=by lia
  rcases this with rfl|rfl|rfl|rfl|rfl|rfl|rfl|rfl|rfl|rfl <;> rfl
 .have e:Ce r=[48+r/10,48+r%10]:=by
   rw[Od (by lia),Es (by lia),Es (zBm r (by decide))];rfl
  rw[e];unfold Txt.zfill;rw[if_pos];rw[Ci];exact Int.le_refl 2
def Ko (n:Nat):(Dn n).length=(Ce (n/100)).length+3:=by unfold Dn;rw[zAc];rfl
def X9 (n:Nat):46∉Ce n:=λh=>by have:=Fx n 46 h;omega
def DE (n:Nat):Ip 46 (Dn n)=[Ce (n/100),[48+n/10%10,48+n%10]]:=by
 unfold Dn;rw[Oc _ (X9 _),Jd];intro h;have h1:46=48+n/10%10\/46=48+n%10:=by simpa using h
 lia
def MG (a b:Nat) (ha:a<10) (hb:b<10):NumText.digitsVal [48+a,48+b]=10*a+b:=by
 show (0*10+(48+a-48))*10+(48+b-48)=10*a+b
 lia
def OA {n:Nat} (h:n<10^10):(Ce n).length<=10:=Dk (by decide) h
def YH {c:Nat}:(c∈(Str.ofString "0123456789").cps.toList)↔(48<=c/\c<=57):=by
 have e:(Str.ofString "0123456789").cps.toList=[48,49,50,51,52,53,54,55,56,57]:=by ac_nf
 rw[e];simp;omega
def D4 {l:List Nat} (h:NumText.AllDigits l) (h1:l≠[]) (h2:l.length<=640):intText? (tx l)=some ((NumText.digitsVal l:Nat):Int):=intText_digits (x:=tx l) h h1 (by rw[Ci];lia)
instance (l:List Nat):Decidable (NumText.AllDigits l):=by unfold NumText.AllDigits;exact inferInstance
inductive BU  (vs:List V) (H:Hp) (Q:VK):Prop
 |mk (l:_) (z0:vs=[.str (tx l)]) (z1:Q (.bl (decide (NumText.AllDigits l))) H):BU  vs H Q
def I0:Sp:=λvs H Q _=>BU  vs H Q
section
variable {P:Program} {w:World} {K:zAb} {mg:Str->Option Value} {base:Heap}
def Ng:Bc ["text","sign"] ["text"] (Av Fq):=by injections
def Nb {f:Addr} {fd:zCh} (F:WV K "has_figures_alone" "has_figures_alone" Fq f fd) (T:Txt K mg):WN P w K mg base Do 1 f fd ["text"] I0:=by
 have sc:=Ng;bv_omega
 .obtain⟨_,rfl,_⟩:=h
  rfl
 obtain⟨l,rfl,q⟩:=h;refine⟨_,(Ai (El PassesOwn.never rfl (JU (pv 0)) (Bl (i:=1) sc.nd rfl (Or.inl rfl))
    (Aj (Bu (Bf Zf (pv 1) (E9 T.g_FIGURES rfl) rfl)
    (Aj (Bh Fn))
    Bj)))
   (Aj (Bh Fn))),?_⟩
 refine⟨_,rfl,_,rfl,CJ (l:=l) (λi σ H2=>((∃ o,σ=[some (.str (tx l)),o])/\H2=H)/\∀ j c,j<i->l[j]?=some c->48<=c/\c<=57) ⟨⟨⟨none,rfl⟩,rfl⟩,λ_ _ z=>absurd z (zBA _)⟩ ?_ ?_⟩
 .rintro i c σ H2 hi ⟨⟨⟨o,rfl⟩,rfl⟩,good⟩
  refine⟨_,rfl,c,_,rfl,rfl,_,rfl,?_⟩;by_cases hc:48<=c/\c<=57
  .refine nF (YH.mpr hc) ⟨⟨⟨_,rfl⟩,rfl⟩,λj d hj hd=>?_⟩
   by_cases e:j=i
   .subst e
    rw[hi] at hd;cases hd;exact hc
   .exact good j d (by lia) hd
  .refine nT (λz=>hc (YH.mp z)) ?_
   have n:¬ NumText.AllDigits l:=λz=>hc (z c (zAs hi));rw[decide_eq_false n] at q;exact q
 .rintro σ H2 ⟨⟨⟨o,rfl⟩,rfl⟩,good⟩
  have all:NumText.AllDigits l:=λc hc=>by
   obtain⟨j,hj,e⟩:=zBc hc;exact good j c hj (by rw[zAg hj,e])
  rw[decide_eq_true all] at q;exact q
end
inductive Rj  (vs:List V) (H:Hp) (Q:VK):Prop
 |mk (n k:Nat) (z0:vs=[.str (tx (Ce n)),.int k]) (z1:n<10^k) (z2:1<=k) (z3:k<=10) (z4:Q (.bl true) H):Rj  vs H Q
def Hy:Sp:=λvs H Q _=>Rj  vs H Q
inductive Ra  (vs:List V) (H:Hp) (Q:VK):Prop
 |mk (a b:Nat) (z0:vs=[.str (tx [48+a,48+b])]) (z1:a<10) (z2:b<10) (z3:Q (.bl true) H):Ra  vs H Q
def Mm:Sp:=λvs H Q _=>Ra  vs H Q
inductive BZ  (vs:List V) (H:Hp) (Q:VK):Prop
 |mk (n:Nat) (z0:vs=[.str (tx (Dn n))]) (z1:n<10^12) (z2:∀ H',WJ H H'->Q (.int n) H'):BZ  vs H Q
def G6:Sp:=λvs H Q _=>BZ  vs H Q
inductive BR  (vs:List V) (H:Hp) (Q:VK):Prop
 |mk (n:Nat) (z0:vs=[.int n]) (z1:n<10^60) (z2:Q (.str (tx (Dn n))) H):BR  vs H Q
def Jx:Sp:=λvs H Q _=>BR  vs H Q
def QH (n:Nat):((toString ((n:Int)/100):String):Str)++(Str.ofString ".")++((toString ((n:Int)/10%10):String):Str)++((toString ((n:Int)%10):String):Str)=tx (Dn n):=by
 have e1:(n:Int)/100=((n/100:Nat):Int):=by lia
 have e2:(n:Int)/10%10=((n/10%10:Nat):Int):=by lia
 have e3:(n:Int)%10=((n%10:Nat):Int):=by lia
 have e4:(Str.ofString ".")=tx [46]:=by ac_nf
 rw[e1,e2,e3,e4,Fl,Oa (zBm _ (by decide)),Oa (zBm _ (by decide)),Fc,Fc,Fc];unfold Dn;simp
section
variable {P:Program} {w:World} {K:zAb} {mg:Str->Option Value} {base:Heap}
def Vb:Bc ["text","most_figures"] ["text","most_figures"] (Av Iy):=by injections
def Ur {f:Addr} {fd:zCh} (F:WV K "writes_whole" "writes_whole" Iy f fd) (T:Txt K mg) (Chas_figures_alone:Cy P w K mg base 1 "has_figures_alone" ["text"] I0):WN P w K mg base Do 2 f fd ["text","most_figures"] Hy:=by
 have sc:=Vb;bv_omega
 .obtain⟨_,_,rfl,_⟩:=h
  rfl
 obtain⟨n,k,rfl,hn,k1,k10,q⟩:=h;refine⟨_,(Ai (Bu (PW.pt (Fe (Bf Mb (Bq Gs rfl T.n_len (show zCg _=some (.builtin "len") from rfl) (Aa (pv 0) Ag)) Ar (Bk _)) (Et (Bf Uk (Bq Gs rfl T.n_len (show zCg _=some (.builtin "len") from rfl) (Aa (pv 0) Ag)) (pv 1) (Bk _)))))
    (Aj (Bh Fn))
    Bj)
   (Ai (Bu (PW.pt (N3 (Bf Db (Cc W6 (pv 0) Ar (λ_ _=>rfl)) Bg (Bk _)) (Vg (Bf Uk (Bq Gs rfl T.n_len (show zCg _=some (.builtin "len") from rfl) (Aa (pv 0) Ag)) Ar (Bk _)))))
    (Aj (Bh Fn))
    Bj)
   (Aj (Bh (Az Chas_figures_alone (hr.mono (by decide)) rfl (Aa (pv 0) Ag)))))),?_⟩
 have hl:(tx (Ce n)).length=(Ce n).length:=Ci _;have l1:(Ce n).length<=k:=Dk (by lia) hn;have l0:1<=(Ce n).length:=by
  cases z:Ce n with
  |nil=>exact absurd z (Oh n)
  |cons a r=>simp
 have lz:(tx (Ce n)).length<=sizeLine:=by rw[hl];exact Gv (by lia)
 refine⟨_,rfl,_,rfl,lz,_,_,rfl,rfl,_,rfl,?_⟩;refine dF (by rw[hl];lia) ?_;refine⟨_,rfl,_,rfl,lz,_,rfl,_,_,rfl,rfl,_,rfl,?_⟩;refine dF (by rw[hl];lia) ?_;cases z:Ce n with
 |nil=>exact absurd z (Oh n)
 |cons a r=>
  rw[z] at lz hl l1;have ha:Nx (tx (a::r)).cps.toList 0=some a:=Fd (j:=0) rfl;refine⟨_,rfl,_,_,a,rfl,rfl,lz,ha,rfl,_,rfl,?_⟩;refine DX (λc=>?_) (λc=>?_)
  .have ea:a=48:=by
    have c':V.str (tx [a])=V.str (Str.ofString "0"):=of_decide_eq_true c;have e0:Str.ofString "0"=tx [48]:=by ac_nf
    rw[e0] at c';have:=PU (V.str.inj c')
    simpa using this
   have e1:=EL n (by rw[z,ea];rfl);rw[z] at e1;have er:r=[]:=by simpa [ea] using e1
   subst er;refine⟨_,rfl,_,rfl,lz,_,_,rfl,rfl,_,rfl,dF (by rw[hl];simp) ?_⟩;refine⟨_,rfl,[a],rfl,?_⟩;rw[decide_eq_true (by rw[<- z];exact Fx n)];exact q
  .refine Ep ⟨_,rfl,a::r,rfl,?_⟩
   rw[decide_eq_true (by rw[<- z];exact Fx n)];exact q
def Uc:Bc ["text"] ["text"] (Av Ie):=by injections
def Ts {f:Addr} {fd:zCh} (F:WV K "is_cents_part" "is_cents_part" Ie f fd) (T:Txt K mg) (Chas_figures_alone:Cy P w K mg base 1 "has_figures_alone" ["text"] I0):WN P w K mg base Do 2 f fd ["text"] Mm:=by
 have sc:=Uc;bv_omega
 .obtain⟨_,_,rfl,_⟩:=h
  rfl
 obtain⟨a,b,rfl,ha,hb,q⟩:=h;refine⟨_,(Aj (Bh (Tq (Ku Db (Bq Gs rfl T.n_len (show zCg _=some (.builtin "len") from rfl) (Aa (pv 0) Ag)) Ar (Bk _)) (Sy (Az Chas_figures_alone (hr.mono (by decide)) rfl (Aa (pv 0) Ag)))))),?_⟩;refine⟨_,rfl,_,rfl,by rw[Ci];exact Gv (by show 2<=1000;decide),rfl,_,rfl,dT (by rw[Ci];rfl) ⟨_,rfl,_,rfl,?_⟩⟩;rw[decide_eq_true]
 .exact q
 .intro c hc
  have h1:c=48+a\/c=48+b:=by simpa using hc
  lia
def Yj:Bc ["text","pieces"] ["text"] (Av Ld):=by injections
def Ye {f:Addr} {fd:zCh} (F:WV K "read_cents" "read_cents" Ld f fd) (T:Txt K mg) (Cwrites_whole:Cy P w K mg base 2 "writes_whole" ["text","most_figures"] Hy) (Cis_cents_part:Cy P w K mg base 2 "is_cents_part" ["text"] Mm):WN P w K mg base Do 3 f fd ["text"] G6:=by
 have sc:=Yj;bv_omega
 .obtain⟨_,rfl,_⟩:=h
  rfl
 obtain⟨n,rfl,hn,q⟩:=h;refine⟨_,(Ai (Bu (Ee (Dc (Bq Dp rfl T.n_isinstance (show zCg _=some (.builtin "isinstance") from rfl) (Aa (pv 0) (Aa (Oy "str" rfl T.n_str rfl) Ag)))))
    (Aj Cf)
    Bj)
   (Ai (Bn (i:=1) sc.nd rfl (Or.inl rfl) (Dy PySem.F.plainAttrs_str PySem.F.slot_str_split PySem.F.type_str_split Xl (pv 0) (Aa Bg Ag)))
   (Ai (Bu (PW.pt (Fe (Bf Pf (Bq Bp rfl T.n_len (show zCg _=some (.builtin "len") from rfl) (Aa (pv 1) Ag)) Ar (Bk _)) (Fe (Ee (Dc (Az Cis_cents_part (hr.mono (by decide)) rfl (Aa (Cc Bt (pv 1) Ar (λ_ _=>rfl)) Ag)))) (Et (Ee (Dc (Az Cwrites_whole (hr.mono (by decide)) rfl (Aa (Cc Bt (pv 1) Ar (λ_ _=>rfl)) (Aa (Dv T.g_MOST_WHOLE_FIGURES rfl) Ag)))))))))
    (Aj Cf)
    Bj)
   (Aj (Bh (Be Da (Be Ho (Ck Ht rfl T.n_int (show zCg _=some (.type "int") from rfl) (Aa (Cc Bt (pv 1) Ar (λ_ _=>rfl)) Ag)) Ar) (Ck Ht rfl T.n_int (show zCg _=some (.type "int") from rfl) (Aa (Cc Bt (pv 1) Ar (λ_ _=>rfl)) Ag)))))))),?_⟩
 have hw:n/100<10^10:=by lia
 have l1:=OA hw;refine⟨_,rfl,_,_,_,_,_,rfl,Ow,.str _,(by kernel_rfl:zBh K (.type "str") (.type "str")=some true),_,rfl,Ep ?_⟩;refine⟨_,rfl,rfl,_,_,rfl,rfl,rfl,?_,λp hp=>?_⟩
 .rw[Ci,Ko,zCf]
  lia
 have ed:(Str.ofString ".")=tx [46]:=by ac_nf
 have es:Txt.split (tx (Dn n)) (Str.ofString ".")=[tx (Ce (n/100)),tx [48+n/10%10,48+n%10]]:=by rw[ed,Ub,DE];rfl
 rw[es];have s1:=Ap hp (.lst (List.map V.str [tx (Ce (n/100)),tx [48+n/10%10,48+n%10]]));have h1:upd H p (.lst (List.map V.str [tx (Ce (n/100)),tx [48+n/10%10,48+n%10]])) p=some (.lst [V.str (tx (Ce (n/100))),V.str (tx [48+n/10%10,48+n%10])]):=Ac;generalize upd H p (.lst (List.map V.str [tx (Ce (n/100)),tx [48+n/10%10,48+n%10]]))=H1 at s1 h1;refine⟨_,rfl,p,_,rfl,.inl (WL.of h1),rfl,_,rfl,nF rfl ?_⟩;refine⟨_,rfl,p,_,_,_,rfl,rfl,WL.of h1,rfl,n/10%10,n%10,rfl,zBm _ (by decide),zBm _ (by decide),_,rfl,Ep ?_⟩;refine⟨_,rfl,p,_,_,_,rfl,rfl,WL.of h1,rfl,n/100,10,rfl,hw,by decide,by decide,_,rfl,Ep ?_⟩;refine⟨_,rfl,p,_,_,_,rfl,rfl,WL.of h1,rfl,_,_,rfl,D4 (Fx _) (Oh _) (by lia),by rw[Ci];lia,?_⟩;rw[Ro];refine⟨_,_,rfl,rfl,.inr ⟨by decide,by decide⟩,?_⟩;refine⟨_,rfl,p,_,_,_,rfl,rfl,WL.of h1,rfl,_,_,rfl,D4 ?_ (by simp) (by show 2<=640;decide),by rw[Ci];show 2<=640;decide,?_⟩
 .intro c hc
  have h1:c=48+n/10%10\/c=48+n%10:=by simpa using hc
  lia
 rw[MG _ _ (zBm _ (by decide)) (zBm _ (by decide))];refine⟨_,_,rfl,rfl,?_⟩;have en:((n/100:Nat):Int)*100+((10*(n/10%10)+n%10:Nat):Int)=n:=by lia
 show Q (.int (((n/100:Nat):Int)*100+((10*(n/10%10)+n%10:Nat):Int))) H1;rw[en];exact q _ s1
def Yb:Bc ["cents","whole","rest"] ["cents"] (Av Lq):=by injections
def Xx {f:Addr} {fd:zCh} (F:WV K "show_cents" "show_cents" Lq f fd) (T:Txt K mg):WN P w K mg base Do 1 f fd ["cents"] Jx:=by
 have sc:=Yb;bv_omega
 .obtain⟨_,rfl,_⟩:=h
  rfl
 obtain⟨n,rfl,hn,q⟩:=h;refine⟨_,(Ai (Bn (i:=1) sc.nd rfl (Or.inl rfl) (Be Cm (pv 0) Ar))
   (Ai (Bn (i:=2) sc.nd rfl (Or.inl rfl) (Dy PySem.F.plainAttrs_str PySem.F.slot_str_zfill PySem.F.type_str_zfill IT (Ck Dh rfl T.n_str (show zCg _=some (.type "str") from rfl) (Aa (Be Cn (pv 0) Ar) Ag)) (Aa Ar Ag)))
   (Aj (Bh (DT (K6 (GN (pv 1)) (K6 Bg (K6 (GN (pv 2)) NS)))))))),?_⟩
 have e1:(n:Int)/100=((n/100:Nat):Int):=by omega
 have e2:(n:Int)%100=((n%100:Nat):Int):=by omega
 refine⟨_,rfl,_,_,rfl,rfl,⟨by decide,by decide⟩,?_⟩;refine⟨_,rfl,_,_,rfl,rfl,(by show (0:Int)<100;decide),_,rfl,Eb (by omega) (by omega),rfl,_,_,rfl,rfl,rfl,?_⟩;have lw:(Ce (n/100)).length<=60:=Dk (by decide) (by omega);have ez:Txt.zfill ((toString ((n:Int)%100):String):Str) 2=tx [48+n%100/10,48+n%100%10]:=by rw[e2,Fl,OO (zBm _ (by decide))]
 rw[ez];have ed:(Str.ofString ".")=tx [46]:=by ac_nf
 have ew:((toString ((n:Int)/100):String):Str)=tx (Ce (n/100)):=by rw[e1,Fl]
 have e0:Str.empty=tx []:=rfl;have c1:Str.empty++tx (Ce (n/100))=tx (Ce (n/100)):=Fc [] _;have hl:=zCf;have cz:[48+n%100/10,48+n%100%10]=[48+n/10%10,48+n%10]:=by
  have a1:n%100/10=n/10%10:=by omega
  have a2:n%100%10=n%10:=by omega
  rw[a1,a2]
 rw[cz];refine⟨_,rfl,.inl ⟨_,rfl,Eb (by omega) (by omega),_,rfl,?_,_,rfl,?_,_,rfl,.inr ⟨_,rfl,?_,_,rfl,?_,?_,?_⟩⟩⟩
 .rw[ew,c1,Ci];omega
 .rw[ew,ed,c1,Fc,Ci,zAc];show _+1<=_;omega
 .rw[Ci];show 2<=_;omega
 .rw[ew,ed,c1,Fc,Fc,Ci,zAc,zAc];show _+1+2<=_;omega
 .rw[ew,ed,c1,Fc,Fc,Ci,zAc,zAc];show _+1+2<=_;omega
 .rw[ew,ed,c1,Fc,Fc,zAA]
  exact q
end
def X0 (n:Str):Prop:=∃ l,n=tx l/\Re l
def Em:Co->Prop
 |.alw=>True
 |.cau n=>X0 n
 |.thi n=>X0 n
 |.day a b=>0<=a/\a<=b/\b<=1000000
 |.ovr m=>0<=m/\m<=999999999999
def Hu {i:Nat} {v:V} {nx:St->Hp->Prop} {σ:St} {H:Hp} (σ':St) (e:σ.set i (some v)=σ') (h:nx σ' H):He i v σ H nx:=by
 unfold He;rw[e];exact h
def at0 {α:Type} (x:α) (xs:List α):Nx (x::xs) 0=some x:=Fd (j:=0) rfl
def Q4 {H H':Hp} {p:Addr} {o:HO} (h:H p=none) (s:WJ H H'):WJ H (upd H' p o):=λb u e=>by rw[Au (Ak e h)];exact s _ _ e
def Bv {α:Type} {l:List α} {i:Nat} {x:α} (h:l[i]?=some x):l.take (i+1)=l.take i++[x]:=by
 rw[List.take_add_one,h];rfl
def Kj {H:Hp} {y d:Addr} {o1 o2:HO} (hy:H y=none) (hd:H d=none):WJ H (upd (upd H d o1) y o2):=λb o e=>by rw[Au (Ak e hy),Au (Ak e hd)];exact e
def Lu {H:Hp} {y d:Addr} {o1 o2 o3:HO} (hy:H y=none) (hd:H d=none):WJ H (upd (upd (upd H d o1) y o2) y o3):=λb o e=>by rw[Au (Ak e hy),Au (Ak e hy),Au (Ak e hd)];exact e
def XX (p:Addr) (H:Hp):Hp:=λb=>if b=p then none else H b
def XX.at {p b:Addr} {H:Hp} {o:HO} (h:XX p H b=some o):b≠p/\H b=some o:=by
 unfold XX at h;by_cases e:b=p
 .rw[if_pos e] at h;cases h
 .rw[if_neg e] at h;exact⟨e,h⟩
def XX.of {p b:Addr} {H:Hp} {o:HO} (n:b≠p) (h:H b=some o):XX p H b=some o:=by
 unfold XX;rw[if_neg n];exact h
def AG {K:zAb}:zBh K (.type "str") (.type "str")=some true:=by kernel_rfl
inductive HA (C:Addr) (f:Str) (vs:List V) (H:Hp) (Q:VK):Prop
 |mk (p:_) (dx:_) (v:_) (z0:vs=[.ref p,v]) (z1:H p=some (.ins C dx [])) (z2:Q .non (upd H p (.ins C dx (Ca f v [])))):HA C f vs H Q
def Ly (C:Addr) (f:Str):Sp:=λvs H Q _=>HA C f vs H Q
inductive JD (C:Addr) (vs:List V) (H:Hp) (Q:VK):Prop
 |mk (p:_) (dx:_) (v:_) (w:_) (z0:vs=[.ref p,v,w]) (z1:H p=some (.ins C dx [])) (z2:∀ H',(∀ b,b≠p->H' b=H b)->H' p=some (.ins C dx (Ca "last" w (Ca "first" v [])))->Q .non H'):JD C vs H Q
def JM (C:Addr):Sp:=λvs H Q _=>JD C vs H Q
inductive FO (C:Addr) (vs:List V) (H:Hp) (Q:VK):Prop
 |mk (p:_) (dx:_) (a:_) (xs:_) (z0:vs=[.ref p,.ref a]) (z1:H p=some (.ins C dx [])) (z2:H a=some (.lst xs)) (z3:∀ l H',H l=none->(∀ b,b≠p->b≠l->H' b=H b)->H' p=some (.ins C dx (Ca "several" (.ref l) []))->H' l=some (.lst xs)->Q .non H'):FO C vs H Q
def Zg (C:Addr):Sp:=λvs H Q _=>FO C vs H Q
section
variable {P:Program} {w:World} {K:zAb} {mg:Str->Option Value} {base:Heap} {Ab Ae Ad Ah Ao Ax Ay Am Al Ba An Aq Bb As Bd Af Aw:Addr}
def FK (L:Kl K mg Ab Ae Ad Ah Ao Ax Ay Am Al Ba An Aq Bb As Bd Af Aw):(A8.mk Ab Ae Ad Ah Ao Ax Ay Am).l.Nodup:=by
 first
  |exact L.nd
  |exact List.Nodup.sublist (List.sublist_append_left (A8.mk Ab Ae Ad Ah Ao Ax Ay Am).l _) L.nd
def Ou:Bc ["self","name"] ["self","name"] (Av Gf):=by injections
def Ol {f:Addr} {fd:zCh} (F:WV K "__init__" "CauseIs.__init__" Gf f fd) (L:Kl K mg Ab Ae Ad Ah Ao Ax Ay Am Al Ba An Aq Bb As Bd Af Aw):WN P w K mg base Do 1 f fd ["self","name"] (Ly Ae "name"):=by
 have sc:=Ou;bv_omega
 .obtain⟨_,_,_,rfl,_⟩:=h
  rfl
 obtain⟨p,dx,n,rfl,hp,q⟩:=h;refine⟨_,(Aj (Ct (pv 0) (pv 1) rfl)),?_⟩;exact⟨_,rfl,_,rfl,p,_,dx,_,rfl,hp,L.cl_CauseIs,L.na_CauseIs_name,(by show 0<1000;decide),q⟩
def Op:Bc ["self","name"] ["self","name"] (Av Gh):=by injections
def Os {f:Addr} {fd:zCh} (F:WV K "__init__" "ThingIs.__init__" Gh f fd) (L:Kl K mg Ab Ae Ad Ah Ao Ax Ay Am Al Ba An Aq Bb As Bd Af Aw):WN P w K mg base Do 1 f fd ["self","name"] (Ly Ad "name"):=by
 have sc:=Op;bv_omega
 .obtain⟨_,_,_,rfl,_⟩:=h
  rfl
 obtain⟨p,dx,n,rfl,hp,q⟩:=h;refine⟨_,(Aj (Ct (pv 0) (pv 1) rfl)),?_⟩;exact⟨_,rfl,_,rfl,p,_,dx,_,rfl,hp,L.cl_ThingIs,L.na_ThingIs_name,(by show 0<1000;decide),q⟩
def Tz:Bc ["self","cents"] ["self","cents"] (Av Ig):=by injections
def Ua {f:Addr} {fd:zCh} (F:WV K "__init__" "Over.__init__" Ig f fd) (L:Kl K mg Ab Ae Ad Ah Ao Ax Ay Am Al Ba An Aq Bb As Bd Af Aw):WN P w K mg base Do 1 f fd ["self","cents"] (Ly Ao "cents"):=by
 have sc:=Tz;bv_omega
 .obtain⟨_,_,_,rfl,_⟩:=h
  rfl
 obtain⟨p,dx,n,rfl,hp,q⟩:=h;refine⟨_,(Aj (Ct (pv 0) (pv 1) rfl)),?_⟩;exact⟨_,rfl,_,rfl,p,_,dx,_,rfl,hp,L.cl_Over,L.na_Over_cents,(by show 0<1000;decide),q⟩
def Va:Bc ["self","part"] ["self","part"] (Av Jk):=by injections
def Ve {f:Addr} {fd:zCh} (F:WV K "__init__" "Not.__init__" Jk f fd) (L:Kl K mg Ab Ae Ad Ah Ao Ax Ay Am Al Ba An Aq Bb As Bd Af Aw):WN P w K mg base Do 1 f fd ["self","part"] (Ly Ax "part"):=by
 have sc:=Va;bv_omega
 .obtain⟨_,_,_,rfl,_⟩:=h
  rfl
 obtain⟨p,dx,n,rfl,hp,q⟩:=h;refine⟨_,(Aj (Ct (pv 0) (pv 1) rfl)),?_⟩;exact⟨_,rfl,_,rfl,p,_,dx,_,rfl,hp,L.cl_Not,L.na_Not_part,(by show 0<1000;decide),q⟩
def Px:Bc ["self","first","last"] ["self","first","last"] (Av Gr):=by injections
def Pl {f:Addr} {fd:zCh} (F:WV K "__init__" "DaysIn.__init__" Gr f fd) (L:Kl K mg Ab Ae Ad Ah Ao Ax Ay Am Al Ba An Aq Bb As Bd Af Aw):WN P w K mg base Do 1 f fd ["self","first","last"] (JM Ah):=by
 have sc:=Px;bv_omega
 .obtain⟨_,_,_,_,rfl,_⟩:=h
  rfl
 obtain⟨p,dx,a,b,rfl,hp,q⟩:=h;refine⟨_,(Ai (Ct (pv 0) (pv 1) rfl)
   (Aj (Ct (pv 0) (pv 2) rfl))),?_⟩
 refine⟨_,rfl,_,rfl,p,_,dx,_,rfl,hp,L.cl_DaysIn,L.na_DaysIn_first,(by show 0<1000;decide),?_⟩;exact⟨_,rfl,_,rfl,p,_,dx,_,rfl,Ac,L.cl_DaysIn,L.na_DaysIn_last,(by show 1<1000;decide),q _ (λb n=>by rw[Au n,Au n]) Ac⟩
def Uq:Bc ["self","several"] ["self","several"] (Av Jh):=by injections
def Ut {f:Addr} {fd:zCh} (F:WV K "__init__" "All.__init__" Jh f fd) (T:Txt K mg) (L:Kl K mg Ab Ae Ad Ah Ao Ax Ay Am Al Ba An Aq Bb As Bd Af Aw):WN P w K mg base Do 1 f fd ["self","several"] (Zg Ay):=by
 have sc:=Uq;bv_omega
 .obtain⟨_,_,_,_,rfl,_⟩:=h
  rfl
 obtain⟨p,dx,a,xs,rfl,hp,ha,q⟩:=h;refine⟨_,(Aj (Ct (pv 0) (Ck Er rfl T.n_list (show zCg _=some (.type "list") from rfl) (Aa (pv 1) Ag)) rfl)),?_⟩;refine⟨_,rfl,a,_,rfl,.inl (WL.of ha),λl hl=>?_⟩;have hpl:p≠l:=Ak hp hl;exact⟨_,rfl,p,_,dx,_,rfl,(by rw[Au hpl];exact hp),L.cl_All,L.na_All_several,(by show 0<1000;decide),q l _ hl (λb n1 n2=>by rw[Au n1,Au n2]) Ac (by rw[Au hpl.symm,Ac])⟩
def To:Bc ["self","several"] ["self","several"] (Av Im):=by injections
def Tg {f:Addr} {fd:zCh} (F:WV K "__init__" "Some.__init__" Im f fd) (T:Txt K mg) (L:Kl K mg Ab Ae Ad Ah Ao Ax Ay Am Al Ba An Aq Bb As Bd Af Aw):WN P w K mg base Do 1 f fd ["self","several"] (Zg Am):=by
 have sc:=To;bv_omega
 .obtain⟨_,_,_,_,rfl,_⟩:=h
  rfl
 obtain⟨p,dx,a,xs,rfl,hp,ha,q⟩:=h;refine⟨_,(Aj (Ct (pv 0) (Ck Er rfl T.n_list (show zCg _=some (.type "list") from rfl) (Aa (pv 1) Ag)) rfl)),?_⟩;refine⟨_,rfl,a,_,rfl,.inl (WL.of ha),λl hl=>?_⟩;have hpl:p≠l:=Ak hp hl;exact⟨_,rfl,p,_,dx,_,rfl,(by rw[Au hpl];exact hp),L.cl_Some,L.na_Some_several,(by show 0<1000;decide),q l _ hl (λb n1 n2=>by rw[Au n1,Au n2]) Ac (by rw[Au hpl.symm,Ac])⟩
end
def GD:Dw->Int
 |.al _=>2
 |.so _=>1
 |_=>3
inductive AZ (κ:A8) (C:Addr) (vs:List V) (H:Hp) (Q:VK):Prop
 |mk (p:Addr) (t:Dw) (z0:vs=[.ref p]) (z1:κ.of t=C) (z2:Q (.int (GD t)) H):AZ κ C vs H Q
def Vr (κ:A8) (C:Addr):Sp:=λvs H Q _=>AZ κ C vs H Q
section
variable {P:Program} {w:World} {K:zAb} {mg:Str->Option Value} {base:Heap} {Ab Ae Ad Ah Ao Ax Ay Am Al Ba An Aq Bb As Bd Af Aw:Addr}
def Qu:Bc ["self"] ["self"] (Av Hn):=by injections
def Du {f:Addr} {fd:zCh} (F:WV K "rank" "Condition.rank" Hn f fd) (T:Txt K mg) (L:Kl K mg Ab Ae Ad Ah Ao Ax Ay Am Al Ba An Aq Bb As Bd Af Aw) {C:Addr} (h6:C≠Ay) (h7:C≠Am):WN P w K mg base Do 1 f fd ["self"] (Vr (A8.mk Ab Ae Ad Ah Ao Ax Ay Am) C):=by
 have sc:=Qu;bv_omega
 .obtain⟨_,_,rfl,_⟩:=h
  rfl
 obtain⟨p,t,rfl,hc,q⟩:=h;have e:GD t=3:=by
  cases t with
  |al _=>exact absurd hc.symm h6
  |so _=>exact absurd hc.symm h7
  |_=>rfl
 rw[e] at q;exact⟨_,(Aj (Bh (Dv T.g_RANK_OF_OTHERS rfl))),q⟩
def V4:Bc ["self"] ["self"] (Av Ql):=by injections
def R0 {f:Addr} {fd:zCh} (F:WV K "rank" "All.rank" Ql f fd) (T:Txt K mg) (L:Kl K mg Ab Ae Ad Ah Ao Ax Ay Am Al Ba An Aq Bb As Bd Af Aw):WN P w K mg base Do 1 f fd ["self"] (Vr (A8.mk Ab Ae Ad Ah Ao Ax Ay Am) Ay):=by
 have sc:=V4;bv_omega
 .obtain⟨_,_,rfl,_⟩:=h
  rfl
 obtain⟨p,t,rfl,hc,q⟩:=h;obtain⟨u,rfl⟩:=VM (κ:=A8.mk Ab Ae Ad Ah Ao Ax Ay Am) (FK L) hc;exact⟨_,(Aj (Bh (Dv T.g_RANK_OF_ALL rfl))),q⟩
def E4:Bc ["self"] ["self"] (Av Mz):=by injections
def G7 {f:Addr} {fd:zCh} (F:WV K "rank" "Some.rank" Mz f fd) (T:Txt K mg) (L:Kl K mg Ab Ae Ad Ah Ao Ax Ay Am Al Ba An Aq Bb As Bd Af Aw):WN P w K mg base Do 1 f fd ["self"] (Vr (A8.mk Ab Ae Ad Ah Ao Ax Ay Am) Am):=by
 have sc:=E4;bv_omega
 .obtain⟨_,_,rfl,_⟩:=h
  rfl
 obtain⟨p,t,rfl,hc,q⟩:=h;obtain⟨u,rfl⟩:=VN (κ:=A8.mk Ab Ae Ad Ah Ao Ax Ay Am) (FK L) hc;exact⟨_,(Aj (Bh (Dv T.g_RANK_OF_SOME rfl))),q⟩
end
def Bi:Co->List Str
 |.alw=>[Str.ofString "always"]
 |.cau n=>[Str.ofString "cause",n]
 |.thi n=>[Str.ofString "thing",n]
 |.day a b=>[Str.ofString "days",tx (Ce a.toNat),tx (Ce b.toNat)]
 |.ovr m=>[Str.ofString "over",tx (Dn m.toNat)]
def Xf (c:Co):((Bi c).length:Int)=T8 c:=by cases c <;> rfl
inductive O4 (κ:A8) (m:Nat) (C:Addr) (vs:List V) (H:Hp) (Q:VK):Prop
 |mk (p:_) (t:_) (z0:vs=[.ref p]) (z1:WT κ H (.ref p) t) (z2:κ.of t=C) (z3:Ki t<m) (z4:Eo Em t) (z5:(Bo Bi t).length<=60) (z6:∀ l H',WJ H H'->H l=none->H' l=some (.lst ((Bo Bi t).map V.str))->Q (.ref l) H'):O4 κ m C vs H Q
def Fy (κ:A8) (m:Nat) (C:Addr):Sp:=λvs H Q _=>O4 κ m C vs H Q
inductive MY (κ:A8) (m:Nat) (vs:List V) (H:Hp) (Q:VK):Prop
 |mk (v:_) (t:_) (h:Int) (z0:vs=[v,.int h]) (z1:WT κ H v t) (z2:Ki t<m) (z3:Eo Em t) (z4:(Jn Bi (h+1) t).length<=60) (z5:∀ l H',WJ H H'->H l=none->H' l=some (.lst ((Jn Bi (h+1) t).map V.str))->Q (.ref l) H'):MY κ m vs H Q
def LY (κ:A8) (m:Nat):Sp:=λvs H Q _=>MY κ m vs H Q
inductive HK (κ:A8) (m:Nat) (vs:List V) (H:Hp) (Q:VK):Prop
 |mk (a:_) (us:_) (ts:_) (b:_) (h:Int) (z0:vs=[.ref a,.str b,.int h]) (z1:H a=some (.lst us)) (z2:CdsAt κ H us ts) (z3:hgts ts<m) (z4:okTs Em ts) (z5:(Dd b (ts.map (Jn Bi (h+1)))).length<=60) (z6:∀ l H',WJ H H'->H l=none->H' l=some (.lst ((Dd b (ts.map (Jn Bi (h+1)))).map V.str))->Q (.ref l) H'):HK κ m vs H Q
def AV (κ:A8) (m:Nat):Sp:=λvs H Q _=>HK κ m vs H Q
def Hv {κ:A8} {C:Addr} {vs:List V} {H:Hp} {Q:VK} {E:XK} (h:Fy κ 0 C vs H Q E):False:=by
 obtain⟨_,_,_,_,_,h,_⟩:=h;exact absurd h (zBA _)
def Xt (b:Str) (ws:List (List Str)) (i:Nat):(Cr b (ws.take i)).length<=(Cr b ws).length:=by
 induction ws generalizing i with
 |nil=>rw[List.take_nil];exact zAn _
 |cons w ws ih=>
  cases i with
  |zero=>rw[zAU];exact zAB _
  |succ i=>rw[List.take_succ_cons,Cr,Cr,zAe,zAe,zAc,zAc];have:=ih i;lia
def Yl (b:Str) (ws:List (List Str)) (i:Nat):(Dd b (ws.take i)).length<=(Dd b ws).length:=by
 cases ws with
 |nil=>rw[List.take_nil];exact zAn _
 |cons w ws=>
  cases i with
  |zero=>rw[zAU];exact zAB _
  |succ i=>rw[List.take_succ_cons,Dd,Dd,zAc,zAc];have:=Xt b ws i;lia
def N1 (b:Str) {ws:List (List Str)} {w:List Str} (h:w∈ws):w.length<=(Cr b ws).length:=by
 induction ws with
 |nil=>cases h
 |cons v vs ih=>
  rw[Cr,zAe,zAc];rcases zAj.mp h with rfl|h
  .lia
  .have:=ih h;lia
def Gu (b:Str) {ws:List (List Str)} {w:List Str} (h:w∈ws):w.length<=(Dd b ws).length:=by
 cases ws with
 |nil=>cases h
 |cons v vs=>
  rw[Dd,zAc];rcases zAj.mp h with rfl|h
  .lia
  .have:=N1 b h;lia
def Ln {n:Nat} (h:n<=1000000):n<10^7:=by lia
section
variable {P:Program} {w:World} {K:zAb} {mg:Str->Option Value} {base:Heap} {Ab Ae Ad Ah Ao Ax Ay Am Al Ba An Aq Bb As Bd Af Aw:Addr}
def Pk:Bc ["self"] ["self"] (Av Hb):=by injections
def Pz {f:Addr} {fd:zCh} (F:WV K "words" "Condition.words" Hb f fd) (T:Txt K mg) (L:Kl K mg Ab Ae Ad Ah Ao Ax Ay Am Al Ba An Aq Bb As Bd Af Aw) {m:Nat}:WN P w K mg base Do 2 f fd ["self"] (Fy (A8.mk Ab Ae Ad Ah Ao Ax Ay Am) m Ab):=by
 have sc:=Pk;bv_omega
 .obtain⟨_,_,rfl,_⟩:=h
  rfl
 obtain⟨p,t,rfl,hp,hc,hg,ok,hm,q⟩:=h;obtain rfl:=VU (κ:=A8.mk Ab Ae Ad Ah Ao Ax Ay Am) (FK L) hc;unfold Eo at ok;rw[Gi] at q;unfold WT at hp;obtain⟨_,dx,e,hp⟩:=hp;cases e;exact⟨_,(Aj (Bh (Cb (Aa Bg Ag)))),by show 1<=sizeLine;rw[zCf];decide,λl hl=>q l _ (Ap hl _) hl Ac⟩
def Tn:Bc ["self"] ["self"] (Av Il):=by injections
def Tj {f:Addr} {fd:zCh} (F:WV K "words" "CauseIs.words" Il f fd) (T:Txt K mg) (L:Kl K mg Ab Ae Ad Ah Ao Ax Ay Am Al Ba An Aq Bb As Bd Af Aw) {m:Nat}:WN P w K mg base Do 2 f fd ["self"] (Fy (A8.mk Ab Ae Ad Ah Ao Ax Ay Am) m Ae):=by
 have sc:=Tn;bv_omega
 .obtain⟨_,_,rfl,_⟩:=h
  rfl
 obtain⟨p,t,rfl,hp,hc,hg,ok,hm,q⟩:=h;obtain⟨nm,rfl⟩:=WE (κ:=A8.mk Ab Ae Ad Ah Ao Ax Ay Am) (FK L) hc;unfold Eo at ok;rw[Gi] at q;unfold WT at hp;obtain⟨_,dx,e,hp⟩:=hp;cases e;refine⟨_,(Aj (Bh (Cb (Aa Bg (Aa (Bx (pv 0) rfl) Ag))))),?_⟩;exact⟨_,rfl,p,_,dx,_,_,rfl,hp,L.cl_CauseIs,L.na_CauseIs_name,GB nm,by show 2<=sizeLine;rw[zCf];decide,λl hl=>q l _ (Ap hl _) hl Ac⟩
def Ss:Bc ["self"] ["self"] (Av Ik):=by injections
def Tv {f:Addr} {fd:zCh} (F:WV K "words" "ThingIs.words" Ik f fd) (T:Txt K mg) (L:Kl K mg Ab Ae Ad Ah Ao Ax Ay Am Al Ba An Aq Bb As Bd Af Aw) {m:Nat}:WN P w K mg base Do 2 f fd ["self"] (Fy (A8.mk Ab Ae Ad Ah Ao Ax Ay Am) m Ad):=by
 have sc:=Ss;bv_omega
 .obtain⟨_,_,rfl,_⟩:=h
  rfl
 obtain⟨p,t,rfl,hp,hc,hg,ok,hm,q⟩:=h;obtain⟨nm,rfl⟩:=WC (κ:=A8.mk Ab Ae Ad Ah Ao Ax Ay Am) (FK L) hc;unfold Eo at ok;rw[Gi] at q;unfold WT at hp;obtain⟨_,dx,e,hp⟩:=hp;cases e;refine⟨_,(Aj (Bh (Cb (Aa Bg (Aa (Bx (pv 0) rfl) Ag))))),?_⟩;exact⟨_,rfl,p,_,dx,_,_,rfl,hp,L.cl_ThingIs,L.na_ThingIs_name,JN nm,by show 2<=sizeLine;rw[zCf];decide,λl hl=>q l _ (Ap hl _) hl Ac⟩
def Uw:Bc ["self"] ["self"] (Av Ji):=by injections
def Uv {f:Addr} {fd:zCh} (F:WV K "words" "DaysIn.words" Ji f fd) (T:Txt K mg) (L:Kl K mg Ab Ae Ad Ah Ao Ax Ay Am Al Ba An Aq Bb As Bd Af Aw) {m:Nat}:WN P w K mg base Do 2 f fd ["self"] (Fy (A8.mk Ab Ae Ad Ah Ao Ax Ay Am) m Ah):=by
 have sc:=Uw;bv_omega
 .obtain⟨_,_,rfl,_⟩:=h
  rfl
 obtain⟨p,t,rfl,hp,hc,hg,ok,hm,q⟩:=h;obtain⟨a,b,rfl⟩:=WA (κ:=A8.mk Ab Ae Ad Ah Ao Ax Ay Am) (FK L) hc;unfold Eo at ok;rw[Gi] at q;unfold WT at hp;obtain⟨_,dx,e,hp⟩:=hp;cases e;refine⟨_,(Aj (Bh (Cb (Aa Bg (Aa (Ck Dh rfl T.n_str (show zCg _=some (.type "str") from rfl) (Aa (Bx (pv 0) rfl) Ag)) (Aa (Ck Dh rfl T.n_str (show zCg _=some (.type "str") from rfl) (Aa (Bx (pv 0) rfl) Ag)) Ag)))))),?_⟩;obtain⟨a0,ab,b1⟩:=ok;have ea:((toString a:String):Str)=tx (Ce a.toNat):=by rw[<- Fl];congr 2;lia
 have eb:((toString b:String):Str)=tx (Ce b.toNat):=by rw[<- Fl];congr 2;lia
 refine⟨_,rfl,p,_,dx,_,_,rfl,hp,L.cl_DaysIn,L.na_DaysIn_first,FB a b,_,rfl,Eb a0 (by lia),_,rfl,p,_,dx,_,_,rfl,hp,L.cl_DaysIn,L.na_DaysIn_last,LP a b,_,rfl,Eb (by lia) (by lia),by show 3<=sizeLine;rw[zCf];decide,λl hl=>q l _ (Ap hl _) hl ?_⟩;show upd _ _ _ _=some (HO.lst [.str (Str.ofString "days"),.str (tx (Ce a.toNat)),.str (tx (Ce b.toNat))]);rw[<- ea,<- eb];exact Ac
def Yn:Bc ["self"] ["self"] (Av Ks):=by injections
def Xp {f:Addr} {fd:zCh} (F:WV K "words" "Over.words" Ks f fd) (T:Txt K mg) (L:Kl K mg Ab Ae Ad Ah Ao Ax Ay Am Al Ba An Aq Bb As Bd Af Aw) {m:Nat} (Cshow_cents:Cy P w K mg base 1 "show_cents" ["cents"] Jx):WN P w K mg base Do 2 f fd ["self"] (Fy (A8.mk Ab Ae Ad Ah Ao Ax Ay Am) m Ao):=by
 have sc:=Yn;bv_omega
 .obtain⟨_,_,rfl,_⟩:=h
  rfl
 obtain⟨p,t,rfl,hp,hc,hg,ok,hm,q⟩:=h;obtain⟨c,rfl⟩:=VT (κ:=A8.mk Ab Ae Ad Ah Ao Ax Ay Am) (FK L) hc;unfold Eo at ok;rw[Gi] at q;unfold WT at hp;obtain⟨_,dx,e,hp⟩:=hp;cases e;refine⟨_,(Aj (Bh (Cb (Aa Bg (Aa (Az Cshow_cents (hr.mono (by decide)) rfl (Aa (Bx (pv 0) rfl) Ag)) Ag))))),?_⟩;obtain⟨c0,c1⟩:=ok;have ec:([V.int c]++[]:List V)=[.int (c.toNat:Nat)]:=by rw[zAI];congr 2;lia
 have cb:c.toNat<10^60:=zAE (show c.toNat<10^13 by lia) (zBN (by decide) (by decide));exact⟨_,rfl,p,_,dx,_,_,rfl,hp,L.cl_Over,L.na_Over_cents,II c,c.toNat,ec,cb,by show 2<=sizeLine;rw[zCf];decide,λl hl=>q l _ (Ap hl _) hl Ac⟩
def Up:Bc ["part","highest_in_brackets"] ["part","highest_in_brackets"] (Av Jg):=by injections
def Vd {f:Addr} {fd:zCh} (F:WV K "words_within" "words_within" Jg f fd) {m:Nat} (Mwords:E5 P w K mg base (3*m+2) (A8.Fam (A8.mk Ab Ae Ad Ah Ao Ax Ay Am)) "words" ["self"] (Fy (A8.mk Ab Ae Ad Ah Ao Ax Ay Am) m)) (Mrank:E5 P w K mg base 1 (A8.Fam (A8.mk Ab Ae Ad Ah Ao Ax Ay Am)) "rank" ["self"] (Vr (A8.mk Ab Ae Ad Ah Ao Ax Ay Am))):WN P w K mg base Do (3*m+2+1) f fd ["part","highest_in_brackets"] (LY (A8.mk Ab Ae Ad Ah Ao Ax Ay Am) m):=by
 have sc:=Up;bv_omega
 .obtain⟨_,_,_,rfl,_⟩:=h
  rfl
 obtain⟨v,t,h,rfl,cd,hg,ok,hm,q⟩:=h;obtain⟨pu,du,fu,rfl,ob,_,nr,nw,_⟩:=cd.obj;have one:1<=sizeLine:=by rw[zCf];decide
 have er:GD t=Dz t:=by cases t <;> rfl
 refine⟨_,(Ai (Bu (Bf Ui (Iv Mrank (hr.mono (by lia)) (pv 0)) (pv 1) (Bk _))
    (Aj (Bh (Be Jc (Be Jc (Cb (Aa Bg Ag)) (Iv Mwords (hr.mono (by lia)) (pv 0))) (Cb (Aa Bg Ag)))))
    Bj)
   (Aj (Bh (Iv Mwords (hr.mono (by lia)) (pv 0))))),?_⟩
 refine⟨_,rfl,pu,_,du,fu,rfl,ob,A8.fam _ t,nr,pu,t,rfl,rfl,_,rfl,_,_,rfl,rfl,_,rfl,DX (λc=>?_) (λc=>?_)⟩
 .have c:Dz t<h+1:=by rw[<- er];have:=of_decide_eq_true c;lia
  have ei:Jn Bi (h+1) t=Str.ofString "(" :: (Bo Bi t++[Str.ofString ")"]):=if_pos c;rw[ei] at q hm;rw[zAe,zAc] at hm;have hm:(Bo Bi t).length+2<=60:=by have:[Str.ofString ")"].length=1:=rfl;lia
  refine⟨one,λl1 n1=>?_⟩;have s1:=Ap n1 (.lst [.str (Str.ofString "(")]);refine⟨_,rfl,pu,_,du,fu,rfl,s1 _ _ ob,A8.fam _ t,nw,pu,t,rfl,cd.same s1,rfl,hg,ok,by lia,λl2 H2 s2 n2 h2=>?_⟩;refine⟨l1,l2,_,_,rfl,rfl,s2 _ _ Ac,h2,(by rw[zAa,zCf];show 1+_<=_;lia),λl3 n3=>?_⟩;have s3:=Ap n3 (.lst ([.str (Str.ofString "(")]++(Bo Bi t).map V.str));refine⟨one,λl4 n4=>?_⟩;have s4:=Ap n4 (.lst [.str (Str.ofString ")")]);refine⟨l3,l4,_,_,rfl,rfl,s4 _ _ Ac,Ac,(by rw[zAc,zAa,zCf];show 1+_+1<=_;lia),λl5 n5=>?_⟩;have S4:=s1.trans (s2.trans (s3.trans s4));refine q l5 _ (S4.trans (Ap n5 _)) (S4.free n5) ?_;rw[zAv,zAf];exact Ac
 .have c:¬ Dz t<h+1:=λz=>c (decide_eq_true (by rw[er];lia))
  have ei:Jn Bi (h+1) t=Bo Bi t:=if_neg c;rw[ei] at q hm;exact⟨_,rfl,pu,_,du,fu,rfl,ob,A8.fam _ t,nw,pu,t,rfl,cd,rfl,hg,ok,hm,λl2 H2 s2 n2 h2=>q l2 H2 s2 n2 h2⟩
def Yg:Bc ["several","between","highest_in_brackets","told","k","part"] ["several","between","highest_in_brackets"] (Av Kv):=by injections
def Xy {f:Addr} {fd:zCh} (F:WV K "words_with" "words_with" Kv f fd) (T:Txt K mg) {m:Nat} (Cwords_within:Cy P w K mg base (3*m+2+1) "words_within" ["part","highest_in_brackets"] (LY (A8.mk Ab Ae Ad Ah Ao Ax Ay Am) m)):WN P w K mg base Do (3*m+2+1+1) f fd ["several","between","highest_in_brackets"] (AV (A8.mk Ab Ae Ad Ah Ao Ax Ay Am) m):=by
 have sc:=Yg;bv_omega
 .obtain⟨_,_,_,_,_,rfl,_⟩:=h
  rfl
 obtain⟨a,us,ts,b,h,rfl,ha,cds,hg,oks,hm,q⟩:=h;have hlen:=cds.len;refine⟨_,(Ai (Bn (i:=3) sc.nd rfl (Or.inl rfl) (Cb Ag))
   (Ai (El PassesOwn.never rfl (C0 rfl T.n_enumerate (Aa (pv 0) Ag)) (Js (n:=2) rfl (By (Bl (i:=4) sc.nd rfl (Or.inl rfl)) (By (Bl (i:=5) sc.nd rfl (Or.inl rfl)) Fz)))
    (Ai (Bu (Bf Uk (pv 4) Ar (Bk _))
    (Aj (Bz (Dy PySem.F.plainAttrs_list PySem.F.slot_list_append PySem.F.type_list_append Cj (pv 3) (Aa (pv 1) Ag))))
    Bj)
   (Aj (Bz (Dy PySem.F.plainAttrs_list PySem.F.slot_list_extend PySem.F.type_list_extend Nv (pv 3) (Aa (Az Cwords_within (hr.mono (by lia)) rfl (Aa (pv 5) (Aa (pv 2) Ag))) Ag))))))
   (Aj (Bh (pv 3))))),?_⟩
 refine⟨zAB _,λpt npt=>?_⟩;have s0:=Ap npt (.lst []);refine Hu [some (.ref a),some (.str b),some (.int h),some (.ref pt),none,none] rfl ?_;refine⟨_,rfl,a,rfl,⟨_,WL.of (s0 _ _ ha)⟩,Vq (K:=K) (a:=a) (xs:=us) (λi σ H2=>(∃ o1 o2,σ=[some (.ref a),some (.str b),some (.int h),some (.ref pt),o1,o2])/\WJ H H2/\H2 pt=some (.lst ((Dd b ((ts.take i).map (Jn Bi (h+1)))).map V.str))) ⟨⟨none,none,rfl⟩,s0,Ac⟩ (λi σ H2 _ ⟨_,e,_⟩=>WL.of (e _ _ ha)) ?_ ?_⟩
 .rintro i v σ H2 tt hi ⟨⟨o1,o2,rfl⟩,s2,h2⟩ ntt
  obtain⟨u,eu,hu⟩:=cds.get hi;have s3:=Ap ntt (.tup [.int (i:Int),v]);have hp3:=s3 _ _ h2;have S3:=s2.trans s3;have npt3:∀ {x:Addr},upd H2 tt (.tup [.int (i:Int),v]) x=none->x≠pt:=λ{x} z e=>by rw[e,hp3] at z;cases z
  have up:=zAs eu;have le1:(Jn Bi (h+1) u).length<=60:=zAD (Gu b (zAz.mpr ⟨u,up,rfl⟩)) hm;have le2:(Dd b ((ts.take i).map (Jn Bi (h+1)))).length<=60:=by rw[List.map_take];exact zAD (Yl b _ i) hm
  have sn:Dd b ((ts.take (i+1)).map (Jn Bi (h+1)))=(if i=0 then [] else Dd b ((ts.take i).map (Jn Bi (h+1)))++[b])++Jn Bi (h+1) u:=by
   rw[Bv eu,zAf];by_cases c:i=0
   .subst c
    rw[if_pos rfl,zAU];show Jn Bi (h+1) u++[]=_;rw[zAI];rfl
   .rw[if_neg c]
    show Dd b (_++[Jn Bi (h+1) u])=_;rw[X2]
    .rw[zAA];rfl
    .intro z
     have e:=congrArg List.length z;rw[zAa,zAw,List.length_nil] at e;have:=(zAu.mp eu).1
     lia
  refine⟨_,rfl,_,_,rfl,rfl,_,rfl,?_⟩;refine AN (λσ' H'=>σ'=[some (.ref a),some (.str b),some (.int h),some (.ref pt),some (.int (i:Int)),some v]/\WJ H H'/\H' pt=some (.lst ((if i=0 then [] else Dd b ((ts.take i).map (Jn Bi (h+1)))++[b]).map V.str))) (λc N R=>?_) (λc N R=>?_) ?_
  .have c:(0:Int)<(i:Int):=of_decide_eq_true c
   refine⟨_,rfl,.inl ⟨rfl,_,WL.of hp3⟩,_,rfl,pt,_,_,rfl,rfl,hp3,by rw[zAa,zCf];lia,R _ _ ⟨rfl,Q4 npt S3,?_⟩⟩;rw[if_neg (by lia),zAf];exact Ac
  .have c:¬ (0:Int)<(i:Int):=λz=>c (decide_eq_true z)
   have i0:i=0:=by lia
   refine R _ _ ⟨rfl,S3,?_⟩;rw[if_pos i0,hp3,i0,zAU];rfl
  rintro _ H4 ⟨rfl,s4,h4⟩;refine⟨_,rfl,.inl ⟨rfl,_,WL.of h4⟩,_,rfl,_,rfl,v,u,h,rfl,hu.same s4,C3 hg i eu,Hc oks u up,le1,λl H5 s5 nl h5=>?_⟩;refine⟨pt,l,_,_,rfl,rfl,s5 _ _ h4,h5,?_,⟨_,_,rfl⟩,Q4 npt (s4.trans s5),?_⟩
  .rw[zAa,zAa,zCf]
   have:(if i=0 then [] else Dd b ((ts.take i).map (Jn Bi (h+1)))++[b]).length<=61:=by
    split
    .simp
    .rw[zAc];show _+1<=_;lia
   lia
  .rw[sn,zAf]
   exact Ac
 .rintro σ H2 ⟨⟨o1,o2,rfl⟩,s2,h2⟩
  rw[hlen,zAt] at h2;exact⟨_,rfl,q pt H2 s2 npt h2⟩
def M3:Bc ["self"] ["self"] (Av No):=by injections
def A1 {f:Addr} {fd:zCh} (F:WV K "words" "Not.words" No f fd) (T:Txt K mg) (L:Kl K mg Ab Ae Ad Ah Ao Ax Ay Am Al Ba An Aq Bb As Bd Af Aw) {m:Nat} (Cwords_within:Cy P w K mg base (3*m+2+1) "words_within" ["part","highest_in_brackets"] (LY (A8.mk Ab Ae Ad Ah Ao Ax Ay Am) m)):WN P w K mg base Do (3*m+2+1+1) f fd ["self"] (Fy (A8.mk Ab Ae Ad Ah Ao Ax Ay Am) (m+1) Ax):=by
 have sc:=M3;bv_omega
 .obtain⟨_,_,rfl,_⟩:=h
  rfl
 obtain⟨p,t,rfl,hp,hc,hg,ok,hm,q⟩:=h;obtain⟨u,rfl⟩:=VY (κ:=A8.mk Ab Ae Ad Ah Ao Ax Ay Am) (FK L) hc;unfold Ki at hg;unfold Eo at ok;rw[Tl] at q hm;unfold WT at hp;obtain⟨_,dx,v,e,hp,hu⟩:=hp;cases e;rw[zAe] at hm;have one:1<=sizeLine:=by rw[zCf];decide
 refine⟨_,(Aj (Bh (Be Jc (Cb (Aa Bg Ag)) (Az Cwords_within (hr.mono (by lia)) rfl (Aa (Bx (pv 0) rfl) (Aa (Dv T.g_RANK_OF_ALL rfl) Ag)))))),?_⟩;refine⟨one,λl1 n1=>?_⟩;have s1:=Ap n1 (.lst [.str (Str.ofString "not")]);refine⟨_,rfl,p,_,dx,_,_,rfl,s1 _ _ hp,L.cl_Not,L.na_Not_part,W8 _ _,v,u,2,rfl,hu.same s1,by lia,ok,by show (Jn Bi 3 u).length<=60;lia,λl2 H2 s2 n2 h2=>?_⟩;refine⟨l1,l2,_,_,rfl,rfl,s2 _ _ Ac,h2,(by rw[zAa,zCf];show 1+(Jn Bi 3 u).length<=_;lia),λl3 n3=>?_⟩;refine q l3 _ (s1.trans (s2.trans (Ap n3 _))) ((s1.trans s2).free n3) ?_;rw[zAv];exact Ac
def B7:Bc ["self"] ["self"] (Av Nr):=by injections
def C9 {f:Addr} {fd:zCh} (F:WV K "words" "All.words" Nr f fd) (T:Txt K mg) (L:Kl K mg Ab Ae Ad Ah Ao Ax Ay Am Al Ba An Aq Bb As Bd Af Aw) {m:Nat} (Cwords_with:Cy P w K mg base (3*m+2+1+1) "words_with" ["several","between","highest_in_brackets"] (AV (A8.mk Ab Ae Ad Ah Ao Ax Ay Am) m)):WN P w K mg base Do (3*m+2+1+1+1) f fd ["self"] (Fy (A8.mk Ab Ae Ad Ah Ao Ax Ay Am) (m+1) Ay):=by
 have sc:=B7;bv_omega
 .obtain⟨_,_,rfl,_⟩:=h
  rfl
 obtain⟨p,t,rfl,hp,hc,hg,ok,hm,q⟩:=h;obtain⟨ts,rfl⟩:=VM (κ:=A8.mk Ab Ae Ad Ah Ao Ax Ay Am) (FK L) hc;unfold Ki at hg;unfold Eo at ok;rw[Tt] at q hm;unfold WT at hp;obtain⟨_,dx,a,us,e,hp,ha,hv⟩:=hp;cases e;refine⟨_,(Aj (Bh (Az Cwords_with (hr.mono (by lia)) rfl (Aa (Bx (pv 0) rfl) (Aa Bg (Aa (Dv T.g_RANK_OF_ALL rfl) Ag)))))),?_⟩;exact⟨_,rfl,p,_,dx,_,_,rfl,hp,L.cl_All,L.na_All_several,W8 _ _,a,us,ts,Str.ofString "and",2,rfl,ha,hv,by lia,ok.2.2,hm,λl H' s' nl h'=>q l H' s' nl h'⟩
def Xz:Bc ["self"] ["self"] (Av Ls):=by injections
def Xr {f:Addr} {fd:zCh} (F:WV K "words" "Some.words" Ls f fd) (T:Txt K mg) (L:Kl K mg Ab Ae Ad Ah Ao Ax Ay Am Al Ba An Aq Bb As Bd Af Aw) {m:Nat} (Cwords_with:Cy P w K mg base (3*m+2+1+1) "words_with" ["several","between","highest_in_brackets"] (AV (A8.mk Ab Ae Ad Ah Ao Ax Ay Am) m)):WN P w K mg base Do (3*m+2+1+1+1) f fd ["self"] (Fy (A8.mk Ab Ae Ad Ah Ao Ax Ay Am) (m+1) Am):=by
 have sc:=Xz;bv_omega
 .obtain⟨_,_,rfl,_⟩:=h
  rfl
 obtain⟨p,t,rfl,hp,hc,hg,ok,hm,q⟩:=h;obtain⟨ts,rfl⟩:=VN (κ:=A8.mk Ab Ae Ad Ah Ao Ax Ay Am) (FK L) hc;unfold Ki at hg;unfold Eo at ok;rw[Tu] at q hm;unfold WT at hp;obtain⟨_,dx,a,us,e,hp,ha,hv⟩:=hp;cases e;refine⟨_,(Aj (Bh (Az Cwords_with (hr.mono (by lia)) rfl (Aa (Bx (pv 0) rfl) (Aa Bg (Aa (Dv T.g_RANK_OF_SOME rfl) Ag)))))),?_⟩;exact⟨_,rfl,p,_,dx,_,_,rfl,hp,L.cl_Some,L.na_Some_several,W8 _ _,a,us,ts,Str.ofString "or",1,rfl,ha,hv,by lia,ok.2.2,hm,λl H' s' nl h'=>q l H' s' nl h'⟩
end
def Cg {X:Cx} {k:Nat} {C:Addr} {m:Str} {ps:List Str} {sp:Sp} {o:Expr} {apos pos:Pos} {ta:TE} {pl:Sem Bool} (M:Ec X.prog X.w X.K X.mg X.base k C m ps sp) (hr:XA k X.A) (he:PE X o ta)
  (ht:eval (.Call (.Attribute o m apos) [] [] pos) X.env=(do
   let ov <- eval o X.env
   standAt apos.atName
   let (f,first) <- holding [ov] (getMethod ov m pl)
   callWith pos f first (backTo pos (starEach [] X.env)) (backToKw pos (keywordEach [] X.env))):=by rfl) :
  PE X (.Call (.Attribute o m apos) [] [] pos) (BY C m sp [] E0 ta KJ):=by
 obtain⟨f,fd,F,b,hm⟩:=M.ex;exact GS he M.cl hm F hr b .nil Zn ht
def Wi (rw:Addr) (pl dp:Int):List (Str×V):=[(Str.ofString "row",.ref rw),(Str.ofString "place",.int pl),(Str.ofString "depth",.int dp)]
def GJ (rw:Addr) (pl dp:Int):(Wi rw pl dp).lookup (Str.ofString "row")=some (.ref rw):=rfl
def Sn (rw:Addr) (pl dp:Int):(Wi rw pl dp).lookup (Str.ofString "place")=some (.int pl):=rfl
def Qr (rw:Addr) (pl dp:Int):(Wi rw pl dp).lookup (Str.ofString "depth")=some (.int dp):=rfl
def WW (C:Addr) (H:Hp) (r rw:Addr) (pl:Nat) (dp:Int) (row:List Str):Prop:=(∃ dx,H r=some (.ins C dx (Wi rw pl dp)))/\H rw=some (.lst (row.map V.str))/\pl<=row.length/\row.length<=60
def Kb (r:Addr) (H H':Hp):Prop:=∀ b o,H b=some o->b≠r->H' b=some o
def Kb.refl (r:Addr) (H:Hp):Kb r H H:=λ_ _ e _=>e
def Kb.trans {r:Addr} {H H1 H2:Hp} (a:Kb r H H1) (b:Kb r H1 H2):Kb r H H2:=λc o e n=>b c o (a c o e n) n
def Kb.of {r:Addr} {H H':Hp} (s:WJ H H'):Kb r H H':=λb o e _=>s b o e
def Kb.nw {r:Addr} {H H1 H2:Hp} {o:HO} (h:H r=some o) (k:Kb r H1 H2):WJ (Nw H H1) (Nw H H2):=Nw.grow λb o' e0 e=>k b o' e λz=>by rw[z,h] at e0;cases e0
def Kb.later {r:Addr} {H H1 H2:Hp} {o1:HO} (k:Kb r H H1) (h1:H1 r=some o1):WJ (Nw H1 H2) (Nw H H2):=λb o e=>by
 obtain⟨e0,e⟩:=Nw.at e;refine Nw.of ?_ e;cases z:H b with
 |none=>rfl
 |some o'=>
  by_cases c:b=r
  .rw[c,h1] at e0;cases e0
  .rw[k b o' z c] at e0;cases e0
def Kb.free {r:Addr} {H H1:Hp} {o1:HO} (k:Kb r H H1) (h1:H1 r=some o1) {b:Addr} (e:H1 b=none):H b=none:=by
 cases z:H b with
 |none=>rfl
 |some o'=>
  by_cases c:b=r
  .rw[c,h1] at e;cases e
  .rw[k b o' z c] at e;cases e
def Di {row xs:List Str} {pl:Nat} (h:row.drop pl=xs):row[pl]?=xs.head?:=by rw[<- h,List.head?_drop]
def Kr {row xs ys:List Str} {pl:Nat} (h:row.drop pl=xs++ys):row.drop (pl+xs.length)=ys:=by
 rw[<- zBi,h,List.drop_left]
def Kz {row:List Str} {x:Str} {xs:List Str} {pl:Nat} (h:row.drop pl=x::xs):pl+1<=row.length:=by
 have:=congrArg List.length h;rw[zBE,zAe] at this
 lia
def Np (row:List Str) (pl:Nat):Str:=(row[pl]?).getD (Str.ofString "")
inductive T5 (C:Addr) (vs:List V) (H:Hp) (Q:VK):Prop
 |mk (r:_) (rw:_) (pl:_) (dp:_) (row:_) (z0:vs=[.ref r]) (z1:WW C H r rw pl dp row) (z2:Q (.str (Np row pl)) H):T5 C vs H Q
def Jo (C:Addr):Sp:=λvs H Q _=>T5 C vs H Q
inductive V6 (C:Addr) (vs:List V) (H:Hp) (Q:VK):Prop
 |mk (r:_) (rw:_) (pl:_) (dp:_) (row:_) (z0:vs=[.ref r]) (z1:WW C H r rw pl dp row) (z2:pl+1<=row.length) (z3:∀ H',Kb r H H'->WW C H' r rw (pl+1) dp row->Q .non H'):V6 C vs H Q
def Ir (C:Addr):Sp:=λvs H Q _=>V6 C vs H Q
inductive NN (C:Addr) (vs:List V) (H:Hp) (Q:VK):Prop
 |mk (r:_) (rw:_) (pl:_) (dp:_) (row:_) (b:_) (n:Int) (z0:vs=[.ref r,.str b,.int n]) (z1:WW C H r rw pl dp row) (z2:((Np row pl≠b/\Q (.bl false) H)\/(row[pl]?=some b/\n≠8/\∀ H',Kb r H H'->WW C H' r rw (pl+1) dp row->Q (.bl true) H'))):NN C vs H Q
def LR (C:Addr):Sp:=λvs H Q _=>NN C vs H Q
inductive Zj (C:Addr) (vs:List V) (H:Hp) (Q:VK):Prop
 |mk (r:_) (rw:_) (pl:_) (dp:_) (row:_) (nm:_) (z0:vs=[.ref r]) (z1:WW C H r rw pl dp row) (z2:row[pl]?=some nm) (z3:X0 nm) (z4:∀ H',Kb r H H'->WW C H' r rw (pl+1) dp row->Q (.str nm) H'):Zj C vs H Q
def Wb (C:Addr):Sp:=λvs H Q _=>Zj C vs H Q
inductive P5  (vs:List V) (H:Hp) (Q:VK):Prop
 |mk (n:Nat) (z0:vs=[.str (tx (Ce n))]) (z1:n<=1000000) (z2:Q (.int n) H):P5  vs H Q
def M4:Sp:=λvs H Q _=>P5  vs H Q
inductive Q0  (vs:List V) (H:Hp) (Q:VK):Prop
 |mk (n:Int) (z0:vs=[.int n]) (z1:0<=n) (z2:n<=1000000) (z3:Q (.bl true) H):Q0  vs H Q
def F2:Sp:=λvs H Q _=>Q0  vs H Q
inductive S0 (C:Addr) (vs:List V) (H:Hp) (Q:VK):Prop
 |mk (r:_) (rw:_) (pl:_) (dp:_) (row:_) (n:Nat) (le:Int) (z0:vs=[.ref r,.int le]) (z1:WW C H r rw pl dp row) (z2:row[pl]?=some (tx (Ce n))) (z3:n<=1000000) (z4:le<=n) (z5:∀ H',Kb r H H'->WW C H' r rw (pl+1) dp row->Q (.int n) H'):S0 C vs H Q
def M1 (C:Addr):Sp:=λvs H Q _=>S0 C vs H Q
inductive Zr (κ:A8) (C:Addr) (vs:List V) (H:Hp) (Q:VK):Prop
 |mk (r:_) (rw:_) (pl:_) (dp:_) (row:_) (n m:Nat) (z0:vs=[.ref r]) (z1:WW C H r rw pl dp row) (z2:row[pl]?=some (tx (Ce n))) (z3:row[pl+1]?=some (tx (Ce m))) (z4:n<=m) (z5:m<=1000000) (z6:∀ u H',Kb r H H'->WW C H' r rw (pl+2) dp row->WT κ (Nw H H') u (.at (.day n m))->Q u H'):Zr κ C vs H Q
def Wl (κ:A8) (C:Addr):Sp:=λvs H Q _=>Zr κ C vs H Q
inductive P4 (C:Addr) (vs:List V) (H:Hp) (Q:VK):Prop
 |mk (r:_) (rw:_) (pl:_) (dp:_) (row:_) (n:Nat) (z0:vs=[.ref r]) (z1:WW C H r rw pl dp row) (z2:row[pl]?=some (tx (Dn n))) (z3:n<10^12) (z4:∀ H',Kb r H H'->WW C H' r rw (pl+1) dp row->Q (.int n) H'):P4 C vs H Q
def G3 (C:Addr):Sp:=λvs H Q _=>P4 C vs H Q
inductive MS (κ:A8) (C:Addr) (m:Nat) (vs:List V) (H:Hp) (Q:VK):Prop
 |mk (r:_) (rw:_) (pl:_) (dp:Nat) (row:_) (ws:_) (post:_) (t:_) (d:_) (z0:vs=[.ref r]) (z1:WW C H r rw pl dp row) (z2:row.drop pl=ws++post) (z3:Sr Bi Em 0 ws t d) (z4:d<=m) (z5:dp+d<=6) (z6:∀ u H',Kb r H H'->WW C H' r rw (pl+ws.length) dp row->WT κ (Nw H H') u t->Q u H'):MS κ C m vs H Q
def MB (κ:A8) (C:Addr) (m:Nat):Sp:=λvs H Q _=>MS κ C m vs H Q
inductive MK (κ:A8) (C:Addr) (m:Nat) (vs:List V) (H:Hp) (Q:VK):Prop
 |mk (r:_) (rw:_) (pl:_) (dp:Nat) (row:_) (ws:_) (post:_) (t:_) (d:_) (z0:vs=[.ref r]) (z1:WW C H r rw pl dp row) (z2:row.drop pl=ws++post) (z3:Sr Bi Em 1 ws t d) (z4:d<=m) (z5:dp+d<=6) (z6:post.head?≠some (Str.ofString "and")) (z7:∀ u H',Kb r H H'->WW C H' r rw (pl+ws.length) dp row->WT κ (Nw H H') u t->Q u H'):MK κ C m vs H Q
def RA (κ:A8) (C:Addr) (m:Nat):Sp:=λvs H Q _=>MK κ C m vs H Q
inductive FL (κ:A8) (C:Addr) (m:Nat) (vs:List V) (H:Hp) (Q:VK):Prop
 |mk (r:_) (rw:_) (pl:_) (dp:Nat) (row:_) (ws:_) (post:_) (t:_) (d:_) (z0:vs=[.ref r]) (z1:WW C H r rw pl dp row) (z2:row.drop pl=ws++post) (z3:Sr Bi Em 2 ws t d) (z4:d<=m) (z5:dp+d<=6) (z6:post.head?≠some (Str.ofString "and")) (z7:post.head?≠some (Str.ofString "or")) (z8:∀ u H',Kb r H H'->WW C H' r rw (pl+ws.length) dp row->WT κ (Nw H H') u t->Q u H'):FL κ C m vs H Q
def Zi (κ:A8) (C:Addr) (m:Nat):Sp:=λvs H Q _=>FL κ C m vs H Q
inductive NK (κ:A8) (C:Addr) (m:Nat) (vs:List V) (H:Hp) (Q:VK):Prop
 |mk (r:_) (rw:_) (pl:_) (dp:Nat) (row:_) (ws:_) (post:_) (t:_) (d:_) (z0:vs=[.ref r]) (z1:WW C H r rw pl dp row) (z2:row.drop pl=ws++Str.ofString ")" :: post/\Sr Bi Em 2 ws t d/\d<=m/\dp+d<=6/\∀ u H',Kb r H H'->WW C H' r rw (pl+ws.length+1) dp row->WT κ (Nw H H') u t->Q u H'):NK κ C m vs H Q
def PK (κ:A8) (C:Addr) (m:Nat):Sp:=λvs H Q _=>NK κ C m vs H Q
inductive ML (κ:A8) (C:Addr) (m:Nat) (vs:List V) (H:Hp) (Q:VK):Prop
 |mk (r:_) (rw:_) (pl:_) (dp:Nat) (row:_) (ws:_) (post:_) (t:_) (d:_) (wd:_) (z0:vs=[.ref r,.str wd]) (z1:WW C H r rw pl dp row) (z2:row.drop pl=wd::ws++post) (z3:d<m) (z4:dp+d+1<=6) (z5:((wd=Str.ofString "not"/\∃ t',t=.no t'/\Sr Bi Em 0 ws t' d)\/(wd=Str.ofString "("/\∃ ws',ws=ws'++[Str.ofString ")"]/\Sr Bi Em 2 ws' t d))) (z6:∀ u H',Kb r H H'->WW C H' r rw (pl+1+ws.length) dp row->WT κ (Nw H H') u t->Q u H'):ML κ C m vs H Q
def CW (κ:A8) (C:Addr) (m:Nat):Sp:=λvs H Q _=>ML κ C m vs H Q
def Ev {row:List Str} {pl:Nat} {x:Str} (h:row[pl]?=some x):Np row pl=x:=by unfold Np;rw[h];rfl
def T7 {row post:List Str} {pl:Nat} {b:Str} (h:row.drop pl=post) (n:post.head?≠some b) (hb:b≠Str.ofString ""):Np row pl≠b:=by
 unfold Np;rw[Di h];cases e:post.head? with
 |none=>exact λz=>hb z.symm
 |some x=>exact λz=>n (by rw[e];exact congrArg some z)
def WW.step {C:Addr} {H:Hp} {r rw:Addr} {pl:Nat} {dp q:Int} {row:List Str} {dx:Addr} {p:Nat} (h:WW C H r rw pl dp row) (hp:p<=row.length):WW C (upd H r (.ins C dx (Wi rw p q))) r rw p q row:=by
 obtain⟨⟨dx',h1⟩,h2,_,h4⟩:=h;exact⟨⟨dx,Ac⟩,by rw[Au (Eu h2 h1 (by intro z;cases z))];exact h2,hp,h4⟩
def Kb.upd {r:Addr} {H:Hp} {o:HO}:Kb r H (L2.upd H r o):=λb o' e n=>by rw[Au n];exact e
section
seal L2.PS L2.PSs L2.PE L2.PA
variable {P:Program} {w:World} {K:zAb} {mg:Str->Option Value} {base:Heap} {Ab Ae Ad Ah Ao Ax Ay Am Al Ba An Aq Bb As Bd Af Aw:Addr}
def Uo:Bc ["self"] ["self"] (Av Jl):=by injections
def Ux {f:Addr} {fd:zCh} (F:WV K "ahead" "Reader.ahead" Jl f fd) (T:Txt K mg) (L:Kl K mg Ab Ae Ad Ah Ao Ax Ay Am Al Ba An Aq Bb As Bd Af Aw):WN P w K mg base Do 1 f fd ["self"] (Jo Af):=by
 have sc:=Uo;bv_omega
 .obtain⟨_,_,_,_,_,rfl,_⟩:=h
  rfl
 obtain⟨r,rw,pl,dp,row,rfl,rd,q⟩:=h;refine⟨_,(Ai (Bu (Bf Db (Bx (pv 0) rfl) (Bq Bp rfl T.n_len (show zCg _=some (.builtin "len") from rfl) (Aa (Bx (pv 0) rfl) Ag)) (Bk _))
    (Aj (Bh Bg))
    Bj)
   (Aj (Bh (Cc Bt (Bx (pv 0) rfl) (Bx (pv 0) rfl) (λ_ _=>rfl))))),?_⟩
 obtain⟨⟨dx,hr'⟩,hw,hpl,h60⟩:=rd;have hl:(row.map V.str).length=row.length:=zAa _;refine⟨_,rfl,r,_,dx,_,_,rfl,hr',L.cl_Reader,L.na_Reader_place,Sn _ _ _,_,rfl,r,_,dx,_,_,rfl,hr',L.cl_Reader,L.na_Reader_row,GJ _ _ _,rw,_,rfl,.inl (WL.of hw),rfl,_,rfl,DX (λc=>?_) (λc=>?_)⟩
 .have c:(pl:Int)=((row.map V.str).length:Int):=V.int.inj (of_decide_eq_true c)
  have e:row[pl]?=none:=List.getElem?_eq_none (by lia);unfold Np at q;rw[e] at q;exact q
 .have c:¬ (pl:Int)=((row.map V.str).length:Int):=λz=>c (decide_eq_true (by rw[z]))
  have lt:pl<row.length:=by lia
  have e:row[pl]?=some row[pl]:=zAg lt;unfold Np at q;rw[e] at q;exact⟨_,rfl,r,_,dx,_,_,rfl,hr',L.cl_Reader,L.na_Reader_row,GJ _ _ _,_,rfl,r,_,dx,_,_,rfl,hr',L.cl_Reader,L.na_Reader_place,Sn _ _ _,rw,_,_,_,rfl,rfl,WL.of hw,Fd (by rw[zAx,e];rfl),q⟩
def Vy:Bc ["self"] ["self"] (Av Ke):=by injections
def Wd {f:Addr} {fd:zCh} (F:WV K "step" "Reader.step" Ke f fd) (T:Txt K mg) (L:Kl K mg Ab Ae Ad Ah Ao Ax Ay Am Al Ba An Aq Bb As Bd Af Aw):WN P w K mg base Do 1 f fd ["self"] (Ir Af):=by
 have sc:=Vy;bv_omega
 .obtain⟨_,_,_,_,_,rfl,_⟩:=h
  rfl
 obtain⟨r,rw,pl,dp,row,rfl,rd,lt,q⟩:=h;refine⟨_,(Aj (Ct (pv 0) (Be Da (Bx (pv 0) rfl) Ar) rfl)),?_⟩;have rd':=rd;obtain⟨⟨dx,hr'⟩,hw,hpl,h60⟩:=rd;refine⟨_,rfl,r,_,dx,_,_,rfl,hr',L.cl_Reader,L.na_Reader_place,Sn _ _ _,_,_,rfl,rfl,_,rfl,r,_,dx,_,rfl,hr',L.cl_Reader,L.na_Reader_place,(by show 3<1000;decide),?_⟩;exact q _ Kb.upd (WW.step (p:=pl+1) rd' lt)
def Rp:Bc ["self","between","so_far"] ["self","between","so_far"] (Av Hf):=by injections
def Qp {f:Addr} {fd:zCh} (F:WV K "goes_on" "Reader.goes_on" Hf f fd) (T:Txt K mg) (L:Kl K mg Ab Ae Ad Ah Ao Ax Ay Am Al Ba An Aq Bb As Bd Af Aw) (Mahead:Ec P w K mg base 1 Af "ahead" ["self"] (Jo Af)) (Mstep:Ec P w K mg base 1 Af "step" ["self"] (Ir Af)):WN P w K mg base Do 2 f fd ["self","between","so_far"] (LR Af):=by
 have sc:=Rp;bv_omega
 .obtain⟨_,_,_,_,_,_,_,rfl,_⟩:=h
  rfl
 obtain⟨r,rw,pl,dp,row,b,n,rfl,rd,alt⟩:=h;refine⟨_,(Ai (Bu (Bf Pf (Cg Mahead (hr.mono (by omega)) (pv 0)) (pv 1) (Bk _))
    (Aj (Bh Fn))
    Bj)
   (Ai (Bz (Cg Mstep (hr.mono (by omega)) (pv 0)))
   (Ai (Bu (Bf Db (pv 2) (Dv T.g_MOST_IN_ROW rfl) (Bk _))
    (Aj Cf)
    Bj)
   (Aj (Bh Fn))))),?_⟩
 have rd':=rd;obtain⟨⟨dx,hr'⟩,hw,hpl,h60⟩:=rd;refine⟨_,rfl,r,dx,_,rfl,hr',rfl,r,rw,pl,dp,row,rfl,rd',_,rfl,rfl,_,rfl,?_⟩;rcases alt with ⟨ne,q⟩|⟨e,n8,q⟩
 .exact nT (λz=>ne (V.str.inj z)) q
 .refine nF (by rw[Ev e]) ?_
  have lt:pl+1<=row.length:=(zAu.mp e).1;refine⟨_,rfl,r,dx,_,rfl,hr',rfl,r,rw,pl,dp,row,rfl,rd',lt,λH' k' rd2=>?_⟩;exact⟨_,rfl,rfl,_,rfl,dF (λz=>n8 (V.int.inj z)) (q H' k' rd2)⟩
def Oi:Bc ["self","name"] ["self"] (Av Gd):=by injections
def Ov {f:Addr} {fd:zCh} (F:WV K "read_name" "Reader.read_name" Gd f fd) (T:Txt K mg) (L:Kl K mg Ab Ae Ad Ah Ao Ax Ay Am Al Ba An Aq Bb As Bd Af Aw) (Mahead:Ec P w K mg base 1 Af "ahead" ["self"] (Jo Af)) (Mstep:Ec P w K mg base 1 Af "step" ["self"] (Ir Af)) (Cis_name:Cy P w K mg base 2 "is_name" ["thing"] (Wo K)):WN P w K mg base Do 3 f fd ["self"] (Wb Af):=by
 have sc:=Oi;bv_omega
 .obtain⟨_,_,_,_,_,_,rfl,_⟩:=h
  rfl
 obtain⟨r,rw,pl,dp,row,nm,rfl,rd,e,⟨l,rfl,hn⟩,q⟩:=h;refine⟨_,(Ai (Bn (i:=1) sc.nd rfl (Or.inl rfl) (Cg Mahead (hr.mono (by lia)) (pv 0)))
   (Ai (Bu (Ee (Dc (Az Cis_name (hr.mono (by lia)) rfl (Aa (pv 1) Ag))))
    (Aj Cf)
    Bj)
   (Ai (Bz (Cg Mstep (hr.mono (by lia)) (pv 0)))
   (Aj (Bh (pv 1)))))),?_⟩
 have rd':=rd;obtain⟨⟨dx,hr'⟩,hw,hpl,h60⟩:=rd;have lt:pl+1<=row.length:=(zAu.mp e).1;have nv:Ew (.str (tx l))=true:=decide_eq_true hn;refine⟨_,rfl,r,dx,_,rfl,hr',rfl,r,rw,pl,dp,row,rfl,rd',?_⟩;rw[Ev e];refine Hu [some (.ref r),some (.str (tx l))] rfl ?_;refine⟨_,rfl,_,_,rfl,.str _,OU (by have:=hn.1.2;lia),_,rfl,bF (by rw[nv];rfl) ?_⟩;exact⟨_,rfl,r,dx,_,rfl,hr',rfl,r,rw,pl,dp,row,rfl,rd',lt,λH' k' rd2=>⟨_,rfl,q H' k' rd2⟩⟩
def EC:Bc ["thing"] ["thing"] (Av Vw):=by injections
def DH {f:Addr} {fd:zCh} (F:WV K "is_day" "is_day" Vw f fd) (T:Txt K mg) (Cis_whole:Cy P w K mg base 1 "is_whole" ["thing"] (Rt K)):WN P w K mg base Do 2 f fd ["thing"] F2:=by
 have sc:=EC;bv_omega
 .obtain⟨_,rfl,_⟩:=h
  rfl
 obtain⟨n,rfl,n0,n1,q⟩:=h;refine⟨_,(Aj (Bh (Tq (Az Cis_whole (hr.mono (by decide)) rfl (Aa (pv 0) Ag)) (Sy (Wr Ui Ui Ar (pv 0) (Dv T.g_LAST_DAY rfl)))))),?_⟩;refine⟨_,rfl,_,_,rfl,.int _,_,rfl,Kt ⟨_,rfl,_,_,rfl,rfl,_,rfl,dT n0 ⟨_,_,rfl,rfl,?_⟩⟩⟩;show Q (.bl (decide (n<=1000000))) H;rw[decide_eq_true n1];exact q
def DB:Bc ["word","day"] ["word"] (Av We):=by injections
def DI {f:Addr} {fd:zCh} (F:WV K "day_of" "day_of" We f fd) (T:Txt K mg) (Cwrites_whole:Cy P w K mg base 2 "writes_whole" ["text","most_figures"] Hy) (Cis_day:Cy P w K mg base 2 "is_day" ["thing"] F2):WN P w K mg base Do 3 f fd ["word"] M4:=by
 have sc:=DB;bv_omega
 .obtain⟨_,rfl,_⟩:=h
  rfl
 obtain⟨n,rfl,n1,q⟩:=h;refine⟨_,(Ai (Bu (Ee (Dc (Az Cwrites_whole (hr.mono (by decide)) rfl (Aa (pv 0) (Aa (Dv T.g_MOST_DAY_FIGURES rfl) Ag)))))
    (Aj (Bh Kh))
    Bj)
   (Ai (Bn (i:=1) sc.nd rfl (Or.inl rfl) (Ck Ht rfl T.n_int (show zCg _=some (.type "int") from rfl) (Aa (pv 0) Ag)))
   (Aj (Bh (Iz (Dc (Az Cis_day (hr.mono (by decide)) rfl (Aa (pv 1) Ag))) (pv 1) Kh))))),?_⟩
 have l7:(Ce n).length<=7:=Dk (by decide) (Ln n1);refine⟨_,rfl,n,7,rfl,Ln n1,by decide,by decide,_,rfl,Ep ?_⟩;refine⟨_,rfl,_,_,rfl,D4 (Fx _) (Oh _) (by lia),by rw[Ci];lia,?_⟩;rw[Ro];refine Hu [some (.str (tx (Ce n))),some (.int (n:Int))] rfl ?_;exact⟨_,rfl,_,rfl,by lia,by lia,_,rfl,Kt ⟨_,rfl,q⟩⟩
def Qa:Bc ["self","least","day"] ["self","least"] (Av Gq):=by injections
def Pu {f:Addr} {fd:zCh} (F:WV K "read_day" "Reader.read_day" Gq f fd) (T:Txt K mg) (L:Kl K mg Ab Ae Ad Ah Ao Ax Ay Am Al Ba An Aq Bb As Bd Af Aw) (Mahead:Ec P w K mg base 1 Af "ahead" ["self"] (Jo Af)) (Mstep:Ec P w K mg base 1 Af "step" ["self"] (Ir Af)) (Cday_of:Cy P w K mg base 3 "day_of" ["word"] M4):WN P w K mg base Do 4 f fd ["self","least"] (M1 Af):=by
 have sc:=Qa;bv_omega
 .obtain⟨_,_,_,_,_,_,_,rfl,_⟩:=h
  rfl
 obtain⟨r,rw,pl,dp,row,n,le,rfl,rd,e,n1,len,q⟩:=h;refine⟨_,(Ai (Bn (i:=2) sc.nd rfl (Or.inl rfl) (Az Cday_of (hr.mono (by lia)) rfl (Aa (Cg Mahead (hr.mono (by lia)) (pv 0)) Ag)))
   (Ai (Bu (PW.pt (Fe (Bf C8 (pv 2) Kh (Bk _)) (Et (Bf Mb (pv 2) (pv 1) (Bk _)))))
    (Aj Cf)
    Bj)
   (Ai (Bz (Cg Mstep (hr.mono (by lia)) (pv 0)))
   (Aj (Bh (pv 2)))))),?_⟩
 have rd':=rd;obtain⟨⟨dx,hr'⟩,hw,hpl,h60⟩:=rd;have lt:pl+1<=row.length:=(zAu.mp e).1;refine⟨_,rfl,r,dx,_,rfl,hr',rfl,r,rw,pl,dp,row,rfl,rd',?_⟩;rw[Ev e];refine⟨n,rfl,n1,?_⟩;refine Hu [some (.ref r),some (.int le),some (.int (n:Int))] rfl ?_;refine⟨_,rfl,rfl,_,rfl,dF (by intro z;cases z) ⟨_,rfl,_,rfl,_,_,rfl,rfl,_,rfl,dF (by lia) ?_⟩⟩;exact⟨_,rfl,r,dx,_,rfl,hr',rfl,r,rw,pl,dp,row,rfl,rd',lt,λH' k' rd2=>⟨_,rfl,q H' k' rd2⟩⟩
def On:Bc ["self","first"] ["self"] (Av Gc):=by injections
def Oq {f:Addr} {fd:zCh} (F:WV K "read_days" "Reader.read_days" Gc f fd) (T:Txt K mg) (L:Kl K mg Ab Ae Ad Ah Ao Ax Ay Am Al Ba An Aq Bb As Bd Af Aw) (Mread_day:Ec P w K mg base 4 Af "read_day" ["self","least"] (M1 Af)) (KDaysIn:Gb P w K mg base 1 "DaysIn" Ah ["self","first","last"] (JM Ah)):WN P w K mg base Do 5 f fd ["self"] (Wl (A8.mk Ab Ae Ad Ah Ao Ax Ay Am) Af):=by
 have sc:=On;bv_omega
 .obtain⟨_,_,_,_,_,_,_,rfl,_⟩:=h
  rfl
 obtain⟨r,rw,pl,dp,row,n,m,rfl,rd,e1,e2,nm,m1,q⟩:=h;refine⟨_,(Ai (Bn (i:=1) sc.nd rfl (Or.inl rfl) (Nm Mread_day (hr.mono (by lia)) (pv 0) (Aa Ar Ag)))
   (Aj (Bh (Ed KDaysIn (hr.mono (by lia)) rfl (Aa (pv 1) (Aa (Nm Mread_day (hr.mono (by lia)) (pv 0) (Aa (pv 1) Ag)) Ag)))))),?_⟩
 have rd':=rd;obtain⟨⟨dx,hr'⟩,hw,hpl,h60⟩:=rd;refine⟨_,rfl,r,dx,_,rfl,hr',rfl,r,rw,pl,dp,row,n,0,rfl,rd',e1,by lia,by lia,λH1 k1 rd1=>?_⟩;refine Hu [some (.ref r),some (.int (n:Int))] rfl ?_;have rd1':=rd1;obtain⟨⟨dx1,hr1⟩,hw1,hpl1,_⟩:=rd1;refine⟨_,rfl,_,rfl,r,dx1,_,rfl,hr1,rfl,_,rfl,r,rw,pl+1,dp,row,m,_,rfl,rd1',e2,m1,by lia,λH2 k2 rd2 y dy ny nd ne=>?_⟩;refine⟨y,dy,_,_,rfl,Ac,λH3 kp hy=>⟨rfl,?_⟩⟩;have s3:WJ H2 H3:=λb o z=>by
  have n1:=Ak z ny;rw[kp b n1,Au n1,Au (Ak z nd)];exact z
 have k3:=k1.trans (k2.trans (Kb.of s3));obtain⟨⟨dx2,hr2⟩,hw2,hpl2,_⟩:=rd2;refine q _ _ k3 ⟨⟨dx2,s3 _ _ hr2⟩,s3 _ _ hw2,hpl2,h60⟩ ?_;unfold WT;exact⟨y,dy,rfl,Nw.of ((k1.trans k2).free hr2 ny) hy⟩
def Me:Bc ["self","cents"] ["self"] (Av Fg):=by injections
def Md {Ek Fj Fk Gm Gk Fi Gj Ib Ia Jr:Addr} {f:Addr} {fd:zCh} (F:WV K "read_amount" "Reader.read_amount" Fg f fd) (T:Txt K mg) (L:Kl K mg Ab Ae Ad Ah Ao Ax Ay Am Al Ba An Aq Bb As Bd Af Aw) (Mahead:Ec P w K mg base 1 Af "ahead" ["self"] (Jo Af)) (Mstep:Ec P w K mg base 1 Af "step" ["self"] (Ir Af)) (Z:Xc K mg Ek Fj Fk Gm Gk Fi Gj Ib Ia Jr) (Cread_cents:Cy P w K mg base 3 "read_cents" ["text"] G6):WN P w K mg base Do 4 f fd ["self"] (G3 Af):=by
 have sc:=Me;bv_omega
 .obtain⟨_,_,_,_,_,_,rfl,_⟩:=h
  rfl
 obtain⟨r,rw,pl,dp,row,n,rfl,rd,e,n1,q⟩:=h;refine⟨_,(Ai (GV rfl rfl rfl Z.a_NoAmount (λpn E W hW hp=>
    (Aj (Bn (i:=1) sc.nd rfl (Or.inl rfl) (Az Cread_cents (hr.mono (by omega)) rfl (Aa (Cg Mahead (hr.mono (by omega)) (pv 0)) Ag))))) (λe=>
    (Aj Cf)))
   (Ai (Bz (Cg Mstep (hr.mono (by omega)) (pv 0)))
   (Aj (Bh (pv 1))))),?_⟩
 have rd':=rd;obtain⟨⟨dx,hr'⟩,hw,hpl,h60⟩:=rd;have lt:pl+1<=row.length:=(zAu.mp e).1;refine⟨_,rfl,r,dx,_,rfl,hr',rfl,r,rw,pl,dp,row,rfl,rd',?_⟩;rw[Ev e];refine⟨n,rfl,n1,λH1 s1=>?_⟩;refine Hu [some (.ref r),some (.int (n:Int))] rfl ?_;refine⟨_,rfl,r,dx,_,rfl,s1 _ _ hr',rfl,r,rw,pl,dp,row,rfl,⟨⟨dx,s1 _ _ hr'⟩,s1 _ _ hw,hpl,h60⟩,lt,λH' k' rd2=>⟨_,rfl,q H' ((Kb.of s1).trans k') rd2⟩⟩
def Lj:Bc ["self","condition"] ["self"] (Av Fb):=by injections
def Lo {f:Addr} {fd:zCh} (F:WV K "read_bracket" "Reader.read_bracket" Fb f fd) (T:Txt K mg) (L:Kl K mg Ab Ae Ad Ah Ao Ax Ay Am Al Ba An Aq Bb As Bd Af Aw) {m:Nat} (Mahead:Ec P w K mg base 1 Af "ahead" ["self"] (Jo Af)) (Mstep:Ec P w K mg base 1 Af "step" ["self"] (Ir Af)) (Mread_rows:Ec P w K mg base (5*m+8) Af "read_rows" ["self"] (Zi (A8.mk Ab Ae Ad Ah Ao Ax Ay Am) Af m)):WN P w K mg base Do (5*m+9) f fd ["self"] (PK (A8.mk Ab Ae Ad Ah Ao Ax Ay Am) Af m):=by
 have sc:=Lj;bv_omega
 .obtain⟨_,_,_,_,_,_,_,_,_,rfl,_⟩:=h
  rfl
 obtain⟨r,rw,pl,dp,row,ws,post,t,d,rfl,rd,dr,sp,dm,d6,q⟩:=h;refine⟨_,(Ai (Bn (i:=1) sc.nd rfl (Or.inl rfl) (Cg Mread_rows (hr.mono (by omega)) (pv 0)))
   (Ai (Bu (Bf Pf (Cg Mahead (hr.mono (by omega)) (pv 0)) Bg (Bk _))
    (Aj Cf)
    Bj)
   (Ai (Bz (Cg Mstep (hr.mono (by omega)) (pv 0)))
   (Aj (Bh (pv 1)))))),?_⟩
 have rd':=rd;obtain⟨⟨dx,hr'⟩,hw,hpl,h60⟩:=rd;refine⟨_,rfl,r,dx,_,rfl,hr',rfl,r,rw,pl,dp,row,ws,Str.ofString ")" :: post,t,d,rfl,rd',dr,sp,dm,d6,(by intro z;exact absurd (Option.some.inj z) (by ac_nf)),(by intro z;exact absurd (Option.some.inj z) (by ac_nf)),λu H1 k1 rd1 cd=>?_⟩;refine Hu [some (.ref r),some u] rfl ?_;have dr1:=Kr dr;have e1:row[pl+ws.length]?=some (Str.ofString ")"):=Di dr1;have rd1':=rd1;obtain⟨⟨dx1,hr1⟩,hw1,hpl1,_⟩:=rd1;refine⟨_,rfl,r,dx1,_,rfl,hr1,rfl,r,rw,_,dp,row,rfl,rd1',rfl,_,rfl,nF (by rw[Ev e1]) ?_⟩;refine⟨_,rfl,r,dx1,_,rfl,hr1,rfl,r,rw,_,dp,row,rfl,rd1',Kz dr1,λH2 k2 rd2=>?_⟩;exact⟨_,rfl,q u H2 (k1.trans k2) rd2 (cd.same (k2.nw hr'))⟩
def Mc:Bc ["self","word","condition"] ["self","word"] (Av Fh):=by injections
def Mf {f:Addr} {fd:zCh} (F:WV K "read_deeper" "Reader.read_deeper" Fh f fd) (T:Txt K mg) (L:Kl K mg Ab Ae Ad Ah Ao Ax Ay Am Al Ba An Aq Bb As Bd Af Aw) {m:Nat} (Mstep:Ec P w K mg base 1 Af "step" ["self"] (Ir Af)) (Mread_piece:Ec P w K mg base (5*m+6) Af "read_piece" ["self"] (MB (A8.mk Ab Ae Ad Ah Ao Ax Ay Am) Af m)) (Mread_bracket:Ec P w K mg base (5*m+9) Af "read_bracket" ["self"] (PK (A8.mk Ab Ae Ad Ah Ao Ax Ay Am) Af m)) (KNot:Gb P w K mg base 1 "Not" Ax ["self","part"] (Ly Ax "part")):WN P w K mg base Do (5*m+10) f fd ["self","word"] (CW (A8.mk Ab Ae Ad Ah Ao Ax Ay Am) Af (m+1)):=by
 have sc:=Mc;bv_omega
 .obtain⟨_,_,_,_,_,_,_,_,_,_,rfl,_⟩:=h
  rfl
 obtain⟨r,rw,pl,dp,row,ws,post,t,d,wd,rfl,rd,dr,dm,d6,alt,q⟩:=h;refine⟨_,(Ai (Bu (Bf Db (Bx (pv 0) rfl) (Dv T.g_MOST_OPEN rfl) (Bk _))
    (Aj Cf)
    Bj)
   (Ai (Ct (pv 0) (Be Da (Bx (pv 0) rfl) Ar) rfl)
   (Ai (Bz (Cg Mstep (hr.mono (by lia)) (pv 0)))
   (Ai (Bn (i:=2) sc.nd rfl (Or.inl rfl) (Iz (Bf Db (pv 1) Bg (Bk _)) (Ed KNot (hr.mono (by lia)) rfl (Aa (Cg Mread_piece (hr.mono (by lia)) (pv 0)) Ag)) (Cg Mread_bracket (hr.mono (by lia)) (pv 0))))
   (Ai (Ct (pv 0) (Be A5 (Bx (pv 0) rfl) Ar) rfl)
   (Aj (Bh (pv 2)))))))),?_⟩
 have rd':=rd;obtain⟨⟨dx,hr'⟩,hw,hpl,h60⟩:=rd;refine⟨_,rfl,r,_,dx,_,_,rfl,hr',L.cl_Reader,L.na_Reader_depth,Qr _ _ _,rfl,_,rfl,dF (λz=>by have:=V.int.inj z;lia) ?_⟩;refine⟨_,rfl,r,_,dx,_,_,rfl,hr',L.cl_Reader,L.na_Reader_depth,Qr _ _ _,_,_,rfl,rfl,_,rfl,r,_,dx,_,rfl,hr',L.cl_Reader,L.na_Reader_depth,(by show 3<1000;decide),?_⟩;have rd1:WW Af (upd H r (.ins Af dx (Wi rw pl ((dp:Int)+1)))) r rw pl ((dp:Int)+1) row:=WW.step (p:=pl) rd' hpl;have k1:Kb r H (upd H r (.ins Af dx (Wi rw pl ((dp:Int)+1)))):=Kb.upd;have lt:=Kz dr;refine⟨_,rfl,r,dx,_,rfl,Ac,rfl,r,rw,pl,_,row,rfl,rd1,lt,λH2 k2 rd2=>?_⟩;have k12:=k1.trans k2;have dr2:row.drop (pl+1)=ws++post:=by
  rw[<- zBi,dr];rfl
 have rd2':WW Af H2 r rw (pl+1) ((dp+1:Nat):Int) row:=rd2;have rd2'':=rd2';obtain⟨⟨dx2,hr2⟩,hw2,hpl2,_⟩:=rd2'';rcases alt with ⟨rfl,t',rfl,sp⟩|⟨rfl,ws',rfl,sp⟩
 .refine⟨_,rfl,rfl,_,rfl,dT rfl ⟨_,rfl,r,dx2,_,rfl,hr2,rfl,r,rw,pl+1,dp+1,row,ws,post,t',d,rfl,rd2',dr2,sp,by lia,by lia,λu H3 k3 rd3 cd y dy ny nd ne=>⟨y,dy,u,rfl,Ac,rfl,?_⟩⟩⟩
  have s4:WJ H3 (upd (upd (upd H3 dy (.own y)) y (.ins Ax dy [])) y (.ins Ax dy (Ca "part" u []))):=Lu ny nd;have hy:upd (upd (upd H3 dy (.own y)) y (.ins Ax dy [])) y (.ins Ax dy (Ca "part" u [])) y=some (.ins Ax dy (Ca "part" u [])):=Ac;generalize upd (upd (upd H3 dy (.own y)) y (.ins Ax dy [])) y (.ins Ax dy (Ca "part" u []))=H4 at s4 hy;refine Hu [some (.ref r),some (.str (Str.ofString "not")),some (.ref y)] rfl ?_;obtain⟨⟨dx3,hr3⟩,hw3,hpl3,_⟩:=rd3;have hr4:=s4 _ _ hr3;have rd4:WW Af H4 r rw (pl+1+ws.length) ((dp+1:Nat):Int) row:=⟨⟨dx3,hr4⟩,s4 _ _ hw3,hpl3,h60⟩;refine⟨_,rfl,r,_,dx3,_,_,rfl,hr4,L.cl_Reader,L.na_Reader_depth,Qr _ _ _,_,_,rfl,rfl,_,rfl,r,_,dx3,_,rfl,hr4,L.cl_Reader,L.na_Reader_depth,(by show 3<1000;decide),_,rfl,?_⟩;have ed:(((dp+1:Nat):Int)-1)=(dp:Int):=by lia
  have k4:Kb r H (upd H4 r (.ins Af dx3 (Wi rw ((pl+1+ws.length:Nat):Int) (((dp+1:Nat):Int)-1)))):=k12.trans (k3.trans ((Kb.of s4).trans Kb.upd));have rd5:WW Af (upd H4 r (.ins Af dx3 (Wi rw ((pl+1+ws.length:Nat):Int) (((dp+1:Nat):Int)-1)))) r rw (pl+1+ws.length) (dp:Int) row:=by
   have:=WW.step (p:=pl+1+ws.length) (q:=(((dp+1:Nat):Int)-1)) (dx:=dx3) rd4 hpl3;rw[ed] at this ⊢;exact this
  refine q _ _ k4 rd5 ?_;unfold WT;have nyr:y≠r:=λz=>by rw[z,hr3] at ny;cases ny
  refine⟨y,dy,u,rfl,Nw.of ((k12.trans k3).free hr3 ny) (by rw[Au nyr];exact hy),cd.same λb o e=>?_⟩;have e1:=k12.later hr2 (H2:=H3) b o e;exact ((Kb.of s4).trans Kb.upd).nw hr' b o e1
 .have dr3:row.drop (pl+1)=ws'++Str.ofString ")" :: post:=by rw[dr2,zAA];rfl
  refine⟨_,rfl,rfl,_,rfl,dF (λz=>absurd (V.str.inj z) (by ac_nf)) ⟨_,rfl,r,dx2,_,rfl,hr2,rfl,r,rw,pl+1,dp+1,row,ws',post,t,d,rfl,rd2',dr3,sp,by lia,by lia,λu H3 k3 rd3 cd=>?_⟩⟩;refine Hu [some (.ref r),some (.str (Str.ofString "(")),some u] rfl ?_;have el:pl+1+(ws'++[Str.ofString ")"]).length=pl+1+ws'.length+1:=by rw[zAc];rfl
  rw[el] at q;have rd3':=rd3;obtain⟨⟨dx3,hr3⟩,hw3,hpl3,_⟩:=rd3;refine⟨_,rfl,r,_,dx3,_,_,rfl,hr3,L.cl_Reader,L.na_Reader_depth,Qr _ _ _,_,_,rfl,rfl,_,rfl,r,_,dx3,_,rfl,hr3,L.cl_Reader,L.na_Reader_depth,(by show 3<1000;decide),_,rfl,?_⟩;have ed:(((dp+1:Nat):Int)-1)=(dp:Int):=by lia
  have rd5:WW Af (upd H3 r (.ins Af dx3 (Wi rw ((pl+1+ws'.length+1:Nat):Int) (((dp+1:Nat):Int)-1)))) r rw (pl+1+ws'.length+1) (dp:Int) row:=by
   have:=WW.step (p:=pl+1+ws'.length+1) (q:=(((dp+1:Nat):Int)-1)) (dx:=dx3) rd3' hpl3;rw[ed] at this ⊢;exact this
  refine q _ _ (k12.trans (k3.trans Kb.upd)) rd5 (cd.same λb o e=>?_);have e1:=k12.later hr2 (H2:=H3) b o e;exact (Kb.upd).nw hr' b o e1
def Nk:Bc ["self","word"] ["self"] (Av Fo):=by injections
set_option tactic.hygienic true in
def Nj {f:Addr} {fd:zCh} (F:WV K "read_piece" "Reader.read_piece" Fo f fd) (T:Txt K mg) (L:Kl K mg Ab Ae Ad Ah Ao Ax Ay Am Al Ba An Aq Bb As Bd Af Aw) {m:Nat} (Mahead:Ec P w K mg base 1 Af "ahead" ["self"] (Jo Af)) (Mstep:Ec P w K mg base 1 Af "step" ["self"] (Ir Af)) (Mread_deeper:Ec P w K mg base (5*m+5) Af "read_deeper" ["self","word"] (CW (A8.mk Ab Ae Ad Ah Ao Ax Ay Am) Af m)) (Mread_name:Ec P w K mg base 3 Af "read_name" ["self"] (Wb Af)) (Mread_days:Ec P w K mg base 5 Af "read_days" ["self"] (Wl (A8.mk Ab Ae Ad Ah Ao Ax Ay Am) Af)) (Mread_amount:Ec P w K mg base 4 Af "read_amount" ["self"] (G3 Af)) (NCondition:SR K mg "Condition" Ab) (KCauseIs:Gb P w K mg base 1 "CauseIs" Ae ["self","name"] (Ly Ae "name")) (KThingIs:Gb P w K mg base 1 "ThingIs" Ad ["self","name"] (Ly Ad "name")) (KOver:Gb P w K mg base 1 "Over" Ao ["self","cents"] (Ly Ao "cents")):WN P w K mg base Do (5*m+6) f fd ["self"] (MB (A8.mk Ab Ae Ad Ah Ao Ax Ay Am) Af m):=by
 have sc:=Nk;bv_omega
 .obtain⟨_,_,_,_,_,_,_,_,_,rfl,_⟩:=h
  rfl
 obtain⟨r,rw,pl,dp,row,ws,post,t,d,rfl,rd,dr,sp,dm,d6,q⟩:=h;refine⟨_,(Ai (Bn (i:=1) sc.nd rfl (Or.inl rfl) (Cg Mahead (hr.mono (by lia)) (pv 0)))
   (Ai (Bu (PW.pt (Fe (Bf Db (pv 1) Bg (Bk _)) (Et (Bf Db (pv 1) Bg (Bk _)))))
    (Aj (Bh (Nm Mread_deeper (hr.mono (by lia)) (pv 0) (Aa (pv 1) Ag))))
    Bj)
   (Ai (Bu (Bf Rn (pv 1) (Cw (Aa Bg (Aa Bg (Aa Bg (Aa Bg (Aa Bg Ag)))))) rfl)
    (Aj Cf)
    Bj)
   (Ai (Bz (Cg Mstep (hr.mono (by lia)) (pv 0)))
   (Ai (Bu (Bf Db (pv 1) Bg (Bk _))
    (Aj (Bh (Ed KCauseIs (hr.mono (by lia)) rfl (Aa (Cg Mread_name (hr.mono (by lia)) (pv 0)) Ag))))
    Bj)
   (Ai (Bu (Bf Db (pv 1) Bg (Bk _))
    (Aj (Bh (Ed KThingIs (hr.mono (by lia)) rfl (Aa (Cg Mread_name (hr.mono (by lia)) (pv 0)) Ag))))
    Bj)
   (Ai (Bu (Bf Db (pv 1) Bg (Bk _))
    (Aj (Bh (Cg Mread_days (hr.mono (by lia)) (pv 0))))
    Bj)
   (Ai (Bu (Bf Db (pv 1) Bg (Bk _))
    (Aj (Bh (Ed KOver (hr.mono (by lia)) rfl (Aa (Cg Mread_amount (hr.mono (by lia)) (pv 0)) Ag))))
    Bj)
   (Aj (Bh (AW NCondition rfl))))))))))),?_⟩
 have rd':=rd;obtain⟨⟨dx,hr'⟩,hw,hpl,h60⟩:=rd;have sne:∀ {y z:Str},y≠z->¬ V.str y=V.str z:=λh e=>h (V.str.inj e);have five:5<=sizeLine:=by rw[zCf];decide
 refine⟨_,rfl,r,dx,_,rfl,hr',rfl,r,rw,pl,dp,row,rfl,rd',?_⟩;cases sp with
 |no sp=>
  rename_i ws t d
  have e0:row[pl]?=some (Str.ofString "not"):=Di dr;rw[Ev e0];refine Hu [some (.ref r),some (.str (Str.ofString "not"))] rfl ?_;refine⟨_,rfl,rfl,_,rfl,dT rfl (Kt ⟨_,rfl,r,dx,_,rfl,hr',rfl,_,rfl,r,rw,pl,dp,row,ws,post,.no t,d,_,rfl,rd',dr,by lia,by lia,.inl ⟨rfl,t,rfl,sp⟩,λu H' k' rd2 cd=>q u H' k' ?_ cd⟩)⟩;rw[zAe,show pl+(ws.length+1)=pl+1+ws.length by lia];exact rd2
 |br sp=>
  rename_i ws d
  have e0:row[pl]?=some (Str.ofString "("):=Di dr;rw[Ev e0];refine Hu [some (.ref r),some (.str (Str.ofString "("))] rfl ?_;refine⟨_,rfl,rfl,_,rfl,dF (sne (by ac_nf)) ⟨_,rfl,rfl,_,rfl,dT rfl ⟨_,rfl,r,dx,_,rfl,hr',rfl,_,rfl,r,rw,pl,dp,row,ws++[Str.ofString ")"],post,t,d,_,rfl,rd',dr,by lia,by lia,.inr ⟨rfl,ws,rfl,sp⟩,λu H' k' rd2 cd=>q u H' k' ?_ cd⟩⟩⟩;rw[zAe,show pl+((ws++[Str.ofString ")"]).length+1)=pl+1+(ws++[Str.ofString ")"]).length by lia];exact rd2
 |leaf ok=>
  rename_i c
  cases c with
  |alw=>
   have e0:row[pl]?=some (Str.ofString "always"):=Di dr;have lt:pl+1<=row.length:=Kz dr;rw[Ev e0];refine Hu [some (.ref r),some (.str (Str.ofString "always"))] rfl ?_;refine⟨_,rfl,rfl,_,rfl,dF (sne (by ac_nf)) ⟨_,rfl,rfl,_,rfl,dF (sne (by ac_nf)) ?_⟩⟩;refine⟨_,rfl,five,λtt ntt=>⟨tt,_,rfl,.inr (WX.of Ac),rfl,rfl,_,rfl,bF (by ac_nf) ?_⟩⟩;have s0:=Ap ntt (.tup [.str (Str.ofString "always"),.str (Str.ofString "cause"),.str (Str.ofString "thing"),.str (Str.ofString "days"),.str (Str.ofString "over")]);have rd0:WW Af (upd H tt (.tup [.str (Str.ofString "always"),.str (Str.ofString "cause"),.str (Str.ofString "thing"),.str (Str.ofString "days"),.str (Str.ofString "over")])) r rw pl dp row:=⟨⟨dx,s0 _ _ hr'⟩,s0 _ _ hw,hpl,h60⟩;refine⟨_,rfl,r,dx,_,rfl,s0 _ _ hr',rfl,r,rw,pl,_,row,rfl,rd0,lt,λH1 k01 rd1=>?_⟩;have k1:=(Kb.of s0).trans k01;have rd1':=rd1;obtain⟨⟨dx1,hr1⟩,hw1,hpl1,_⟩:=rd1;refine⟨_,rfl,rfl,_,rfl,dF (sne (by ac_nf)) ?_⟩;refine⟨_,rfl,rfl,_,rfl,dF (sne (by ac_nf)) ?_⟩;refine⟨_,rfl,rfl,_,rfl,dF (sne (by ac_nf)) ?_⟩;refine⟨_,rfl,rfl,_,rfl,dF (sne (by ac_nf)) ?_⟩;intro y dy ny nd ne;have s2:WJ H1 (upd (upd H1 dy (.own y)) y (.ins Ab dy [])):=Kj ny nd;refine q _ _ (k1.trans (Kb.of s2)) ⟨⟨dx1,s2 _ _ hr1⟩,s2 _ _ hw1,hpl1,h60⟩ ?_;unfold WT;exact⟨y,dy,rfl,Nw.of (k1.free hr1 ny) Ac⟩
  |cau nm=>
   have e0:row[pl]?=some (Str.ofString "cause"):=Di dr;have lt:pl+1<=row.length:=Kz dr;rw[Ev e0];refine Hu [some (.ref r),some (.str (Str.ofString "cause"))] rfl ?_;refine⟨_,rfl,rfl,_,rfl,dF (sne (by ac_nf)) ⟨_,rfl,rfl,_,rfl,dF (sne (by ac_nf)) ?_⟩⟩;refine⟨_,rfl,five,λtt ntt=>⟨tt,_,rfl,.inr (WX.of Ac),rfl,rfl,_,rfl,bF (by ac_nf) ?_⟩⟩;have s0:=Ap ntt (.tup [.str (Str.ofString "always"),.str (Str.ofString "cause"),.str (Str.ofString "thing"),.str (Str.ofString "days"),.str (Str.ofString "over")]);have rd0:WW Af (upd H tt (.tup [.str (Str.ofString "always"),.str (Str.ofString "cause"),.str (Str.ofString "thing"),.str (Str.ofString "days"),.str (Str.ofString "over")])) r rw pl dp row:=⟨⟨dx,s0 _ _ hr'⟩,s0 _ _ hw,hpl,h60⟩;refine⟨_,rfl,r,dx,_,rfl,s0 _ _ hr',rfl,r,rw,pl,_,row,rfl,rd0,lt,λH1 k01 rd1=>?_⟩;have k1:=(Kb.of s0).trans k01;have rd1':=rd1;obtain⟨⟨dx1,hr1⟩,hw1,hpl1,_⟩:=rd1;have e1:row[pl+1]?=some nm:=Di (xs:=nm::post) (by rw[<- zBi,dr];rfl);refine⟨_,rfl,rfl,_,rfl,dT rfl ⟨_,rfl,r,dx1,_,rfl,hr1,rfl,r,rw,pl+1,dp,row,nm,rfl,rd1',e1,ok,λH2 k2 rd2 y dy ny nd ne=>⟨y,dy,_,rfl,Ac,rfl,?_⟩⟩⟩;obtain⟨⟨dx2,hr2⟩,hw2,hpl2,_⟩:=rd2;have s3:WJ H2 (upd (upd (upd H2 dy (.own y)) y (.ins Ae dy [])) y (.ins Ae dy (Ca "name" (.str nm) []))):=Lu ny nd;refine q _ _ (k1.trans (k2.trans (Kb.of s3))) ⟨⟨dx2,s3 _ _ hr2⟩,s3 _ _ hw2,hpl2,h60⟩ ?_;unfold WT;exact⟨y,dy,rfl,Nw.of ((k1.trans k2).free hr2 ny) Ac⟩
  |thi nm=>
   have e0:row[pl]?=some (Str.ofString "thing"):=Di dr;have lt:pl+1<=row.length:=Kz dr;rw[Ev e0];refine Hu [some (.ref r),some (.str (Str.ofString "thing"))] rfl ?_;refine⟨_,rfl,rfl,_,rfl,dF (sne (by ac_nf)) ⟨_,rfl,rfl,_,rfl,dF (sne (by ac_nf)) ?_⟩⟩;refine⟨_,rfl,five,λtt ntt=>⟨tt,_,rfl,.inr (WX.of Ac),rfl,rfl,_,rfl,bF (by ac_nf) ?_⟩⟩;have s0:=Ap ntt (.tup [.str (Str.ofString "always"),.str (Str.ofString "cause"),.str (Str.ofString "thing"),.str (Str.ofString "days"),.str (Str.ofString "over")]);have rd0:WW Af (upd H tt (.tup [.str (Str.ofString "always"),.str (Str.ofString "cause"),.str (Str.ofString "thing"),.str (Str.ofString "days"),.str (Str.ofString "over")])) r rw pl dp row:=⟨⟨dx,s0 _ _ hr'⟩,s0 _ _ hw,hpl,h60⟩;refine⟨_,rfl,r,dx,_,rfl,s0 _ _ hr',rfl,r,rw,pl,_,row,rfl,rd0,lt,λH1 k01 rd1=>?_⟩;have k1:=(Kb.of s0).trans k01;have rd1':=rd1;obtain⟨⟨dx1,hr1⟩,hw1,hpl1,_⟩:=rd1;refine⟨_,rfl,rfl,_,rfl,dF (sne (by ac_nf)) ?_⟩;have e1:row[pl+1]?=some nm:=Di (xs:=nm::post) (by rw[<- zBi,dr];rfl);refine⟨_,rfl,rfl,_,rfl,dT rfl ⟨_,rfl,r,dx1,_,rfl,hr1,rfl,r,rw,pl+1,dp,row,nm,rfl,rd1',e1,ok,λH2 k2 rd2 y dy ny nd ne=>⟨y,dy,_,rfl,Ac,rfl,?_⟩⟩⟩;obtain⟨⟨dx2,hr2⟩,hw2,hpl2,_⟩:=rd2;have s3:WJ H2 (upd (upd (upd H2 dy (.own y)) y (.ins Ad dy [])) y (.ins Ad dy (Ca "name" (.str nm) []))):=Lu ny nd;refine q _ _ (k1.trans (k2.trans (Kb.of s3))) ⟨⟨dx2,s3 _ _ hr2⟩,s3 _ _ hw2,hpl2,h60⟩ ?_;unfold WT;exact⟨y,dy,rfl,Nw.of ((k1.trans k2).free hr2 ny) Ac⟩
  |day a b=>
   have e0:row[pl]?=some (Str.ofString "days"):=Di dr;have lt:pl+1<=row.length:=Kz dr;rw[Ev e0];refine Hu [some (.ref r),some (.str (Str.ofString "days"))] rfl ?_;refine⟨_,rfl,rfl,_,rfl,dF (sne (by ac_nf)) ⟨_,rfl,rfl,_,rfl,dF (sne (by ac_nf)) ?_⟩⟩;refine⟨_,rfl,five,λtt ntt=>⟨tt,_,rfl,.inr (WX.of Ac),rfl,rfl,_,rfl,bF (by ac_nf) ?_⟩⟩;have s0:=Ap ntt (.tup [.str (Str.ofString "always"),.str (Str.ofString "cause"),.str (Str.ofString "thing"),.str (Str.ofString "days"),.str (Str.ofString "over")]);have rd0:WW Af (upd H tt (.tup [.str (Str.ofString "always"),.str (Str.ofString "cause"),.str (Str.ofString "thing"),.str (Str.ofString "days"),.str (Str.ofString "over")])) r rw pl dp row:=⟨⟨dx,s0 _ _ hr'⟩,s0 _ _ hw,hpl,h60⟩;refine⟨_,rfl,r,dx,_,rfl,s0 _ _ hr',rfl,r,rw,pl,_,row,rfl,rd0,lt,λH1 k01 rd1=>?_⟩;have k1:=(Kb.of s0).trans k01;have rd1':=rd1;obtain⟨⟨dx1,hr1⟩,hw1,hpl1,_⟩:=rd1;refine⟨_,rfl,rfl,_,rfl,dF (sne (by ac_nf)) ?_⟩;refine⟨_,rfl,rfl,_,rfl,dF (sne (by ac_nf)) ?_⟩;obtain⟨a0,ab,b1⟩:=ok;have e1:row[pl+1]?=some (tx (Ce a.toNat)):=Di (xs:=tx (Ce a.toNat)::tx (Ce b.toNat)::post) (by rw[<- zBi,dr];rfl);have e2:row[pl+1+1]?=some (tx (Ce b.toNat)):=Di (xs:=tx (Ce b.toNat)::post) (by rw[<- zBi,<- zBi,dr];rfl);refine⟨_,rfl,rfl,_,rfl,dT rfl ⟨_,rfl,r,dx1,_,rfl,hr1,rfl,r,rw,pl+1,dp,row,a.toNat,b.toNat,rfl,rd1',e1,e2,by lia,by lia,λu H2 k2 rd2 cd=>?_⟩⟩;rw[show ((a.toNat:Nat):Int)=a by lia,show ((b.toNat:Nat):Int)=b by lia] at cd
   exact q u H2 (k1.trans k2) rd2 (cd.same (k1.later hr1))
  |ovr c=>
   have e0:row[pl]?=some (Str.ofString "over"):=Di dr;have lt:pl+1<=row.length:=Kz dr;rw[Ev e0];refine Hu [some (.ref r),some (.str (Str.ofString "over"))] rfl ?_;refine⟨_,rfl,rfl,_,rfl,dF (sne (by ac_nf)) ⟨_,rfl,rfl,_,rfl,dF (sne (by ac_nf)) ?_⟩⟩;refine⟨_,rfl,five,λtt ntt=>⟨tt,_,rfl,.inr (WX.of Ac),rfl,rfl,_,rfl,bF (by ac_nf) ?_⟩⟩;have s0:=Ap ntt (.tup [.str (Str.ofString "always"),.str (Str.ofString "cause"),.str (Str.ofString "thing"),.str (Str.ofString "days"),.str (Str.ofString "over")]);have rd0:WW Af (upd H tt (.tup [.str (Str.ofString "always"),.str (Str.ofString "cause"),.str (Str.ofString "thing"),.str (Str.ofString "days"),.str (Str.ofString "over")])) r rw pl dp row:=⟨⟨dx,s0 _ _ hr'⟩,s0 _ _ hw,hpl,h60⟩;refine⟨_,rfl,r,dx,_,rfl,s0 _ _ hr',rfl,r,rw,pl,_,row,rfl,rd0,lt,λH1 k01 rd1=>?_⟩;have k1:=(Kb.of s0).trans k01;have rd1':=rd1;obtain⟨⟨dx1,hr1⟩,hw1,hpl1,_⟩:=rd1;refine⟨_,rfl,rfl,_,rfl,dF (sne (by ac_nf)) ?_⟩;refine⟨_,rfl,rfl,_,rfl,dF (sne (by ac_nf)) ?_⟩;refine⟨_,rfl,rfl,_,rfl,dF (sne (by ac_nf)) ?_⟩;obtain⟨c0,c1⟩:=ok;have e1:row[pl+1]?=some (tx (Dn c.toNat)):=Di (xs:=tx (Dn c.toNat)::post) (by rw[<- zBi,dr];rfl);refine⟨_,rfl,rfl,_,rfl,dT rfl ⟨_,rfl,r,dx1,_,rfl,hr1,rfl,r,rw,pl+1,dp,row,c.toNat,rfl,rd1',e1,by lia,λH2 k2 rd2 y dy ny nd ne=>⟨y,dy,_,rfl,Ac,rfl,?_⟩⟩⟩;rw[show ((c.toNat:Nat):Int)=c by lia];obtain⟨⟨dx2,hr2⟩,hw2,hpl2,_⟩:=rd2;have s3:WJ H2 (upd (upd (upd H2 dy (.own y)) y (.ins Ao dy [])) y (.ins Ao dy (Ca "cents" (.int c) []))):=Lu ny nd
   refine q _ _ (k1.trans (k2.trans (Kb.of s3))) ⟨⟨dx2,s3 _ _ hr2⟩,s3 _ _ hw2,hpl2,h60⟩ ?_;unfold WT;exact⟨y,dy,rfl,Nw.of ((k1.trans k2).free hr2 ny) Ac⟩
def Pm:Bc ["self","pieces"] ["self"] (Av Hd):=by injections
def Pg {f:Addr} {fd:zCh} (F:WV K "read_row" "Reader.read_row" Hd f fd) (T:Txt K mg) (L:Kl K mg Ab Ae Ad Ah Ao Ax Ay Am Al Ba An Aq Bb As Bd Af Aw) {m:Nat} (Mgoes_on:Ec P w K mg base 2 Af "goes_on" ["self","between","so_far"] (LR Af)) (Mread_piece:Ec P w K mg base (5*m+6) Af "read_piece" ["self"] (MB (A8.mk Ab Ae Ad Ah Ao Ax Ay Am) Af m)) (KAll:Gb P w K mg base 1 "All" Ay ["self","several"] (Zg Ay)):WN P w K mg base Do (5*m+7) f fd ["self"] (RA (A8.mk Ab Ae Ad Ah Ao Ax Ay Am) Af m):=by
 have sc:=Pm;bv_omega
 .obtain⟨_,_,_,_,_,_,_,_,_,rfl,_⟩:=h
  rfl
 obtain⟨r,rw,pl,dp,row,ws,post,t,d,rfl,rd,dr,sp,dm,d6,hq,q⟩:=h;refine⟨_,(Ai (Bn (i:=1) sc.nd rfl (Or.inl rfl) (Cb (Aa (Cg Mread_piece (hr.mono (by lia)) (pv 0)) Ag)))
   (Ai (S9 PassesOwn.never (Dc (Nm Mgoes_on (hr.mono (by lia)) (pv 0) (Aa Bg (Aa (Bq Bp rfl T.n_len (show zCg _=some (.builtin "len") from rfl) (Aa (pv 1) Ag)) Ag))))
    (Aj (Bz (Dy PySem.F.plainAttrs_list PySem.F.slot_list_append PySem.F.type_list_append Cj (pv 1) (Aa (Cg Mread_piece (hr.mono (by lia)) (pv 0)) Ag)))))
   (Aj (Bh (Iz (Bf Db (Bq Bp rfl T.n_len (show zCg _=some (.builtin "len") from rfl) (Aa (pv 1) Ag)) Ar (Bk _)) (Cc Bt (pv 1) Ar (λ_ _=>rfl)) (Ed KAll (hr.mono (by lia)) rfl (Aa (pv 1) Ag))))))),?_⟩
 have rd':=rd;obtain⟨⟨dx,hr'⟩,hw,hpl,h60⟩:=rd;have one:1<=sizeLine:=by rw[zCf];decide
 obtain⟨wss,ts,spl,ew,l1,l8,et⟩:∃ wss ts,Spls Bi Em 0 wss ts d/\ws=Dd (Str.ofString "and") wss/\1<=ts.length/\ts.length<=8/\((ts.length=1/\ts[0]?=some t)\/(2<=ts.length/\t=.al ts)):=by
  cases sp with
  |row1 h=>exact⟨[ws],[t],.cons h (zAn _) .nil,(zAI _).symm,zAn _,(by show 1<=8;decide),.inl ⟨rfl,rfl⟩⟩
  |rowN h h2 h8=>exact⟨_,_,h,rfl,by lia,h8,.inr ⟨h2,rfl⟩⟩
 subst ew;have lw:=spl.len;have at0':ts[0]?=some (ts[0]'(by lia)):=zAg _;obtain⟨w0,d0,ew0,hd0,sp0⟩:=spl.get at0';generalize ts[0]'(by lia)=t0 at at0' sp0;have ws0:∃ rest,wss=w0::rest:=by
  cases wss with
  |nil=>simp at ew0
  |cons v vs=>exact⟨vs,by simp at ew0;rw[ew0]⟩
 obtain⟨rest,rfl⟩:=ws0;have ts0:∃ trest,ts=t0::trest:=by
  cases ts with
  |nil=>simp at at0'
  |cons v vs=>exact⟨vs,by simp at at0';rw[at0']⟩
 obtain⟨trest,rfl⟩:=ts0;rw[Dd,zAA] at dr;have hdp:∀ (xs:List (List Str)),(Cr (Str.ofString "and") xs++post).head?≠some (Str.ofString "and")\/0=0:=λxs=>by
  exact .inr rfl
 refine⟨_,rfl,r,dx,_,rfl,hr',rfl,r,rw,pl,dp,row,w0,Cr (Str.ofString "and") rest++post,t0,d0,rfl,rd',dr,sp0,by lia,by lia,λu0 H1 k1 rd1 cd1=>⟨one,λpc npc=>?_⟩⟩;obtain⟨⟨dx1,hr1⟩,hw1,hpl1,_⟩:=rd1;have s2:=Ap npc (.lst [u0]);refine Hu [some (.ref r),some (.ref pc)] rfl ?_;have pcH:H pc=none:=k1.free hr1 npc;have npr:pc≠r:=λz=>by rw[z,hr'] at pcH;cases pcH
 let W:Nat->St->Hp->Prop:=λm σ H2=>∃ i ys,m=rest.length-i/\i<=rest.length/\σ=[some (.ref r),some (.ref pc)]/\Kb r H H2/\WW Af H2 r rw (pl+(w0++Cr (Str.ofString "and") (rest.take i)).length) dp row /\
  row.drop (pl+(w0++Cr (Str.ofString "and") (rest.take i)).length)=Cr (Str.ofString "and") (rest.drop i)++post/\H2 pc=some (.lst ys)/\ys.length=i+1/\CdsAt (A8.mk Ab Ae Ad Ah Ao Ax Ay Am) (XX pc (Nw H H2)) ys (t0::trest.take i)
 have lt:rest.length=trest.length:=by rw[zAe,zAe] at lw;lia
 refine⟨W,⟨_,0,[u0],rfl,zAB _,rfl,k1.trans (Kb.of s2),?_,?_,Ac,rfl,?_⟩,?_⟩
 .rw[zAU]
  show WW Af _ r rw (pl+(w0++[]).length) dp row;rw[zAI];exact⟨⟨dx1,s2 _ _ hr1⟩,s2 _ _ hw1,hpl1,h60⟩
 .rw[zAU,List.drop_zero]
  show row.drop (pl+(w0++[]).length)=_;rw[zAI];exact Kr dr
 .rw[zAU]
  unfold CdsAt;refine⟨cd1.same λb o e=>?_,by unfold CdsAt;trivial⟩;obtain⟨e0,e⟩:=Nw.at e;have n:b≠pc:=Ak e npc;exact XX.of n (Nw.of e0 (s2 _ _ e))
 rintro m' σ H2 ⟨i,ys,rfl,il,rfl,k2,rd2,dr2,hpc,ly,cds⟩;have rd2':=rd2;obtain⟨⟨dx2,hr2⟩,hw2,hpl2,_⟩:=rd2;have lys:((ys.length:Nat):Int)=(i:Int)+1:=by lia
 refine⟨_,rfl,r,dx2,_,rfl,hr2,rfl,_,rfl,pc,_,rfl,.inl (WL.of hpc),r,rw,_,dp,row,_,_,rfl,rd2',?_⟩;by_cases c:i<rest.length
 ·
  have ew:rest.drop i=rest[i]::rest.drop (i+1):=zBS c;have eti:trest[i]?=some (trest[i]'(by lia)):=zAg _;have ewi:rest[i]?=some rest[i]:=zAg c;obtain⟨wi,di,ewi',hdi,spi⟩:=spl.get (i:=i+1) (t:=trest[i]'(by lia)) (by simpa using eti);have ewi'':rest[i]=wi:=by
   have:rest[i]?=some wi:=by simpa using ewi'
   rw[ewi] at this;exact Option.some.inj this
  generalize trest[i]'(by lia)=ti at eti spi;rw[ewi''] at ew ewi;rw[ew,Cr,zAZ] at dr2;have e0:row[pl+(w0++Cr (Str.ofString "and") (rest.take i)).length]?=some (Str.ofString "and"):=Di dr2;refine .inr ⟨e0,by rw[zAe] at l8;lia,λH3 k3 rd3=>⟨_,rfl,?_⟩⟩;refine Kt ⟨λσ' H'=>W (rest.length-(i+1)) σ' H',λσ' H' h=>⟨_,by lia,h⟩,?_⟩;have k23:=k2.trans k3;have hpc3:=k3 _ _ hpc npr;have rd3':=rd3;obtain⟨⟨dx3,hr3⟩,hw3,hpl3,_⟩:=rd3;have dr3:row.drop (pl+(w0++Cr (Str.ofString "and") (rest.take i)).length+1)=wi++(Cr (Str.ofString "and") (rest.drop (i+1))++post):=by
   rw[<- zBi,dr2,zAA];rfl
  refine⟨_,rfl,.inl ⟨rfl,_,WL.of hpc3⟩,_,rfl,r,dx3,_,rfl,hr3,rfl,r,rw,_,dp,row,wi,Cr (Str.ofString "and") (rest.drop (i+1))++post,ti,di,rfl,rd3',dr3,spi,by lia,by lia,λu H4 k4 rd4 cd4=>?_⟩;have hpc4:=k4 _ _ hpc3 npr;obtain⟨⟨dx4,hr4⟩,hw4,hpl4,_⟩:=rd4;refine⟨pc,_,_,rfl,rfl,hpc4,by rw[zCf,ly];rw[zAe] at l8;lia,i+1,ys++[u],rfl,c,rfl,?_,?_,?_,Ac,by rw[zAc,ly];rfl,?_⟩
  .exact λb o e n=>by
    rw[Au (Ak e pcH)];exact (k23.trans k4) b o e n
  .have en:pl+(w0++Cr (Str.ofString "and") (rest.take (i+1))).length=pl+(w0++Cr (Str.ofString "and") (rest.take i)).length+1+wi.length:=by
    rw[Bv ewi,Je,zAc,zAc,zAc,zAe];lia
   rw[en];have nrw:rw≠pc:=Ak hw pcH;exact⟨⟨dx4,by rw[Au npr.symm];exact hr4⟩,by rw[Au nrw];exact hw4,hpl4,h60⟩
  .have en:pl+(w0++Cr (Str.ofString "and") (rest.take (i+1))).length=pl+(w0++Cr (Str.ofString "and") (rest.take i)).length+1+wi.length:=by
    rw[Bv ewi,Je,zAc,zAc,zAc,zAe];lia
   rw[en];exact Kr dr3
  .rw[Bv eti,<- zAZ]
   refine CdsAt.snoc (cds.same λb o e=>?_) (cd4.same λb o e=>?_)
   .obtain⟨n,e⟩:=XX.at e
    obtain⟨e0',e⟩:=Nw.at e;refine XX.of n (Nw.of e0' ?_);rw[Au n];have nr:b≠r:=λz=>by rw[z,hr'] at e0';cases e0'
    exact (k3.trans k4) b o e nr
   .have e1:=k23.later hr3 (H2:=H4) b o e
    obtain⟨e0',e2⟩:=Nw.at e1;have n:b≠pc:=λz=>by
     obtain⟨e3,_⟩:=Nw.at e;rw[z,hpc3] at e3;cases e3
    exact XX.of n (Nw.of e0' (by rw[Au n];exact e2))
 ·
  have ei:i=rest.length:=by lia
  subst ei;rw[List.drop_length,zAt] at *;refine .inl ⟨T7 dr2 hq (by ac_nf),_,rfl,Ep ?_⟩;rw[show trest.take rest.length=trest by rw[lt,zAt]] at cds;have ew:Dd (Str.ofString "and") (w0::rest)=w0++Cr (Str.ofString "and") rest:=rfl;rw[ew] at q;have cds2:CdsAt (A8.mk Ab Ae Ad Ah Ao Ax Ay Am) (Nw H H2) ys (t0::trest):=cds.same λb o e=>(XX.at e).2;rcases et with ⟨n1,et⟩|⟨n2,rfl⟩
  .have y1:ys.length=1:=by rw[zAe] at n1;lia
   refine⟨_,rfl,pc,_,rfl,.inl (WL.of hpc),rfl,_,rfl,dT (by rw[y1];rfl) ?_⟩;have ey:ys[0]?=some (ys[0]'(by lia)):=zAg _;obtain⟨t',et',cdt⟩:=cds2.get ey;rw[et] at et';cases et';exact⟨_,rfl,pc,_,_,_,rfl,rfl,WL.of hpc,Fd (j:=0) ey,q _ _ k2 rd2' cdt⟩
  .have y2:ys.length≠1:=by rw[zAe] at n2;lia
   refine⟨_,rfl,pc,_,rfl,.inl (WL.of hpc),rfl,_,rfl,dF (λz=>y2 (by have:=V.int.inj z;lia)) ⟨_,rfl,λy dy ny nd ne=>?_⟩⟩;have s3:WJ H2 (upd (upd H2 dy (.own y)) y (.ins Ay dy [])):=Kj ny nd;refine⟨y,dy,pc,ys,rfl,Ac,s3 _ _ hpc,λl H4 nl kp hy hl=>⟨rfl,?_⟩⟩;have k4:WJ H2 H4:=λb o e=>by rw[kp b (Ak e ny) (Ak (s3 _ _ e) nl)];exact s3 _ _ e
   refine q _ _ (k2.trans (Kb.of k4)) ⟨⟨dx2,k4 _ _ hr2⟩,k4 _ _ hw2,hpl2,h60⟩ ?_;unfold WT;exact⟨y,dy,l,ys,rfl,Nw.of (k2.free hr2 ny) hy,Nw.of (k2.free hr2 (s3.free nl)) hl,cds2.same (Nw.grow λb o _ e=>k4 _ _ e)⟩
def Oj:Bc ["self","rows"] ["self"] (Av Ga):=by injections
def Ot {f:Addr} {fd:zCh} (F:WV K "read_rows" "Reader.read_rows" Ga f fd) (T:Txt K mg) (L:Kl K mg Ab Ae Ad Ah Ao Ax Ay Am Al Ba An Aq Bb As Bd Af Aw) {m:Nat} (Mgoes_on:Ec P w K mg base 2 Af "goes_on" ["self","between","so_far"] (LR Af)) (Mread_row:Ec P w K mg base (5*m+7) Af "read_row" ["self"] (RA (A8.mk Ab Ae Ad Ah Ao Ax Ay Am) Af m)) (KSome:Gb P w K mg base 1 "Some" Am ["self","several"] (Zg Am)):WN P w K mg base Do (5*m+8) f fd ["self"] (Zi (A8.mk Ab Ae Ad Ah Ao Ax Ay Am) Af m):=by
 have sc:=Oj;bv_omega
 .obtain⟨_,_,_,_,_,_,_,_,_,rfl,_⟩:=h
  rfl
 obtain⟨r,rw,pl,dp,row,ws,post,t,d,rfl,rd,dr,sp,dm,d6,ha,hq,q⟩:=h;refine⟨_,(Ai (Bn (i:=1) sc.nd rfl (Or.inl rfl) (Cb (Aa (Cg Mread_row (hr.mono (by lia)) (pv 0)) Ag)))
   (Ai (S9 PassesOwn.never (Dc (Nm Mgoes_on (hr.mono (by lia)) (pv 0) (Aa Bg (Aa (Bq Bp rfl T.n_len (show zCg _=some (.builtin "len") from rfl) (Aa (pv 1) Ag)) Ag))))
    (Aj (Bz (Dy PySem.F.plainAttrs_list PySem.F.slot_list_append PySem.F.type_list_append Cj (pv 1) (Aa (Cg Mread_row (hr.mono (by lia)) (pv 0)) Ag)))))
   (Aj (Bh (Iz (Bf Db (Bq Bp rfl T.n_len (show zCg _=some (.builtin "len") from rfl) (Aa (pv 1) Ag)) Ar (Bk _)) (Cc Bt (pv 1) Ar (λ_ _=>rfl)) (Ed KSome (hr.mono (by lia)) rfl (Aa (pv 1) Ag))))))),?_⟩
 have rd':=rd;obtain⟨⟨dx,hr'⟩,hw,hpl,h60⟩:=rd;have one:1<=sizeLine:=by rw[zCf];decide
 obtain⟨wss,ts,spl,ew,l1,l8,et⟩:∃ wss ts,Spls Bi Em 1 wss ts d/\ws=Dd (Str.ofString "or") wss/\1<=ts.length/\ts.length<=8/\((ts.length=1/\ts[0]?=some t)\/(2<=ts.length/\t=.so ts)):=by
  cases sp with
  |rows1 h=>exact⟨[ws],[t],.cons h (zAn _) .nil,(zAI _).symm,zAn _,(by show 1<=8;decide),.inl ⟨rfl,rfl⟩⟩
  |rowsN h h2 h8=>exact⟨_,_,h,rfl,by lia,h8,.inr ⟨h2,rfl⟩⟩
 subst ew;have lw:=spl.len;have at0':ts[0]?=some (ts[0]'(by lia)):=zAg _;obtain⟨w0,d0,ew0,hd0,sp0⟩:=spl.get at0';generalize ts[0]'(by lia)=t0 at at0' sp0;have ws0:∃ rest,wss=w0::rest:=by
  cases wss with
  |nil=>simp at ew0
  |cons v vs=>exact⟨vs,by simp at ew0;rw[ew0]⟩
 obtain⟨rest,rfl⟩:=ws0;have ts0:∃ trest,ts=t0::trest:=by
  cases ts with
  |nil=>simp at at0'
  |cons v vs=>exact⟨vs,by simp at at0';rw[at0']⟩
 obtain⟨trest,rfl⟩:=ts0;rw[Dd,zAA] at dr;have hdp:∀ (xs:List (List Str)),(Cr (Str.ofString "or") xs++post).head?≠some (Str.ofString "and")\/1=0:=λxs=>by
  cases xs with
  |nil=>exact .inl ha
  |cons x xs=>exact .inl (λz=>absurd (Option.some.inj z) (by ac_nf))
 refine⟨_,rfl,r,dx,_,rfl,hr',rfl,r,rw,pl,dp,row,w0,Cr (Str.ofString "or") rest++post,t0,d0,rfl,rd',dr,sp0,by lia,by lia,(by rcases hdp rest with h|h;exact h;exact absurd h (by decide)),λu0 H1 k1 rd1 cd1=>⟨one,λpc npc=>?_⟩⟩;obtain⟨⟨dx1,hr1⟩,hw1,hpl1,_⟩:=rd1;have s2:=Ap npc (.lst [u0]);refine Hu [some (.ref r),some (.ref pc)] rfl ?_;have pcH:H pc=none:=k1.free hr1 npc;have npr:pc≠r:=λz=>by rw[z,hr'] at pcH;cases pcH
 let W:Nat->St->Hp->Prop:=λm σ H2=>∃ i ys,m=rest.length-i/\i<=rest.length/\σ=[some (.ref r),some (.ref pc)]/\Kb r H H2/\WW Af H2 r rw (pl+(w0++Cr (Str.ofString "or") (rest.take i)).length) dp row /\
  row.drop (pl+(w0++Cr (Str.ofString "or") (rest.take i)).length)=Cr (Str.ofString "or") (rest.drop i)++post/\H2 pc=some (.lst ys)/\ys.length=i+1/\CdsAt (A8.mk Ab Ae Ad Ah Ao Ax Ay Am) (XX pc (Nw H H2)) ys (t0::trest.take i)
 have lt:rest.length=trest.length:=by rw[zAe,zAe] at lw;lia
 refine⟨W,⟨_,0,[u0],rfl,zAB _,rfl,k1.trans (Kb.of s2),?_,?_,Ac,rfl,?_⟩,?_⟩
 .rw[zAU]
  show WW Af _ r rw (pl+(w0++[]).length) dp row;rw[zAI];exact⟨⟨dx1,s2 _ _ hr1⟩,s2 _ _ hw1,hpl1,h60⟩
 .rw[zAU,List.drop_zero]
  show row.drop (pl+(w0++[]).length)=_;rw[zAI];exact Kr dr
 .rw[zAU]
  unfold CdsAt;refine⟨cd1.same λb o e=>?_,by unfold CdsAt;trivial⟩;obtain⟨e0,e⟩:=Nw.at e;have n:b≠pc:=Ak e npc;exact XX.of n (Nw.of e0 (s2 _ _ e))
 rintro m' σ H2 ⟨i,ys,rfl,il,rfl,k2,rd2,dr2,hpc,ly,cds⟩;have rd2':=rd2;obtain⟨⟨dx2,hr2⟩,hw2,hpl2,_⟩:=rd2;have lys:((ys.length:Nat):Int)=(i:Int)+1:=by lia
 refine⟨_,rfl,r,dx2,_,rfl,hr2,rfl,_,rfl,pc,_,rfl,.inl (WL.of hpc),r,rw,_,dp,row,_,_,rfl,rd2',?_⟩;by_cases c:i<rest.length
 ·
  have ew:rest.drop i=rest[i]::rest.drop (i+1):=zBS c;have eti:trest[i]?=some (trest[i]'(by lia)):=zAg _;have ewi:rest[i]?=some rest[i]:=zAg c;obtain⟨wi,di,ewi',hdi,spi⟩:=spl.get (i:=i+1) (t:=trest[i]'(by lia)) (by simpa using eti);have ewi'':rest[i]=wi:=by
   have:rest[i]?=some wi:=by simpa using ewi'
   rw[ewi] at this;exact Option.some.inj this
  generalize trest[i]'(by lia)=ti at eti spi;rw[ewi''] at ew ewi;rw[ew,Cr,zAZ] at dr2;have e0:row[pl+(w0++Cr (Str.ofString "or") (rest.take i)).length]?=some (Str.ofString "or"):=Di dr2;refine .inr ⟨e0,by rw[zAe] at l8;lia,λH3 k3 rd3=>⟨_,rfl,?_⟩⟩;refine Kt ⟨λσ' H'=>W (rest.length-(i+1)) σ' H',λσ' H' h=>⟨_,by lia,h⟩,?_⟩;have k23:=k2.trans k3;have hpc3:=k3 _ _ hpc npr;have rd3':=rd3;obtain⟨⟨dx3,hr3⟩,hw3,hpl3,_⟩:=rd3;have dr3:row.drop (pl+(w0++Cr (Str.ofString "or") (rest.take i)).length+1)=wi++(Cr (Str.ofString "or") (rest.drop (i+1))++post):=by
   rw[<- zBi,dr2,zAA];rfl
  refine⟨_,rfl,.inl ⟨rfl,_,WL.of hpc3⟩,_,rfl,r,dx3,_,rfl,hr3,rfl,r,rw,_,dp,row,wi,Cr (Str.ofString "or") (rest.drop (i+1))++post,ti,di,rfl,rd3',dr3,spi,by lia,by lia,(by rcases hdp (rest.drop (i+1)) with h|h;exact h;exact absurd h (by decide)),λu H4 k4 rd4 cd4=>?_⟩;have hpc4:=k4 _ _ hpc3 npr;obtain⟨⟨dx4,hr4⟩,hw4,hpl4,_⟩:=rd4;refine⟨pc,_,_,rfl,rfl,hpc4,by rw[zCf,ly];rw[zAe] at l8;lia,i+1,ys++[u],rfl,c,rfl,?_,?_,?_,Ac,by rw[zAc,ly];rfl,?_⟩
  .exact λb o e n=>by
    rw[Au (Ak e pcH)];exact (k23.trans k4) b o e n
  .have en:pl+(w0++Cr (Str.ofString "or") (rest.take (i+1))).length=pl+(w0++Cr (Str.ofString "or") (rest.take i)).length+1+wi.length:=by
    rw[Bv ewi,Je,zAc,zAc,zAc,zAe];lia
   rw[en];have nrw:rw≠pc:=Ak hw pcH;exact⟨⟨dx4,by rw[Au npr.symm];exact hr4⟩,by rw[Au nrw];exact hw4,hpl4,h60⟩
  .have en:pl+(w0++Cr (Str.ofString "or") (rest.take (i+1))).length=pl+(w0++Cr (Str.ofString "or") (rest.take i)).length+1+wi.length:=by
    rw[Bv ewi,Je,zAc,zAc,zAc,zAe];lia
   rw[en];exact Kr dr3
  .rw[Bv eti,<- zAZ]
   refine CdsAt.snoc (cds.same λb o e=>?_) (cd4.same λb o e=>?_)
   .obtain⟨n,e⟩:=XX.at e
    obtain⟨e0',e⟩:=Nw.at e;refine XX.of n (Nw.of e0' ?_);rw[Au n];have nr:b≠r:=λz=>by rw[z,hr'] at e0';cases e0'
    exact (k3.trans k4) b o e nr
   .have e1:=k23.later hr3 (H2:=H4) b o e
    obtain⟨e0',e2⟩:=Nw.at e1;have n:b≠pc:=λz=>by
     obtain⟨e3,_⟩:=Nw.at e;rw[z,hpc3] at e3;cases e3
    exact XX.of n (Nw.of e0' (by rw[Au n];exact e2))
 ·
  have ei:i=rest.length:=by lia
  subst ei;rw[List.drop_length,zAt] at *;refine .inl ⟨T7 dr2 hq (by ac_nf),_,rfl,Ep ?_⟩;rw[show trest.take rest.length=trest by rw[lt,zAt]] at cds;have ew:Dd (Str.ofString "or") (w0::rest)=w0++Cr (Str.ofString "or") rest:=rfl;rw[ew] at q;have cds2:CdsAt (A8.mk Ab Ae Ad Ah Ao Ax Ay Am) (Nw H H2) ys (t0::trest):=cds.same λb o e=>(XX.at e).2;rcases et with ⟨n1,et⟩|⟨n2,rfl⟩
  .have y1:ys.length=1:=by rw[zAe] at n1;lia
   refine⟨_,rfl,pc,_,rfl,.inl (WL.of hpc),rfl,_,rfl,dT (by rw[y1];rfl) ?_⟩;have ey:ys[0]?=some (ys[0]'(by lia)):=zAg _;obtain⟨t',et',cdt⟩:=cds2.get ey;rw[et] at et';cases et';exact⟨_,rfl,pc,_,_,_,rfl,rfl,WL.of hpc,Fd (j:=0) ey,q _ _ k2 rd2' cdt⟩
  .have y2:ys.length≠1:=by rw[zAe] at n2;lia
   refine⟨_,rfl,pc,_,rfl,.inl (WL.of hpc),rfl,_,rfl,dF (λz=>y2 (by have:=V.int.inj z;lia)) ⟨_,rfl,λy dy ny nd ne=>?_⟩⟩;have s3:WJ H2 (upd (upd H2 dy (.own y)) y (.ins Am dy [])):=Kj ny nd;refine⟨y,dy,pc,ys,rfl,Ac,s3 _ _ hpc,λl H4 nl kp hy hl=>⟨rfl,?_⟩⟩;have k4:WJ H2 H4:=λb o e=>by rw[kp b (Ak e ny) (Ak (s3 _ _ e) nl)];exact s3 _ _ e
   refine q _ _ (k2.trans (Kb.of k4)) ⟨⟨dx2,k4 _ _ hr2⟩,k4 _ _ hw2,hpl2,h60⟩ ?_;unfold WT;exact⟨y,dy,l,ys,rfl,Nw.of (k2.free hr2 ny) hy,Nw.of (k2.free hr2 (s3.free nl)) hl,cds2.same (Nw.grow λb o _ e=>k4 _ _ e)⟩
end
def BH (w:Str):Prop:=32∉w.cps.toList/\w.length<=100
def QR (c:Co) (h:Em c):∀ w∈Bi c,BH w:=by
 intro w hw;have nm:∀ {n:Str},X0 n->BH n:=λ{n} ⟨l,e,hl⟩=>by
  subst e;exact⟨λz=>by have:=hl.2 32 z;unfold Hk at this;lia,by rw[Ci];have:=hl.1.2;lia⟩
 have fg:∀ {n:Nat},n<=1000000->BH (tx (Ce n)):=λ{n} hn=>⟨λz=>by have:=Fx n 32 z;lia,by rw[Ci];have:(Ce n).length<=7:=Dk (by decide) (Ln hn);lia⟩;cases c with
 |alw=>simp [Bi] at hw;subst hw;exact⟨by ac_nf,by ac_nf⟩
 |cau n=>
  simp [Bi] at hw;rcases hw with rfl|rfl
  .exact⟨by ac_nf,by ac_nf⟩
  .exact nm h
 |thi n=>
  simp [Bi] at hw;rcases hw with rfl|rfl
  .exact⟨by ac_nf,by ac_nf⟩
  .exact nm h
 |day a b=>
  simp [Bi] at hw;obtain⟨a0,ab,b1⟩:=h;rcases hw with rfl|rfl|rfl
  .exact⟨by ac_nf,by ac_nf⟩
  .exact fg (by lia)
  .exact fg (by lia)
 |ovr m=>
  simp [Bi] at hw;obtain⟨m0,m1⟩:=h;rcases hw with rfl|rfl
  .exact⟨by ac_nf,by ac_nf⟩
  .refine⟨λz=>?_,?_⟩
   .have z:32∈Dn m.toNat:=z
    unfold Dn at z;rcases zAF.mp z with z|z
    .have:=Fx _ 32 z;lia
    .simp at z;lia
   .rw[Ci,Ko]
    have:(Ce (m.toNat/100)).length<=10:=Dk (by decide) (by lia)
    lia
def Lx {t:Dw} (h:Eo Em t):∀ w∈Bo Bi t,BH w:=Tr QR ⟨by ac_nf,by ac_nf⟩ ⟨by ac_nf,by ac_nf⟩ ⟨by ac_nf,by ac_nf⟩ ⟨by ac_nf,by ac_nf⟩ ⟨by ac_nf,by ac_nf⟩ t h
theorem O2:∀ {ws:List Str},ws≠[]->(∀ w∈ws,32∉w.cps.toList)->Ip 32 (Str.join (Str.ofString " ") ws).cps.toList=ws.map λw=>w.cps.toList
 |[],h,_=>absurd rfl h
 |[w],_,h=>by
  show Ip 32 w.cps.toList=[w.cps.toList];exact Jd (h w zAk)
 |w::v::ws,_,h=>by
  have ih:=O2 (ws:=v::ws) (by simp) λx hx=>h x (zAi _ hx);have e:(Str.join (Str.ofString " ") (w::v::ws)).cps.toList=w.cps.toList++32::(Str.join (Str.ofString " ") (v::ws)).cps.toList:=by
   show (w.cps++(Str.ofString " ").cps++(Str.join (Str.ofString " ") (v::ws)).cps).toList=_;have eb:(Str.ofString " ").cps.toList=[32]:=by ac_nf
   rw[Array.toList_append,Array.toList_append,eb,zAA];rfl
  rw[e,Oc _ (h w zAk),ih];rfl
def Ll {ws:List Str} (h0:ws≠[]) (h:∀ w∈ws,BH w):Txt.split (Str.join (Str.ofString " ") ws) (Str.ofString " ")=ws:=by
 have eb:Str.ofString " "=tx [32]:=by ac_nf
 have e:=Ub (Str.join (Str.ofString " ") ws).cps.toList 32;rw[Uh,<- eb,O2 h0 λw hw=>(h w hw).1,zBk] at e;rw[e];have:(tx ∘ λw:Str=>w.cps.toList)=id:=by funext w;exact Uh w
 rw[this,List.map_id]
inductive FT (κ:A8) (vs:List V) (H:Hp) (Q:VK):Prop
 |mk (u:_) (t:_) (z0:vs=[u]) (z1:WT κ H u t) (z2:Ki t<66) (z3:Eo Em t) (z4:(Bo Bi t).length<=60) (z5:∀ H',WJ H H'->Q (.str (Str.join (Str.ofString " ") (Bo Bi t))) H'):FT κ vs H Q
def CG (κ:A8):Sp:=λvs H Q _=>FT κ vs H Q
inductive R1 (C:Addr) (vs:List V) (H:Hp) (Q:VK):Prop
 |mk (p:_) (dx:_) (rw:_) (z0:vs=[.ref p,.ref rw]) (z1:H p=some (.ins C dx [])) (z2:∀ H',(∀ b,b≠p->H' b=H b)->H' p=some (.ins C dx (Wi rw 0 0))->Q .non H'):R1 C vs H Q
def F4 (C:Addr):Sp:=λvs H Q _=>R1 C vs H Q
inductive NH (κ:A8) (vs:List V) (H:Hp) (Q:VK):Prop
 |mk (ws:_) (t:_) (d:_) (z0:vs=[.str (Str.join (Str.ofString " ") ws)]) (z1:ws≠[]) (z2:(∀ w∈ws,BH w)) (z3:ws.length<=60) (z4:Sr Bi Em 2 ws t d) (z5:d<=6) (z6:∀ u H',WJ H H'->WT κ (Nw H H') u t->Q u H'):NH κ vs H Q
def OF (κ:A8):Sp:=λvs H Q _=>NH κ vs H Q
def Jj {t:Dw} (h:Eo Em t):1<=(Bo Bi t).length:=by
 have h1:=Of (wc:=Bi) (λc _=>Xf c) t h;have h2:=JH t h
 lia
def Po {t:Dw} (h:Eo Em t) (m:Int):1<=(Jn Bi m t).length:=by
 have:=Jj h;unfold Jn
 split
 .rw[zAe];lia
 .exact this
section
seal L2.PS L2.PSs L2.PE L2.PA
variable {P:Program} {w:World} {K:zAb} {mg:Str->Option Value} {base:Heap} {Ab Ae Ad Ah Ao Ax Ay Am Al Ba An Aq Bb As Bd Af Aw:Addr}
def Qx:Bc ["condition"] ["condition"] (Av Hl):=by injections
def Qz {f:Addr} {fd:zCh} (F:WV K "show_condition" "show_condition" Hl f fd) (L:Kl K mg Ab Ae Ad Ah Ao Ax Ay Am Al Ba An Aq Bb As Bd Af Aw) (Mwords:E5 P w K mg base 200 (A8.Fam (A8.mk Ab Ae Ad Ah Ao Ax Ay Am)) "words" ["self"] (Fy (A8.mk Ab Ae Ad Ah Ao Ax Ay Am) 66)):WN P w K mg base Do 201 f fd ["condition"] (CG (A8.mk Ab Ae Ad Ah Ao Ax Ay Am)):=by
 have sc:=Qx;bv_omega
 .obtain⟨_,_,rfl,_⟩:=h
  rfl
 obtain⟨u,t,rfl,cd,hg,ok,hm,q⟩:=h;obtain⟨pu,du,fu,rfl,ob,_,_,nw,_⟩:=cd.obj;have l1:=Jj ok;refine⟨_,(Aj (Bh (Ka (K:=K) rfl PySem.F.plainAttrs_str PySem.F.slot_str_join PySem.F.type_str_join (Ix (K:=K) rfl) Bg (Aa (Iv Mwords (hr.mono (by decide)) (pv 0)) Ag)))),?_⟩;exact⟨rfl,_,rfl,pu,_,du,fu,rfl,ob,A8.fam _ t,nw,pu,t,rfl,cd,rfl,hg,ok,hm,λl H' s' nl h'=>⟨_,l,Bo Bi t,rfl,rfl,.inl (WL.of h'),l1,by lia,by ac_nf,λy hy=>by have:=(Lx ok y hy).2;lia,q H' s'⟩⟩
def Ph:Bc ["self","row"] ["self","row"] (Av Gw):=by injections
def Pj {f:Addr} {fd:zCh} (F:WV K "__init__" "Reader.__init__" Gw f fd) (L:Kl K mg Ab Ae Ad Ah Ao Ax Ay Am Al Ba An Aq Bb As Bd Af Aw):WN P w K mg base Do 1 f fd ["self","row"] (F4 Af):=by
 have sc:=Ph;bv_omega
 .obtain⟨_,_,_,rfl,_⟩:=h
  rfl
 obtain⟨p,dx,rw,rfl,hp,q⟩:=h;refine⟨_,(Ai (Ct (pv 0) (pv 1) rfl)
   (Ai (Ct (pv 0) Ar rfl)
   (Aj (Ct (pv 0) Ar rfl)))),?_⟩
 refine⟨_,rfl,_,rfl,p,_,dx,_,rfl,hp,L.cl_Reader,L.na_Reader_row,(by show 0<1000;decide),?_⟩;refine⟨_,rfl,p,_,dx,_,rfl,Ac,L.cl_Reader,L.na_Reader_place,(by show 1<1000;decide),?_⟩;exact⟨_,rfl,p,_,dx,_,rfl,Ac,L.cl_Reader,L.na_Reader_depth,(by show 2<1000;decide),q _ (λb n=>by rw[Au n,Au n,Au n]) Ac⟩
def Rr:Bc ["text","row","reader","condition"] ["text"] (Av Hr):=by injections
def Rk {f:Addr} {fd:zCh} (F:WV K "read_condition" "read_condition" Hr f fd) (T:Txt K mg) (L:Kl K mg Ab Ae Ad Ah Ao Ax Ay Am Al Ba An Aq Bb As Bd Af Aw) (KReader:Gb P w K mg base 1 "Reader" Af ["self","row"] (F4 Af)) (Mread_rows:Ec P w K mg base (5*6+8) Af "read_rows" ["self"] (Zi (A8.mk Ab Ae Ad Ah Ao Ax Ay Am) Af 6)):WN P w K mg base Do 40 f fd ["text"] (OF (A8.mk Ab Ae Ad Ah Ao Ax Ay Am)):=by
 have sc:=Rr;bv_omega
 .obtain⟨_,_,_,rfl,_⟩:=h
  rfl
 obtain⟨ws,t,d,rfl,hne,okw,l60,sp,d6,q⟩:=h;refine⟨_,(Ai (Bu (Ee (Dc (Bq Dp rfl T.n_isinstance (show zCg _=some (.builtin "isinstance") from rfl) (Aa (pv 0) (Aa (Oy "str" rfl T.n_str rfl) Ag)))))
    (Aj Cf)
    Bj)
   (Ai (Bn (i:=1) sc.nd rfl (Or.inl rfl) (Dy PySem.F.plainAttrs_str PySem.F.slot_str_split PySem.F.type_str_split Xl (pv 0) (Aa Bg Ag)))
   (Ai (Bu (Bf Uk (Bq Bp rfl T.n_len (show zCg _=some (.builtin "len") from rfl) (Aa (pv 1) Ag)) (Dv T.g_MOST_WORDS rfl) (Bk _))
    (Aj Cf)
    Bj)
   (Ai (Bn (i:=2) sc.nd rfl (Or.inl rfl) (Ed KReader (hr.mono (by decide)) rfl (Aa (pv 1) Ag)))
   (Ai (Bn (i:=3) sc.nd rfl (Or.inl rfl) (Cg Mread_rows (hr.mono (by decide)) (pv 2)))
   (Ai (Bu (Bf Mb (Bx (pv 2) rfl) (Bq Bp rfl T.n_len (show zCg _=some (.builtin "len") from rfl) (Aa (pv 1) Ag)) (Bk _))
    (Aj Cf)
    Bj)
   (Aj (Bh (pv 3))))))))),?_⟩
 refine⟨_,rfl,_,_,_,_,_,rfl,Ow,.str _,AG,_,rfl,Ep ?_⟩;have jl:=Iu (z:=Str.ofString " ") (B:=100) (ps:=ws) λy hy=>(okw y hy).2;have e1:(Str.ofString " ").length=1:=by ac_nf
 rw[e1] at jl;have jl2:ws.length*(100+1)<=60*(100+1):=zBt _ l60;refine⟨_,rfl,rfl,_,_,rfl,rfl,by ac_nf,by rw[zCf];lia,λrw' nrw=>?_⟩;rw[Ll hne okw];have s1:=Ap nrw (.lst (ws.map V.str));have h1:upd H rw' (.lst (ws.map V.str)) rw'=some (.lst (ws.map V.str)):=Ac;have lm:(ws.map V.str).length=ws.length:=zAa _;generalize upd H rw' (.lst (ws.map V.str))=H1 at s1 h1;refine Hu [some (.str (Str.join (Str.ofString " ") ws)),some (.ref rw'),none,none] rfl ?_;refine⟨_,rfl,rw',_,rfl,.inl (WL.of h1),_,_,rfl,rfl,_,rfl,dF (by rw[lm];lia) ?_⟩;refine⟨_,rfl,λr dx nr nd ne=>⟨r,dx,rw',rfl,Ac,λH2 kp hr2=>⟨rfl,?_⟩⟩⟩;have s2:WJ H1 H2:=λb o e=>by
  have n1:=Ak e nr;rw[kp b n1,Au n1,Au (Ak e nd)];exact e
 refine Hu [some (.str (Str.join (Str.ofString " ") ws)),some (.ref rw'),some (.ref r),none] rfl ?_;have rd2:WW Af H2 r rw' 0 ((0:Nat):Int) ws:=⟨⟨dx,hr2⟩,s2 _ _ h1,zAB _,l60⟩;refine⟨_,rfl,r,dx,_,rfl,hr2,rfl,r,rw',0,0,ws,ws,[],t,d,rfl,rd2,(by rw[zAI];rfl),sp,d6,by lia,(by intro z;cases z),(by intro z;cases z),λu H3 k3 rd3 cd=>?_⟩;refine Hu [some (.str (Str.join (Str.ofString " ") ws)),some (.ref rw'),some (.ref r),some u] rfl ?_;obtain⟨⟨dx3,hr3⟩,hw3,hpl3,_⟩:=rd3;refine⟨_,rfl,r,_,dx3,_,_,rfl,hr3,L.cl_Reader,L.na_Reader_place,Sn _ _ _,_,rfl,rw',_,rfl,.inl (WL.of hw3),_,_,rfl,rfl,_,rfl,dF (by rw[lm];lia) ?_⟩;have rH:H r=none:=s1.free nr;have S:WJ H H3:=λb o e=>k3 b o (s2 _ _ (s1 _ _ e)) (Ak e rH);exact⟨_,rfl,q u H3 S (cd.same (Nw.later (s1.trans s2)))⟩
end
inductive Wu  (vs:List V) (H:Hp) (Q:VK):Prop
 |mk (a:_) (ws:_) (z0:vs=[.ref a]) (z1:H a=some (.lst (List.map V.int ws))) (z2:CR.GW ws) (z3:Q (.bl true) H):Wu  vs H Q
def Ud:Sp:=λvs H Q _=>Wu  vs H Q
inductive JT  (vs:List V) (H:Hp) (Q:VK):Prop
 |mk (w d T t:Int) (z0:vs=[.int w,.int d,.int T,.int t]) (z1:(0<=w/\w<=100)) (z2:(0<=T/\T<=100)) (z3:Q (.bl (decide (d*T<w*(t+1)))) H):JT  vs H Q
def FR:Sp:=λvs H Q _=>JT  vs H Q
inductive GQ  (vs:List V) (H:Hp) (Q:VK):Prop
 |mk (w d T:Int) (z0:vs=[.int w,.int d,.int T]) (z1:(1<=w/\w<=100)) (z2:(0<=T/\T<=100)) (z3:Q (.int (((d+1)*T+w-1)/w)) H):GQ  vs H Q
def JL:Sp:=λvs H Q _=>GQ  vs H Q
inductive R3  (vs:List V) (H:Hp) (Q:VK):Prop
 |mk (a:_) (b:_) (ws:_) (ds:_) (t:Nat) (z0:vs=[.ref a,.ref b,.int t]) (z1:H a=some (.lst (List.map V.int ws))) (z2:H b=some (.lst (List.map V.int ds))) (z3:CR.GW ws) (z4:ds.length=ws.length) (z5:ds.sum=t) (z6:∀ H',WJ H H'->Q (.int (CR.place ws ds t)) H'):R3  vs H Q
def C7:Sp:=λvs H Q _=>R3  vs H Q
inductive O0  (vs:List V) (H:Hp) (Q:VK):Prop
 |mk (a:_) (ws:_) (z0:vs=[.ref a]) (z1:H a=some (.lst (List.map V.int ws))) (z2:CR.GW ws) (z3:∀ r H',WJ H H'->H r=none->H' r=some (.lst (List.map V.int (CR.wheel ws)))->Q (.ref r) H'):O0  vs H Q
def A9:Sp:=λvs H Q _=>O0  vs H Q
section
variable {P:Program} {w:World} {K:zAb} {mg:Str->Option Value} {base:Heap}
def HY {ws:List Int} (g:CR.GW ws) {k:Int} (h0:0<=k) (h:k<ws.length):1<=ws.getD k.toNat 0/\ws.getD k.toNat 0<=100:=by
 have m:ws.getD k.toNat 0∈ws:=by
  rw[zAT,zAg (by lia)];exact zBn _
 refine⟨g.pos _ m,?_⟩;have aux:∀ (l:List Int) (x:Int),(∀ w∈l,1<=w)->x∈l->x<=l.sum:=by
  intro l x
  induction l with
  |nil=>intro _ h;cases h
  |cons y l ih=>
   intro hp hx;have nn:∀ l:List Int,(∀ w∈l,1<=w)->0<=l.sum:=by
    intro l
    induction l with
    |nil=>intro _;exact Int.le_refl 0
    |cons z l ih=>intro h;have:=h z zAk;have:=ih λw hw=>h w (zAi _ hw);rw[zBf];lia
   have h1:=hp y zAk;have hp':∀ w∈l,1<=w:=λw hw=>hp w (zAi _ hw);have h2:=nn l hp';rw[zBf];rcases zAj.mp hx with rfl|hx
   .lia
   .have:=ih hp' hx
    lia
 have:=aux ws _ g.pos m;have:=g.sum
 lia
def Vx:Bc ["thing","weight"] ["thing"] (Av Kc):=by injections
def Wz {f:Addr} {fd:zCh} (F:WV K "are_weights" "are_weights" Kc f fd) (T:Txt K mg) (Cis_whole:Cy P w K mg base 1 "is_whole" ["thing"] (Rt K)):WN P w K mg base Do 2 f fd ["thing"] Ud:=by
 have sc:=Vx;bv_omega
 .obtain⟨a,ws,rfl,_⟩:=h
  rfl
 obtain⟨a,ws,rfl,ha,g,q⟩:=h;refine⟨_,(Ai (Bu (Ee (Dc (Bq Dp rfl T.n_isinstance (show zCg _=some (.builtin "isinstance") from rfl) (Aa (pv 0) (Aa (Oy "list" rfl T.n_list rfl) Ag)))))
    (Aj (Bh Fn))
    Bj)
   (Ai (Bu (PW.pt (Fe (Bf Mb (Bq Bp rfl T.n_len (show zCg _=some (.builtin "len") from rfl) (Aa (pv 0) Ag)) Ar (Bk _)) (Et (Bf Uk (Bq Bp rfl T.n_len (show zCg _=some (.builtin "len") from rfl) (Aa (pv 0) Ag)) (Dv T.g_MOST_PLACES rfl) (Bk _)))))
    (Aj (Bh Fn))
    Bj)
   (Ai (El PassesOwn.never rfl (Dg (pv 0)) (Bl (i:=1) sc.nd rfl (Or.inl rfl))
    (Aj (Bu (PW.pt (Fe (Ee (Dc (Az Cis_whole (hr.mono (by decide)) rfl (Aa (pv 1) Ag)))) (Et (Bf Mb (pv 1) Ar (Bk _)))))
    (Aj (Bh Fn))
    Bj)))
   (Aj (Bh (Ku Ui (Bq (Xi rfl) rfl T.n_sum (show zCg _=some (.builtin "sum") from rfl) (Aa (pv 0) Ag)) (Dv T.g_MOST_TURNS rfl) (Bk _))))))),?_⟩
 have hl:(List.map V.int ws).length=ws.length:=zAa _;have g1:=g.lo;have g2:=g.hi;refine⟨_,rfl,_,_,_,_,_,rfl,Ow,.lst ha,Z8,_,rfl,?_⟩;refine Ep ?_;refine⟨_,rfl,a,_,rfl,.inl (WL.of ha),_,_,rfl,rfl,_,rfl,?_⟩;refine dF (by rw[hl];lia) ?_;refine⟨_,rfl,a,_,rfl,.inl (WL.of ha),_,_,rfl,rfl,_,rfl,?_⟩;refine dF (by rw[hl];lia) ?_;refine⟨_,rfl,a,rfl,⟨_,WL.of ha⟩,Nd (K:=K) (a:=a) (xs:=List.map V.int ws) (λi σ H2=>(∃ o,σ=[some (.ref a),o])/\H2=H) ⟨⟨none,rfl⟩,rfl⟩ (λi σ H2 _ ⟨_,e⟩=>by rw[e];exact WL.of ha) ?_ ?_⟩
 .rintro i y σ H2 hi ⟨⟨o,rfl⟩,rfl⟩
  obtain⟨n,hn,rfl⟩:=R9 hi;refine⟨_,rfl,_,_,rfl,.int n,_,rfl,?_⟩;refine Ep ?_;refine⟨_,rfl,_,_,rfl,rfl,_,rfl,?_⟩;have:=g.pos n (zAs hn);refine dF (by lia) ?_;exact⟨⟨_,rfl⟩,rfl⟩
 .rintro σ H2 ⟨⟨o,rfl⟩,rfl⟩
  refine⟨_,rfl,a,ws,rfl,WL.of ha,_,_,rfl,rfl,?_⟩;show Q (.bl (decide (ws.sum<=100))) H2;rw[decide_eq_true g.sum];exact q
def T4:Bc ["weight","dealt","total","turn"] ["weight","dealt","total","turn"] (Av Qj):=by injections
def Q7 {f:Addr} {fd:zCh} (F:WV K "may_have" "may_have" Qj f fd) (T:Txt K mg):WN P w K mg base Do 1 f fd ["weight","dealt","total","turn"] FR:=by
 have sc:=T4;bv_omega
 .obtain⟨_,_,_,_,rfl,_⟩:=h
  rfl
 obtain⟨v,d,t0,t,rfl,hw,ht,q⟩:=h;refine⟨_,(Aj (Bh (Ku Mb (Be Ho (pv 1) (pv 2)) (Be Ho (pv 0) (Be Da (pv 3) Ar)) (Bk _)))),?_⟩;refine⟨_,rfl,_,rfl,_,_,rfl,rfl,.inr ⟨by lia,by lia⟩,_,rfl,_,rfl,_,_,rfl,rfl,_,_,rfl,rfl,.inl ⟨by lia,by lia⟩,_,_,rfl,rfl,q⟩
def DY:Bc ["weight","dealt","total"] ["weight","dealt","total"] (Av Vp):=by injections
def DM {f:Addr} {fd:zCh} (F:WV K "due_by" "due_by" Vp f fd) (T:Txt K mg):WN P w K mg base Do 1 f fd ["weight","dealt","total"] JL:=by
 have sc:=DY;bv_omega
 .obtain⟨_,_,_,rfl,_⟩:=h
  rfl
 obtain⟨v,d,t0,rfl,hw,ht,q⟩:=h;refine⟨_,(Aj (Bh (Be Cm (Be A5 (Be Da (Be Ho (Be Da (pv 1) Ar) (pv 2)) (pv 0)) Ar) (pv 0)))),?_⟩;refine⟨_,rfl,_,_,rfl,rfl,_,rfl,_,_,rfl,rfl,.inr ⟨by lia,by lia⟩,_,rfl,_,_,rfl,rfl,_,_,rfl,rfl,_,rfl,_,_,rfl,rfl,⟨by lia,by lia⟩,q⟩
def Sv:Bc ["weights","dealt","turn","total","places","best","place"] ["weights","dealt","turn"] (Av Ij):=by injections
def Ta {f:Addr} {fd:zCh} (F:WV K "place_of_turn" "place_of_turn" Ij f fd) (T:Txt K mg) (Cmay_have:Cy P w K mg base 1 "may_have" ["weight","dealt","total","turn"] FR) (Cdue_by:Cy P w K mg base 1 "due_by" ["weight","dealt","total"] JL) :
  WN P w K mg base Do 2 f fd ["weights","dealt","turn"] C7:=by
 have sc:=Sv;bv_omega
 .obtain⟨_,_,_,_,_,rfl,_⟩:=h
  rfl
 obtain⟨a,b,ws,ds,t,rfl,ha,hb,g,hlen,hsum,q⟩:=h;refine⟨_,(Ai (Bn (i:=3) sc.nd rfl (Or.inr rfl) (Bq (Xi rfl) rfl T.n_sum (show zCg _=some (.builtin "sum") from rfl) (Aa (pv 0) Ag)))
   (Ai (Oe (NC:=["k","total","turn","weights","dealt"]) (own:=["k"]) (cs:=["total","turn","weights","dealt"]) (ix:=[3,2,0,1]) (j:=4) sc.nd rfl rfl rfl (WO.of rfl) rfl ⟨⟨rfl,.inl rfl,rfl⟩,⟨⟨rfl,.inl rfl,rfl⟩,⟨⟨rfl,.inl rfl,rfl⟩,⟨⟨rfl,.inl rfl,rfl⟩,trivial⟩⟩⟩⟩ (Ea rfl T.n_range (Aa (Bq Bp rfl T.n_len (show zCg _=some (.builtin "len") from rfl) (Aa (pv 0) Ag)) Ag)) (λ_ _ _=>(Bl (i:=0) (show (["k","total","turn","weights","dealt"]:List Str).Nodup from by ac_nf) rfl (Or.inl rfl))) (λ_ _ _=>(Zz (Dc (Az Cmay_have (hr.mono (by decide)) rfl (Aa (Cc (P3 (K:=K) rfl) (pv 3) (pv 0) (λ_ _=>rfl)) (Aa (Cc (P3 (K:=K) rfl) (pv 4) (pv 0) (λ_ _=>rfl)) (Aa (pv 1) (Aa (pv 2) Ag)))))))) (λ_ _ _=>(pv 0)))
   (Ai (Bn (i:=5) sc.nd rfl (Or.inl rfl) (Cc Bt (pv 4) Ar (λ_ _=>rfl)))
   (Ai (El PassesOwn.never rfl (Dg (pv 4)) (Bl (i:=6) sc.nd rfl (Or.inl rfl))
    (Aj (Bu (Bf Mb (Az Cdue_by (hr.mono (by decide)) rfl (Aa (Cc Bt (pv 0) (pv 6) (λ_ _=>rfl)) (Aa (Cc Bt (pv 1) (pv 6) (λ_ _=>rfl)) (Aa (pv 3) Ag)))) (Az Cdue_by (hr.mono (by decide)) rfl (Aa (Cc Bt (pv 0) (pv 5) (λ_ _=>rfl)) (Aa (Cc Bt (pv 1) (pv 5) (λ_ _=>rfl)) (Aa (pv 3) Ag)))) (Bk _))
    (Aj (Bn (i:=5) sc.nd rfl (Or.inl rfl) (pv 6)))
    Bj)))
   (Aj (Bh (pv 5))))))),?_⟩
 have hl:(List.map V.int ws).length=ws.length:=zAa _;have g1:=g.lo;have g2:=g.hi;have gs:=g.sum;have gp:=CR.sum_pos g;refine⟨_,rfl,a,ws,rfl,WL.of ha,?_⟩;refine⟨_,rfl,a,_,rfl,.inl (WL.of ha),_,rfl,by lia,by lia,λp hp=>?_⟩;have ep:((List.map V.int ws).length:Int).toNat=ws.length:=by rw[hl];lia
 rw[ep];refine Qi (lo:=0) (n:=ws.length) (λi ys H2=>ys=(CR.placesTo ws ds t i).map V.int/\H2 p=some (.lst ys)/\WJ H H2) ⟨rfl,Ac,Ap hp _⟩ (λi ys H2 _ ⟨e,h1,_⟩=>⟨h1,by rw[e,zAa];exact CR.placesTo_le _ _ _ _⟩) (by rw[zCf];lia) (λi ys H2 hi ⟨e,h1,s1⟩=>?_) (λys H2 ⟨e,h1,s1⟩=>?_)
 .have hw:=HY g (k:=0+(i:Int)) (by lia) (by lia)
  refine⟨_,rfl,_,rfl,a,_,_,_,rfl,rfl,WL.of (s1 _ _ ha),Jp (by lia) (by lia),_,rfl,_,rfl,b,_,_,_,rfl,rfl,WL.of (s1 _ _ hb),Jp (by lia) (by lia),_,rfl,_,rfl,_,_,_,_,rfl,⟨by lia,by lia⟩,⟨by lia,by lia⟩,_,rfl,?_⟩;have em:decide (ds.getD (0+(i:Int)).toNat 0*ws.sum<ws.getD (0+(i:Int)).toNat 0*((t:Int)+1))=CR.may ws ds t i:=by
   rw[show (0+(i:Int))=(i:Int) by lia];rfl
  rw[em];have es:=CR.placesTo_succ ws ds t i;cases c:CR.may ws ds t i with
  |false=>
   rw[c] at es;refine Ep ⟨rfl,?_,h1,s1⟩;rw[es,e];simp
  |true=>
   rw[c] at es;refine Kt ⟨_,rfl,h1,rfl,?_,Ac,λx o z=>?_⟩
   .rw[es,e]
    simp
   .rw[Au (Ak z hp)]
    exact s1 x o z
 subst e;have hpl:CR.placesTo ws ds t ws.length=CR.places ws ds t:=rfl;rw[hpl] at h1;have hne:=CR.places_ne (t:=t) g hlen hsum;have hd0:Nx ((CR.places ws ds t).map V.int) 0=some (.int ((CR.places ws ds t).headD 0)):=by
  cases z:CR.places ws ds t with
  |nil=>exact absurd z hne
  |cons x l=>exact GZ (i:=0) rfl
 refine⟨_,rfl,p,_,_,_,rfl,rfl,WL.of h1,hd0,?_⟩;have inr:∀ k:Int,k∈CR.places ws ds t->0<=k/\k<ws.length:=λk hk=>⟨(CR.placesTo_mem hk).1,(CR.placesTo_mem hk).2.1⟩;refine⟨_,rfl,p,rfl,⟨_,WL.of h1⟩,Nd (K:=K) (a:=p) (xs:=(CR.places ws ds t).map V.int)
  (λi σ H3=>(∃ o,∃ best:Int,σ=[some (.ref a),some (.ref b),some (.int t),some (.int ws.sum),some (.ref p),some (.int best),o]/\best=CR.pick (CR.due ws ds) ((CR.places ws ds t).headD 0) ((CR.places ws ds t).take i)/\0<=best/\best<ws.length)/\H3=H2)
  ⟨⟨none,_,rfl,rfl,?_⟩,rfl⟩ (λi σ H3 _ ⟨_,z⟩=>by rw[z];exact WL.of h1) ?_ ?_⟩
 .cases z:CR.places ws ds t with
  |nil=>exact absurd z hne
  |cons x l=>exact inr x (by rw[z];exact zAk)
 .rintro i y σ H3 hi ⟨⟨o,best,rfl,eb,b0,b1⟩,rfl⟩
  obtain⟨n,hn,rfl⟩:=R9 hi;have hnm:=inr n (zAs hn);have w1:=HY g hnm.1 hnm.2;have w2:=HY g b0 b1;refine⟨_,rfl,_,rfl,a,_,_,_,rfl,rfl,WL.of (s1 _ _ ha),Jp hnm.1 hnm.2,_,rfl,_,rfl,b,_,_,_,rfl,rfl,WL.of (s1 _ _ hb),Jp hnm.1 (by lia),_,rfl,_,_,_,rfl,w1,⟨by lia,by lia⟩,?_⟩;refine⟨_,rfl,_,rfl,a,_,_,_,rfl,rfl,WL.of (s1 _ _ ha),Jp b0 b1,_,rfl,_,rfl,b,_,_,_,rfl,rfl,WL.of (s1 _ _ hb),Jp b0 (by lia),_,rfl,_,_,_,rfl,w2,⟨by lia,by lia⟩,_,_,rfl,rfl,_,rfl,?_⟩;have et:(CR.places ws ds t).take (i+1)=(CR.places ws ds t).take i++[n]:=by rw[List.take_add_one,hn];rfl
  have ef:CR.pick (CR.due ws ds) ((CR.places ws ds t).headD 0) ((CR.places ws ds t).take (i+1))=if CR.due ws ds n<CR.due ws ds best then n else best:=by
   rw[et,eb];unfold CR.pick;rw[List.foldl_append];rfl
  refine DX (λc=>?_) (λc=>?_)
  .have c':CR.due ws ds n<CR.due ws ds best:=of_decide_eq_true c
   refine⟨_,rfl,⟨⟨_,n,rfl,?_,hnm⟩,rfl⟩⟩;rw[ef,if_pos c']
  .have c':¬ CR.due ws ds n<CR.due ws ds best:=of_decide_eq_false (Bool.eq_false_iff.mpr c)
   refine⟨⟨_,best,rfl,?_,b0,b1⟩,rfl⟩;rw[ef,if_neg c']
 .rintro σ H3 ⟨⟨o,best,rfl,eb,b0,b1⟩,rfl⟩
  refine⟨_,rfl,?_⟩;rw[zAa,zAt] at eb;rw[eb];exact q _ s1
def FW:Bc ["weights","dealt","wheel","turn","place"] ["weights"] (Av B4):=by injections
def HR {f:Addr} {fd:zCh} (F:WV K "turns" "turns" B4 f fd) (T:Txt K mg) (Care_weights:Cy P w K mg base 2 "are_weights" ["thing"] Ud) (Cplace_of_turn:Cy P w K mg base 2 "place_of_turn" ["weights","dealt","turn"] C7) :
  WN P w K mg base Do 3 f fd ["weights"] A9:=by
 have sc:=FW;bv_omega
 .obtain⟨_,_,rfl,_⟩:=h
  rfl
 obtain⟨a,ws,rfl,ha,g,q⟩:=h;refine⟨_,(Ai (Bu (Ee (Dc (Az Care_weights (hr.mono (by decide)) rfl (Aa (pv 0) Ag))))
    (Aj Cf)
    Bj)
   (Ai (Oe (NC:=["weight"]) (own:=["weight"]) (cs:=[]) (ix:=[]) (j:=1) sc.nd rfl rfl rfl (WO.of rfl) rfl trivial (Dg (pv 0)) (λ_ _ _=>(Bl (i:=0) (show (["weight"]:List Str).Nodup from by ac_nf) rfl (Or.inl rfl))) (λ_ _ _=>Dq) (λ_ _ _=>Ar))
   (Ai (Bn (i:=2) sc.nd rfl (Or.inl rfl) (Cb Ag))
   (Ai (El PassesOwn.never rfl (Ea rfl T.n_range (Aa (Bq (Xi rfl) rfl T.n_sum (show zCg _=some (.builtin "sum") from rfl) (Aa (pv 0) Ag)) Ag)) (Bl (i:=3) sc.nd rfl (Or.inl rfl))
    (Ai (Bn (i:=4) sc.nd rfl (Or.inl rfl) (Az Cplace_of_turn (hr.mono (by decide)) rfl (Aa (pv 0) (Aa (pv 1) (Aa (pv 3) Ag)))))
   (Ai (Wa (Be Da (Cc Bt (pv 1) (pv 4) (λ_ _=>rfl)) Ar) (NQ (pv 1) (pv 4) HS))
   (Aj (Bz (Dy PySem.F.plainAttrs_list PySem.F.slot_list_append PySem.F.type_list_append Cj (pv 2) (Aa (pv 4) Ag)))))))
   (Aj (Bh (pv 2))))))),?_⟩
 have hl:(List.map V.int ws).length=ws.length:=zAa _;have g1:=g.lo;have g2:=g.hi;have gs:=g.sum;have gp:=CR.sum_pos g;refine⟨_,rfl,a,ws,rfl,ha,g,_,rfl,?_⟩;refine Ep ?_;refine⟨_,rfl,a,rfl,⟨_,WL.of ha⟩,λb hb=>?_⟩;refine De (K:=K) (a:=a) (xs:=List.map V.int ws) (λi ys H2=>ys=(zAC i (0:Int)).map V.int/\H2 b=some (.lst ys)/\WJ H H2) ⟨rfl,Ac,Ap hb _⟩
  (λi ys H2 _ ⟨e,h1,s1⟩=>⟨h1,by rw[e,zAa,zAS];exact zAn _,WL.of (s1 _ _ ha)⟩) (by rw[hl,zCf];lia) (λi x ys H2 hi ⟨e,h1,s1⟩=>?_) (λys H2 ⟨e,h1,s1⟩=>?_)
 .show H2 b=some (.lst ys)/\_/\_
  refine⟨h1,rfl,?_,Ac,λx o z=>?_⟩
  .rw[e,List.replicate_succ',zAf]
   rfl
  .rw[Au (Ak z hb)]
   exact s1 x o z
 subst e;rw[hl] at h1;refine⟨zAB _,λr hr'=>?_⟩;have s2:WJ H2 (upd H2 r (.lst [])):=Ap hr' _;have hab:a≠b:=Ak ha hb;have har:a≠r:=Ak (s1 _ _ ha) hr';have hbr:b≠r:=Ak h1 hr';have hrH:H r=none:=s1.free hr';refine⟨_,rfl,a,ws,rfl,WL.of (s2 _ _ (s1 _ _ ha)),_,rfl,by lia,by lia,Ey (lo:=0) (n:=ws.sum.toNat)
  (λi σ H3=>(∃ o1 o2,σ=[some (.ref a),some (.ref b),some (.ref r),o1,o2])/\H3 b=some (.lst ((CR.run ws i).1.map V.int))/\H3 r=some (.lst ((CR.run ws i).2.map V.int))/\WJ H H3)
  ⟨⟨none,none,rfl⟩,s2 _ _ h1,Ac,s1.trans s2⟩ ?_ ?_⟩
 .rintro i σ H3 hi ⟨⟨o1,o2,rfl⟩,hb3,hr3,s3⟩
  have A0:=CR.run_at g i;have hpl:=CR.place_in (t:=i) g A0.len A0.sum;have ei:(0+(i:Int))=(i:Int):=by lia
  rw[ei];refine⟨_,rfl,_,rfl,_,rfl,a,b,ws,_,i,rfl,s3 _ _ ha,hb3,g,A0.len,A0.sum,λH4 s4=>?_⟩;have lenb:((CR.run ws i).1.map V.int).length=ws.length:=by rw[zAa,A0.len]
  refine⟨_,rfl,_,rfl,b,_,_,_,rfl,rfl,WL.of (s4 _ _ hb3),Jp hpl.1 (by rw[A0.len];exact hpl.2.1),_,_,rfl,rfl,?_⟩;refine⟨_,rfl,_,rfl,b,_,_,(CR.place ws (CR.run ws i).1 i).toNat,rfl,rfl,s4 _ _ hb3,?_,?_⟩
  .rw[lenb]
   exact RI hpl.1 hpl.2.1
  have hr5:upd H4 b (.lst (((CR.run ws i).1.map V.int).set (CR.place ws (CR.run ws i).1 i).toNat (.int ((CR.run ws i).1.getD (CR.place ws (CR.run ws i).1 i).toNat 0+1)))) r=some (.lst ((CR.run ws i).2.map V.int)):=by
   rw[Au hbr.symm];exact s4 _ _ hr3
  refine⟨_,rfl,.inl ⟨rfl,_,WL.of hr5⟩,_,rfl,r,_,_,rfl,rfl,hr5,?_,?_⟩
  .rw[zAa,A0.row,zCf]
   lia
  refine⟨⟨_,_,rfl⟩,?_,?_,λx o z=>?_⟩
  .rw[Au hbr,Ac]
   congr 2
   show _=(CR.put _ _).map V.int;unfold CR.put;rw[List.map_set];rfl
  .rw[Ac]
   congr 2
   show _=((CR.run ws i).2++[_]).map V.int;rw[zAf];rfl
  .rw[Au (Ak z hrH),Au (Ak z hb)]
   exact s4 _ _ (s3 x o z)
 .rintro σ H3 ⟨⟨o1,o2,rfl⟩,hb3,hr3,s3⟩
  exact⟨_,rfl,q r H3 s3 hrH hr3⟩
end
def HQ (wh wt:Addr):List (Str×V):=Ca "weights" (.ref wt) (Ca "wheel" (.ref wh) [])
def Jz (wh wt:Addr):(HQ wh wt).lookup ("weights" : Str)=some (.ref wt):=by
 unfold HQ;rw[Bm,if_pos rfl]
structure XS (C:Addr) (H:Hp) (d wh wt:Addr) (ws:List Int):Prop where
 ob:∃ dx,H d=some (.ins C dx (HQ wh wt))
 hw:H wh=some (.lst (List.map V.int (CR.wheel ws)))
 ht:H wt=some (.lst (List.map V.int ws))
def XS.same {C:Addr} {H H':Hp} {d wh wt:Addr} {ws:List Int} (D:XS C H d wh wt ws) (s:WJ H H'):XS C H' d wh wt ws:=by
 obtain⟨⟨dx,h1⟩,h2,h3⟩:=D;exact⟨⟨dx,s _ _ h1⟩,s _ _ h2,s _ _ h3⟩
structure Dl (K:zAb) (C:Addr):Prop where
 cl:XI K C
 nW:WQ K C "wheel"
 nG:WQ K C "weights"
inductive CS (C:Addr) (vs:List V) (H:Hp) (Q:VK):Prop
 |mk (p:_) (dx:_) (a:_) (ws:_) (z0:vs=[.ref p,.ref a]) (z1:H p=some (.ins C dx [])) (z2:H a=some (.lst (List.map V.int ws))) (z3:CR.GW ws) (z4:∀ wh wt H',(∀ b o,H b=some o->b≠p->H' b=some o)->XS C H' p wh wt ws->H wh=none->H wt=none->Q .non H'):CS C vs H Q
def Y2 (C:Addr):Sp:=λvs H Q _=>CS C vs H Q
def Ez {H:Hp} {x dx b:Addr} {o o':HO} (h:upd (upd H dx o) x o' b=none):H b=none:=by
 by_cases e:b=x
 .subst e
  rw[Ac] at h;cases h
 .rw[Au e] at h
  by_cases e':b=dx
  .subst e'
   rw[Ac] at h;cases h
  .rw[Au e'] at h
   exact h
section
variable {P:Program} {w:World} {K:zAb} {mg:Str->Option Value} {base:Heap}
def Sw:Bc ["self","weights"] ["self","weights"] (Av Io):=by injections
def Th {f C:Addr} {fd:zCh} (F:WV K "__init__" "Deal.__init__" Io f fd) (T:Txt K mg) (L:Dl K C) (Cturns:Cy P w K mg base 3 "turns" ["weights"] A9):WN P w K mg base Do 4 f fd ["self","weights"] (Y2 C):=by
 have sc:=Sw;bv_omega
 .obtain⟨_,_,_,_,rfl,_⟩:=h
  rfl
 obtain⟨p,dx,a,ws,rfl,hp,ha,g,q⟩:=h;refine⟨_,(Ai (Ct (pv 0) (Az Cturns (hr.mono (by decide)) rfl (Aa (pv 1) Ag)) rfl)
   (Aj (Ct (pv 0) (Ck Er rfl T.n_list (show zCg _=some (.type "list") from rfl) (Aa (pv 1) Ag)) rfl))),?_⟩
 have hpa:a≠p:=Eu ha hp (by intro z;cases z);refine⟨_,rfl,a,ws,rfl,ha,g,λwh H1 s1 hwn h1=>?_⟩;refine⟨_,rfl,p,C,dx,[],rfl,s1 _ _ hp,L.cl,L.nW,(by show 0<1000;decide),?_⟩;have hwp:wh≠p:=(Ak hp hwn).symm;have ha2:upd H1 p (.ins C dx (Ca "wheel" (.ref wh) [])) a=some (.lst (List.map V.int ws)):=by rw[Au hpa];exact s1 _ _ ha
 refine⟨_,rfl,a,_,rfl,.inl (WL.of ha2),λwt hwt=>?_⟩;have hpt:p≠wt:=λz=>by rw[<- z,Ac] at hwt;cases hwt
 have hwt1:H1 wt=none:=by rw[Au hpt.symm] at hwt;exact hwt
 refine⟨_,rfl,p,C,dx,_,rfl,(by rw[Au hpt,Ac]),L.cl,L.nG,(by show 1<1000;decide),?_⟩;refine q wh wt _ (λb o e hb=>?_) ⟨⟨dx,Ac⟩,?_,?_⟩ ?_ ?_
 .rw[Au hb,Au (Ak (s1 _ _ e) hwt1),Au hb]
  exact s1 _ _ e
 .rw[Au hwp,Au (Ak h1 hwt1),Au hwp]
  exact h1
 .rw[Au hpt.symm,Ac]
 .exact hwn
 .exact s1.free hwt1
end
def W0 {t u:TS} {D:Om} {σ:St} {H:Hp} (h:∀ N:St->Hp->Prop,N=u D->t { D with nx:=N } σ H):KM t u D σ H:=h _ rfl
def AX {i:Nat} {v:V} {N:St->Hp->Prop} {σ:St} {H:Hp} {t u:TS} {D:Om} (eN:N=KM t u D) (σ':St) (e:σ.set i (some v)=σ') (h:∀ N:St->Hp->Prop,N=u D->t { D with nx:=N } σ' H):He i v σ H N:=by
 subst eN;exact Hu σ' e (h _ rfl)
def A3 {N:St->Hp->Prop} {σ:St} {H:Hp} {t u:TS} {D:Om} (eN:N=KM t u D) (h:∀ N:St->Hp->Prop,N=u D->t { D with nx:=N } σ H):N σ H:=by
 subst eN;exact h _ rfl
def Zo {C:Addr} {H H2:Hp} {x dx:Addr} (nx:H x=none) (ndx:H dx=none) (kp:∀ b o,(upd (upd H dx (.own x)) x (.ins C dx [])) b=some o->b≠x->H2 b=some o):WJ H H2:=λb o e=>
 kp b o (by rw[Au (Ak e nx),Au (Ak e ndx)];exact e) (Ak e nx)
def KB (p:Addr) (H H':Hp):Prop:=∀ b o,H b=some o->b≠p->H' b=some o
def KB.upd {p:Addr} {H H':Hp} (k:KB p H H') (o:HO):KB p H (upd H' p o):=λb u e n=>by rw[Au n];exact k b u e n
def KB.same {p:Addr} {H H' H'':Hp} (k:KB p H H') (s:WJ H' H''):KB p H H'':=λb u e n=>s _ _ (k b u e n)
def KB.free {p:Addr} {H H':Hp} {b:Addr} (k:KB p H H') (n:b≠p) (h:H' b=none):H b=none:=by
 cases z:H b with
 |none=>rfl
 |some o=>
  have:=k _ _ z n;rw[h] at this;cases this
def Fm (l:List Str):(l.map V.str).all Ff=true:=by
 rw[List.all_map];exact zBG.mpr λ_ _=>rfl
def f1 {f g:Str} {v:V} {fs:List (Str×V)} (h:¬ g=f):(Ca f v fs).lookup g=fs.lookup g:=by rw[Bm,if_neg h]
def f0 {f:Str} {v:V} {fs:List (Str×V)}:(Ca f v fs).lookup f=some v:=by rw[Bm,if_pos rfl]
theorem Hw (f:Str) (v:V):∀ fs:List (Str×V),(Ca f v fs).length<=fs.length+1
 |[]=>zAn _
 |(g,u)::fs=>by
  unfold Ca
  split
  .simp
  .have:=Hw f v fs
   simp only [zAe];omega
abbrev Pr:=V×V
def XF (H:Hp):List V->List Pr->Prop
 |[],[]=>True
 |x::xs,p::ps=>(∃ t,x=.ref t/\H t=some (.tup [p.1,p.2]))/\XF H xs ps
 |_,_=>False
theorem XF.len {H:Hp}:∀ {xs:List V} {ps:List Pr},XF H xs ps->xs.length=ps.length
 |[],[],_=>rfl
 |[],_::_,h=>h.elim
 |_::_,[],h=>h.elim
 |x::xs,p::ps,h=>by rw[zAe,zAe,XF.len h.2]
theorem XF.mono {H H':Hp} (s:UK H H'):∀ {xs:List V} {ps:List Pr},XF H xs ps->XF H' xs ps
 |[],[],_=>trivial
 |[],_::_,h=>h.elim
 |_::_,[],h=>h.elim
 |x::xs,p::ps,⟨⟨t,e,h⟩,r⟩=>⟨⟨t,e,s _ _ h⟩,XF.mono s r⟩
theorem XF.get {H:Hp}:∀ {xs:List V} {ps:List Pr} {i:Nat} {x:V},XF H xs ps->xs[i]?=some x->∃ t p,ps[i]?=some p/\x=.ref t/\H t=some (.tup [p.1,p.2])
 |[],[],_,_,_,e=>by simp at e
 |[],_::_,_,_,h,_=>h.elim
 |_::_,[],_,_,h,_=>h.elim
 |x::xs,p::ps,0,y,⟨⟨t,e,h⟩,r⟩,q=>by
  simp at q;subst q;exact⟨t,p,rfl,e,h⟩
 |x::xs,p::ps,i+1,y,⟨_,r⟩,q=>by
  obtain⟨t,p',h1,h2⟩:=XF.get (i:=i) r (by simpa using q);exact⟨t,p',by simpa using h1,h2⟩
theorem XF.app {H:Hp}:∀ {xs:List V} {ps:List Pr} {ys:List V} {qs:List Pr},XF H xs ps->XF H ys qs->XF H (xs++ys) (ps++qs)
 |[],[],_,_,_,h=>h
 |[],_::_,_,_,r,_=>r.elim
 |_::_,[],_,_,r,_=>r.elim
 |x::xs,p::ps,_,_,⟨z,r⟩,h=>⟨z,XF.app r h⟩
def XF.one {H:Hp} {t:Addr} {a b:V} (h:H t=some (.tup [a,b])):XF H [.ref t] [(a,b)]:=⟨⟨t,rfl,h⟩,trivial⟩
inductive Zl  (vs:List V) (H:Hp) (Q:VK):Prop
 |mk (a:_) (ns:List Str) (z0:vs=[.ref a]) (z1:H a=some (.lst (ns.map V.str))) (z2:(∀ z∈ns,Ew (.str z)=true/\z.length<=900)) (z3:ns.Nodup) (z4:∀ H',WJ H H'->Q .non H'):Zl  vs H Q
def Wy:Sp:=λvs H Q _=>Zl  vs H Q
structure XY (C CD:Addr) (H:Hp) (p cl hv d wh wt:Addr) (nm:Str) (cd wv:V) (cs:List V) (hs:List V) (ws:List Int):Prop where
 ob:∃ dx fs,H p=some (.ins C dx fs)/\fs.lookup ("name" : Str)=some (.str nm)/\fs.lookup ("condition" : Str)=some cd/\fs.lookup ("clauses" : Str)=some (.ref cl)/\fs.lookup ("houses" : Str)=some (.ref hv)/\fs.lookup ("deal" : Str)=some (.ref d)/\fs.lookup ("waits" : Str)=some wv/\fs.lookup ("asks" : Str)=none
 hc:H cl=some (.lst cs)
 hh:H hv=some (.lst hs)
 hd:XS CD H d wh wt ws
def XY.same {C CD:Addr} {H H':Hp} {p cl hv d wh wt:Addr} {nm:Str} {cd wv:V} {cs hs:List V} {ws:List Int} (h:XY C CD H p cl hv d wh wt nm cd wv cs hs ws) (s:WJ H H'):XY C CD H' p cl hv d wh wt nm cd wv cs hs ws:=by
 obtain⟨⟨dx,fs,e,r⟩,h1,h2,h3⟩:=h;exact⟨⟨dx,fs,s _ _ e,r⟩,s _ _ h1,s _ _ h2,h3.same s⟩
def RG (H:Hp) (cv:V) (cs:List V):Prop:=(cv=.non/\cs=[])\/∃ c0,cv=.ref c0/\H c0=some (.lst cs)
def MJ (H:Hp) (x hv:V) (prs:List Pr):Prop:=(hv=.non/\prs=[(x,.int 1)])\/∃ h0 ys,hv=.ref h0/\H h0=some (.lst ys)/\XF H ys prs
def MN (x:V):Prop:=Ew x=true/\x≠.str "self"
inductive IR (C CD:Addr) (vs:List V) (H:Hp) (Q:VK):Prop
 |mk (p:_) (dx:_) (nm:_) (cd:_) (cv:_) (cs:_) (hv:_) (prs:_) (wv:_) (hs:List Str) (ws:List Int) (z0:vs=[.ref p,.str nm,cd,cv,hv,wv]) (z1:H p=some (.ins C dx [])) (z2:MN (.str nm)) (z3:nm.length<=8) (z4:RG H cv cs) (z5:cs.length<=8) (z6:MJ H (.str nm) hv prs) (z7:prs.map (·.1)=hs.map V.str) (z8:(∀ z∈hs,Ew (.str z)=true/\z.length<=900)) (z9:hs.Nodup) (z10:prs.map (·.2)=ws.map V.int) (z11:CR.GW ws) (z12:∀ cl h1 d wh wt H',KB p H H'->XY C CD H' p cl h1 d wh wt nm cd wv cs (prs.map (·.1)) ws->H cl=none->H h1=none->H d=none->H wh=none->H wt=none->Q .non H'):IR C CD vs H Q
def GA (C CD:Addr):Sp:=λvs H Q _=>IR C CD vs H Q
section
variable {P:Program} {w:World} {K:zAb} {mg:Str->Option Value} {base:Heap}
def Uy:Bc ["houses","k","house"] ["houses"] (Av Jb):=by injections
def Uz {f:Addr} {fd:zCh} (F:WV K "check_houses" "check_houses" Jb f fd) (T:Txt K mg) (Cis_name:Cy P w K mg base 2 "is_name" ["thing"] (Wo K)):WN P w K mg base Do 3 f fd ["houses"] Wy:=by
 have sc:=Uy;bv_omega
 .obtain⟨_,_,rfl,_⟩:=h
  rfl
 obtain⟨a,ns,rfl,ha,hn,nd,q⟩:=h;refine⟨_,(Aj (El PassesOwn.never rfl (C0 rfl T.n_enumerate (Aa (pv 0) Ag)) (Js (n:=2) rfl (By (Bl (i:=1) sc.nd rfl (Or.inl rfl)) (By (Bl (i:=2) sc.nd rfl (Or.inl rfl)) Fz)))
    (Aj (Bu (PW.pt (Fe (Ee (Dc (Az Cis_name (hr.mono (by decide)) rfl (Aa (pv 2) Ag)))) (Et (Bf Tk (pv 2) (Mx Rx (pv 0) Qw (Rw (pv 1))) rfl))))
    (Aj Cf)
    Bj)))),?_⟩
 refine⟨_,rfl,a,rfl,⟨_,WL.of ha⟩,Vq (K:=K) (a:=a) (xs:=ns.map V.str) (λi σ H2=>(∃ o1 o2,σ=[some (.ref a),o1,o2])/\WJ H H2) ⟨⟨none,none,rfl⟩,λ_ _ z=>z⟩ (λi σ H2 _ ⟨_,e⟩=>WL.of (e _ _ ha)) ?_ ?_⟩
 .rintro i x σ H2 t hi ⟨⟨o1,o2,rfl⟩,s2⟩ nt
  rw[zAx] at hi;obtain⟨z,hz,rfl⟩:∃ z,ns[i]?=some z/\V.str z=x:=by
   cases e:ns[i]? with
   |none=>rw[e] at hi;cases hi
   |some z=>rw[e] at hi;exact⟨z,rfl,by simpa using hi⟩
  obtain⟨h1,h2⟩:=hn z (zAs hz);have s3:=s2.trans (Ap nt (.tup [.int i,.str z]));have il:i<ns.length:=(zAu.mp hz).1;refine⟨_,rfl,_,_,rfl,.str z,(λy e=>by cases e;exact h2),_,rfl,bF (by rw[h1];rfl) ?_⟩;refine⟨_,rfl,_,rfl,_,rfl,_,rfl,a,_,rfl,WL.of (s3 _ _ ha),λm nm=>?_⟩;have ec:Mq (ns.map V.str) none (some (i:Int))=(ns.take i).map V.str:=by
   unfold Mq;have e1:HT.sIx (ns.map V.str).length (ns.map V.str).length (some (i:Int))=i:=by rw[HT.sIx_nat,zAa];omega
   rw[e1,HT.sIx_none,List.drop_zero,Nat.sub_zero,List.map_take]
  have s4:=s3.trans (Ap nm (.lst (Mq (ns.map V.str) none (some (i:Int)))));refine⟨m,(ns.take i).map V.str,rfl,.inl (WL.of (by rw[Ac,ec])),rfl,Fm _,_,rfl,bF ?_ ⟨⟨_,_,rfl⟩,s4⟩⟩;show JX (.str z) ((ns.take i).map V.str)=false;unfold JX;rw[List.any_map];rw[List.any_eq_false];intro y hy e;have ne:y≠z:=λc=>by
   subst c;obtain⟨j,hj,ej⟩:=zBc hy;have hj':j<i:=by rw[zAw] at hj;omega
   have e2:ns[j]'(by omega)=ns[i]:=by
    rw[List.getElem_take] at ej;rw[ej];exact ((zAu.mp hz).2).symm
   exact absurd ((List.getElem_inj nd).mp e2) (by omega)
  have e':Sq (.str y) (.str z)=true:=e;unfold Sq at e';exact ne (by simpa using e')
 .rintro σ H2 ⟨⟨o1,o2,rfl⟩,s2⟩
  exact q _ s2
end
def X4 {c:Prop} {inst:Decidable c} {t u:TE} {σ:St} {H:Hp} {Q:VK} (G:V->Hp->Prop) (h1:c->∀ Q':VK,(∀ v H',G v H'->Q' v H')->t σ H Q') (h2:¬ c->∀ Q':VK,(∀ v H',G v H'->Q' v H')->u σ H Q') (R:∀ v H',G v H'->Q v H') :
  @ite Prop c inst (t σ H Q) (u σ H Q):=by
 by_cases z:c
 .rw[if_pos z];exact h1 z Q R
 .rw[if_neg z];exact h2 z Q R
section
variable {P:Program} {w:World} {K:zAb} {mg:Str->Option Value} {base:Heap} {Ab Ae Ad Ah Ao Ax Ay Am Al Ba An Aq Bb As Bd Af Aw:Addr}
def Sh:Bc ["self","name","condition","clauses","houses","waits","pairs"] ["self","name","condition","clauses","houses","waits"] (Av Cu):=by injections
seal L2.PS L2.PSs L2.PE L2.PA
def Qv {f:Addr} {fd:zCh} (F:YJ K "__init__" "Cover.__init__" Cu f fd) (T:Txt K mg) (L:Kl K mg Ab Ae Ad Ah Ao Ax Ay Am Al Ba An Aq Bb As Bd Af Aw) (Cis_name:Cy P w K mg base 2 "is_name" ["thing"] (Wo K)) (Ccheck_houses:Cy P w K mg base 3 "check_houses" ["houses"] Wy)
  (KDeal:Gb P w K mg base 4 "Deal" Bb ["self","weights"] (Y2 Bb)):WN P w K mg base Do 6 f fd ["self","name","condition","clauses","houses","waits"] (GA As Bb):=by
 have sc:=Sh;bv_omega
 .obtain⟨_,_,_,_,_,_,_,_,_,_,_,rfl,_⟩:=h
  rfl
 obtain⟨p,dx,nm,cd,cv,cs,hv,prs,wv,hs,ws,rfl,hp,gn,nl8,hcl,l8',hhs,eh,okh,ndh,ew,gws,q⟩:=h;have l9:prs.length<=900:=by have:=congrArg List.length ew;rw[zAa,zAa] at this;rw[this];exact zAD gws.hi (by decide)
 refine⟨_,(Ai (Bu (PW.pt (Fe (Ee (Dc (Az Cis_name (hr.mono (by decide)) rfl (Aa (pv 1) Ag)))) (Et (Bf Db (pv 1) (E9 T.g_COVERED_ONE rfl) (Bk _)))))
    (Aj Cf)
    Bj)
   (Ai (Ct (pv 0) (pv 1) rfl)
   (Ai (Ct (pv 0) (pv 2) rfl)
   (Ai (Ct (pv 0) (Iz (Bf C8 (pv 3) Kh (Bk _)) (Cb Ag) (Ck Er rfl T.n_list (show zCg _=some (.type "list") from rfl) (Aa (pv 3) Ag))) rfl)
   (Ai (Bu (Bf Uk (Bq Bp rfl T.n_len (show zCg _=some (.builtin "len") from rfl) (Aa (Bx (pv 0) rfl) Ag)) (Dv T.g_MOST_CLAUSES rfl) (Bk _))
    (Aj Cf)
    Bj)
   (Ai (Bn (i:=6) sc.nd rfl (Or.inl rfl) (Iz (Bf C8 (pv 4) Kh (Bk _)) (Cb (Aa (Cw (Aa (pv 1) (Aa Ar Ag))) Ag)) (pv 4)))
   (Ai (Ct (pv 0) (Eh (NC:=["pair"]) (own:=["pair"]) (cs:=[]) (ix:=[]) rfl (WO.of rfl) rfl trivial (Dg (pv 6)) (λ_ _ _=>(Bl (i:=0) (show (["pair"]:List Str).Nodup from by ac_nf) rfl (Or.inl rfl))) (λ_ _ _=>Dq) (λ_ _ _=>(Cc (Vm (K:=K) rfl) (pv 0) Ar (λ_ _=>rfl)))) rfl)
   (Ai (Bz (Az Ccheck_houses (hr.mono (by decide)) rfl (Aa (Bx (pv 0) rfl) Ag)))
   (Ai (Ct (pv 0) (Ed KDeal (hr.mono (by decide)) rfl (Aa (Eh (NC:=["pair"]) (own:=["pair"]) (cs:=[]) (ix:=[]) rfl (WO.of rfl) rfl trivial (Dg (pv 6)) (λ_ _ _=>(Bl (i:=0) (show (["pair"]:List Str).Nodup from by ac_nf) rfl (Or.inl rfl))) (λ_ _ _=>Dq) (λ_ _ _=>(Cc (Vm (K:=K) rfl) (pv 0) Ar (λ_ _=>rfl)))) Ag)) rfl)
   (Aj (Ct (pv 0) (pv 5) rfl))))))))))),?_⟩
 have one:1<=sizeLine:=by rw[zCf];decide
 have two:2<=sizeLine:=by rw[zCf];decide
 have keep:∀ {H':Hp},KB p H H'->UK H H':=λk t zs e=>k _ _ e (Eu e hp (by intro z;cases z));have k0:KB p H H:=λ_ _ e _=>e;refine⟨_,rfl,_,_,rfl,.str nm,(λz e=>by cases e;exact zAD nl8 (by decide)),_,rfl,?_⟩;rw[gn.1];refine Ep ⟨_,rfl,rfl,_,rfl,dF gn.2 ?_⟩;refine⟨_,rfl,_,rfl,p,As,dx,[],rfl,hp,L.cl_Cover,L.na_Cover_name,by decide,?_⟩;refine⟨_,rfl,_,rfl,p,As,dx,_,rfl,Ac,L.cl_Cover,L.na_Cover_condition,zBU (Hw _ _ _) (by decide),?_⟩;have k2:KB p H (upd (upd H p (.ins As dx (Ca "name" (.str nm) []))) p (.ins As dx (Ca "condition" cd (Ca "name" (.str nm) [])))):=KB.upd (KB.upd k0 _) _;have e2:upd (upd H p (.ins As dx (Ca "name" (.str nm) []))) p (.ins As dx (Ca "condition" cd (Ca "name" (.str nm) []))) p=some (.ins As dx (Ca "condition" cd (Ca "name" (.str nm) []))):=Ac;have g2:(Ca "condition" cd (Ca "name" (.str nm) [])).length<=2:=zAD (Hw _ _ _) (Nat.succ_le_succ (Hw _ _ _));have n2:(Ca "condition" cd (Ca "name" (.str nm) [])).lookup ("name" : Str)=some (.str nm):=by rw[f1 (by ac_nf),f0]
 have c2:(Ca "condition" cd (Ca "name" (.str nm) [])).lookup ("condition" : Str)=some cd:=f0;have a2:(Ca "condition" cd (Ca "name" (.str nm) [])).lookup ("asks" : Str)=none:=by rw[f1 (by ac_nf),f1 (by ac_nf)];rfl
 generalize Ca "condition" cd (Ca "name" (.str nm) [])=fs2 at k2 e2 g2 n2 c2 a2;generalize upd (upd H p (.ins As dx (Ca "name" (.str nm) []))) p (.ins As dx fs2)=H2 at k2 e2;refine⟨_,rfl,rfl,_,rfl,?_⟩;refine X4 (λv H'=>∃ cl,v=.ref cl/\H2 cl=none/\H'=upd H2 cl (.lst cs)) (λc Q' k=>?_) (λc Q' k=>?_) ?_
 .have c':cv=.non:=of_decide_eq_true c
  rcases hcl with ⟨_,rfl⟩|⟨c0,e,_⟩
  .exact⟨zAB _,λcl ncl=>k _ _ ⟨cl,rfl,ncl,rfl⟩⟩
  .rw[c'] at e;cases e
 .have c':cv≠.non:=λe=>c (decide_eq_true e)
  rcases hcl with ⟨e,_⟩|⟨c0,rfl,hc⟩
  .exact absurd e c'
  .have ncp:c0≠p:=Eu hc hp (by intro z;cases z)
   exact⟨_,rfl,c0,_,rfl,.inl (WL.of (k2 _ _ hc ncp)),λcl ncl=>k _ _ ⟨cl,rfl,ncl,rfl⟩⟩
 rintro v H3 ⟨cl,rfl,ncl,rfl⟩;have s3:=Ap ncl (.lst cs);have ncl':cl≠p:=(Ak e2 ncl).symm;refine⟨_,rfl,p,As,dx,fs2,rfl,s3 _ _ e2,L.cl_Cover,L.na_Cover_clauses,by omega,?_⟩;have k3:KB p H (upd (upd H2 cl (.lst cs)) p (.ins As dx (Ca "clauses" (.ref cl) fs2))):=(k2.same s3).upd _;have e3:upd (upd H2 cl (.lst cs)) p (.ins As dx (Ca "clauses" (.ref cl) fs2)) p=some (.ins As dx (Ca "clauses" (.ref cl) fs2)):=Ac;have c3:upd (upd H2 cl (.lst cs)) p (.ins As dx (Ca "clauses" (.ref cl) fs2)) cl=some (.lst cs):=by rw[Au ncl',Ac]
 have fcl:H cl=none:=k2.free ncl' ncl;have g3:(Ca "clauses" (.ref cl) fs2).length<=3:=zAD (Hw _ _ _) (by omega);have w3:(Ca "clauses" (.ref cl) fs2).lookup ("clauses" : Str)=some (.ref cl):=f0;have n3:(Ca "clauses" (.ref cl) fs2).lookup ("name" : Str)=some (.str nm):=by rw[f1 (by ac_nf)];exact n2
 have d3:(Ca "clauses" (.ref cl) fs2).lookup ("condition" : Str)=some cd:=by rw[f1 (by ac_nf)];exact c2
 have a3:(Ca "clauses" (.ref cl) fs2).lookup ("asks" : Str)=none:=by rw[f1 (by ac_nf)];exact a2
 generalize Ca "clauses" (.ref cl) fs2=fs3 at k3 e3 c3 g3 w3 n3 d3 a3;generalize upd (upd H2 cl (.lst cs)) p (.ins As dx fs3)=H3 at k3 e3 c3;refine⟨_,rfl,p,As,dx,fs3,_,rfl,e3,L.cl_Cover,L.na_Cover_clauses,w3,cl,_,rfl,.inl (WL.of c3),_,_,rfl,rfl,_,rfl,?_⟩;refine dF (by omega) ?_;refine⟨_,rfl,rfl,_,rfl,?_⟩;refine X4 (λv H'=>∃ pl ys,v=.ref pl/\WJ H3 H'/\H' pl=some (.lst ys)/\XF H' ys prs) (λc Q' k=>?_) (λc Q' k=>?_) ?_
 .have c':hv=.non:=of_decide_eq_true c
  rcases hhs with ⟨_,rfl⟩|⟨c0,_,e,_⟩
  .refine⟨_,rfl,two,λt nt=>⟨one,λpl npl=>k _ _ ⟨pl,[.ref t],rfl,(Ap nt _).trans (Ap npl _),Ac,XF.one (Ap npl _ _ _ Ac)⟩⟩⟩
  .rw[c'] at e;cases e
 .have c':hv≠.non:=λe=>c (decide_eq_true e)
  rcases hhs with ⟨e,_⟩|⟨h0,ys,rfl,hh,ph⟩
  .exact absurd e c'
  .have ncp:h0≠p:=Eu hh hp (by intro z;cases z)
   exact⟨_,rfl,k _ _ ⟨h0,ys,rfl,λ_ _ z=>z,k3 _ _ hh ncp,ph.mono (keep k3)⟩⟩
 rintro v H4 ⟨pl,ys,rfl,s4,ep,pp⟩;refine Hu [some (.ref p),some (.str nm),some cd,some cv,some hv,some wv,some (.ref pl)] rfl ?_;have e4:=s4 _ _ e3;have c4:=s4 _ _ c3;have k4:=k3.same s4;have lp:=pp.len;have npp:pl≠p:=Eu ep e4 (by intro z;cases z);refine⟨_,rfl,pl,rfl,⟨_,WL.of ep⟩,λh1 nh=>?_⟩;refine De (K:=K) (a:=pl) (xs:=ys) (λi zs H5=>zs=((prs.take i).map (·.1))/\H5 h1=some (.lst zs)/\WJ H4 H5) ⟨rfl,Ac,Ap nh _⟩
  (λi zs H5 _ ⟨e,h1',s5⟩=>⟨h1',by rw[e,zAa,zAw];omega,WL.of (s5 _ _ ep)⟩) (by rw[zCf];omega) (λi x zs H5 hi ⟨e,h1',s5⟩=>?_) (λzs H5 ⟨e,h1',s5⟩=>?_)
 .obtain⟨t,r,hp',rfl,ht⟩:=pp.get hi
  refine⟨_,rfl,t,_,_,_,rfl,rfl,WX.of (s5 _ _ ht),rfl,h1',rfl,?_,Ac,λb o z=>?_⟩
  .rw[Bv hp',zAf,e]
   rfl
  .rw[Au (Ak z nh)]
   exact s5 b o z
 subst e;rw[lp,zAt] at h1';have e5:=s5 _ _ e4;have k5:=k4.same s5;have nhp:h1≠p:=(Ak e4 nh).symm;have fh1:H h1=none:=k4.free nhp nh;refine⟨_,rfl,p,As,dx,fs3,rfl,e5,L.cl_Cover,L.na_Cover_houses,by omega,?_⟩;have e6:upd H5 p (.ins As dx (Ca "houses" (.ref h1) fs3)) p=some (.ins As dx (Ca "houses" (.ref h1) fs3)):=Ac;have h6:upd H5 p (.ins As dx (Ca "houses" (.ref h1) fs3)) h1=some (.lst (prs.map (·.1))):=by rw[Au nhp];exact h1'
 have ep6:upd H5 p (.ins As dx (Ca "houses" (.ref h1) fs3)) pl=some (.lst ys):=by rw[Au npp];exact s5 _ _ ep
 have c6:upd H5 p (.ins As dx (Ca "houses" (.ref h1) fs3)) cl=some (.lst cs):=by rw[Au ncl'];exact s5 _ _ c4
 have pp6:XF (upd H5 p (.ins As dx (Ca "houses" (.ref h1) fs3))) ys prs:=pp.mono λt zs z=>by
  have z':=s5 _ _ z;rw[Au (Eu z' e5 (by intro e;cases e))];exact z'
 have k6:KB p H (upd H5 p (.ins As dx (Ca "houses" (.ref h1) fs3))):=k5.upd _;have g6:(Ca "houses" (.ref h1) fs3).length<=4:=zAD (Hw _ _ _) (by omega);have v6:(Ca "houses" (.ref h1) fs3).lookup ("houses" : Str)=some (.ref h1):=f0;have w6:(Ca "houses" (.ref h1) fs3).lookup ("clauses" : Str)=some (.ref cl):=by rw[f1 (by ac_nf)];exact w3
 have n6:(Ca "houses" (.ref h1) fs3).lookup ("name" : Str)=some (.str nm):=by rw[f1 (by ac_nf)];exact n3
 have d6:(Ca "houses" (.ref h1) fs3).lookup ("condition" : Str)=some cd:=by rw[f1 (by ac_nf)];exact d3
 have a6:(Ca "houses" (.ref h1) fs3).lookup ("asks" : Str)=none:=by rw[f1 (by ac_nf)];exact a3
 generalize Ca "houses" (.ref h1) fs3=fs6 at e6 h6 ep6 c6 pp6 k6 g6 v6 w6 n6 d6 a6;generalize upd H5 p (.ins As dx fs6)=H6 at e6 h6 ep6 c6 pp6 k6;refine⟨_,rfl,p,As,dx,fs6,_,rfl,e6,L.cl_Cover,L.na_Cover_houses,v6,h1,hs,rfl,by rw[<- eh];exact h6,okh,ndh,λH7 s7=>?_⟩;have e7:=s7 _ _ e6;have c7:=s7 _ _ c6;have h7:=s7 _ _ h6;have ep7:=s7 _ _ ep6;have pp7:=pp6.mono (Fu s7);have k7:=k6.same s7;refine⟨_,rfl,pl,rfl,⟨_,WL.of ep7⟩,λwl nwl=>?_⟩;refine De (K:=K) (a:=pl) (xs:=ys) (λi zs H8=>zs=((prs.take i).map (·.2))/\H8 wl=some (.lst zs)/\WJ H7 H8) ⟨rfl,Ac,Ap nwl _⟩
  (λi zs H8 _ ⟨e,h2,s8⟩=>⟨h2,by rw[e,zAa,zAw];omega,WL.of (s8 _ _ ep7)⟩) (by rw[zCf];omega) (λi x zs H8 hi ⟨e,h2,s8⟩=>?_) (λzs H8 ⟨e,h2,s8⟩=>?_)
 .obtain⟨t,r,hp',rfl,ht⟩:=pp7.get hi
  refine⟨_,rfl,t,_,_,_,rfl,rfl,WX.of (s8 _ _ ht),rfl,h2,rfl,?_,Ac,λb o z=>?_⟩
  .rw[Bv hp',zAf,e]
   rfl
  .rw[Au (Ak z nwl)]
   exact s8 b o z
 subst e;rw[lp,zAt] at h2;have e8:=s8 _ _ e7;have c8:=s8 _ _ c7;have h8:=s8 _ _ h7;have k8:=k7.same s8;intro d dd nd ndd nde;have nwd:wl≠d:=Ak h2 nd;have nwdd:wl≠dd:=Ak h2 ndd;have npd:d≠p:=(Ak e8 nd).symm;have s9:WJ H8 (upd (upd H8 dd (.own d)) d (.ins Bb dd [])):=(Ap ndd _).trans (Ap (by rw[Au (Ne.symm nde)];exact nd) _);have k9:=k8.same s9;have h29:=s9 _ _ h2;rw[ew] at h29;refine⟨d,dd,wl,ws,rfl,Ac,h29,gws,λwh wt H9 kp9 D9 nwh nwt=>⟨rfl,?_⟩⟩;have s10:WJ H8 H9:=Zo nd ndd kp9;have e10:=s10 _ _ e8;have c10:=s10 _ _ c8;have h10:=s10 _ _ h8;have k10:=k8.same s10;have npwh:wh≠p:=(Ak e8 (Ez nwh)).symm;have npwt:wt≠p:=(Ak e8 (Ez nwt)).symm;refine⟨_,rfl,p,As,dx,fs6,rfl,e10,L.cl_Cover,L.na_Cover_deal,by omega,?_⟩;have g10:(Ca "deal" (.ref d) fs6).length<=5:=zAD (Hw _ _ _) (by omega);have v10:(Ca "deal" (.ref d) fs6).lookup ("houses" : Str)=some (.ref h1):=by rw[f1 (by ac_nf)];exact v6
 have w10:(Ca "deal" (.ref d) fs6).lookup ("clauses" : Str)=some (.ref cl):=by rw[f1 (by ac_nf)];exact w6
 have n10:(Ca "deal" (.ref d) fs6).lookup ("name" : Str)=some (.str nm):=by rw[f1 (by ac_nf)];exact n6
 have d10:(Ca "deal" (.ref d) fs6).lookup ("condition" : Str)=some cd:=by rw[f1 (by ac_nf)];exact d6
 have a10:(Ca "deal" (.ref d) fs6).lookup ("asks" : Str)=none:=by rw[f1 (by ac_nf)];exact a6
 have y10:(Ca "deal" (.ref d) fs6).lookup ("deal" : Str)=some (.ref d):=f0;generalize Ca "deal" (.ref d) fs6=fs10 at g10 v10 w10 n10 d10 a10 y10;refine⟨_,rfl,_,rfl,p,As,dx,_,rfl,Ac,L.cl_Cover,L.na_Cover_waits,by omega,?_⟩;obtain⟨⟨dq,q1⟩,q2,q3⟩:=D9;refine q cl h1 d wh wt _ ((k10.upd _).upd _) ⟨⟨dx,_,Ac,by rw[f1 (by ac_nf)];exact n10,by rw[f1 (by ac_nf)];exact d10,by rw[f1 (by ac_nf)];exact w10,by rw[f1 (by ac_nf)];exact v10,by rw[f1 (by ac_nf)];exact y10,f0,by rw[f1 (by ac_nf)];exact a10⟩,?_,?_,⟨dq,?_⟩,?_,?_⟩ fcl fh1 (k8.free npd nd) (k8.free npwh (Ez nwh)) (k8.free npwt (Ez nwt))
 .rw[Au ncl',Au ncl'];exact c10
 .rw[Au nhp,Au nhp];exact h10
 .rw[Au npd,Au npd];exact q1
 .rw[Au npwh,Au npwh];exact q2
 .rw[Au npwt,Au npwt];exact q3
end
inductive Cl where
 |own (y:Str) (d:Int)|lay (y:Str) (a b:Int)|lim (y:Str) (m:Int)|any (y:Str)
def Cl.way:Cl->Str
 |.own y _=>y
 |.lay y _ _=>y
 |.lim y _=>y
 |.any y=>y
def Jm:Cl->List (Str×V)
 |.own y d=>Ca "cents" (.int d) (Ca "by" (.str y) [])
 |.lay y a b=>Ca "upto" (.int b) (Ca "first" (.int a) (Ca "by" (.str y) []))
 |.lim y m=>Ca "most" (.int m) (Ca "by" (.str y) [])
 |.any y=>Ca "by" (.str y) []
def Ma (y:Str):Prop:=y="event" \/ y="thing" \/ y="year" \/ y="loss"
def Q8 (d:Int):Prop:=0<=d/\d<=999999999999
def Yy (CC CO CL CM:Addr):Cl->Addr
 |.own _ _=>CO
 |.lay _ _ _=>CL
 |.lim _ _=>CM
 |.any _=>CC
def XU (CC CO CL CM:Addr) (H:Hp) (p:Addr) (c:Cl):Prop:=∃ dx,H p=some (.ins (Yy CC CO CL CM c) dx (Jm c))
def Fam (CC CO CL CM:Addr) (C:Addr):Prop:=C=CC\/C=CO\/C=CL\/C=CM
def XU.same {CC CO CL CM:Addr} {H H':Hp} {p:Addr} {c:Cl} (h:XU CC CO CL CM H p c) (s:WJ H H'):XU CC CO CL CM H' p c:=by
 obtain⟨dx,e⟩:=h;exact⟨dx,s _ _ e⟩
def QF {y:Str} (h:Ma y):JX (.str y) [.str "event",.str "thing",.str "year",.str "loss"]=true:=by
 rcases h with rfl|rfl|rfl|rfl <;> decide +kernel
def VF:¬ (("by" : Str)="cents"):=by ac_nf
def TM:¬ (("by" : Str)="upto"):=by ac_nf
def UQ:¬ (("by" : Str)="first"):=by ac_nf
def TF:¬ (("by" : Str)="most"):=by ac_nf
def TW:¬ (("first" : Str)="upto"):=by ac_nf
def IQ (c:Cl):(Jm c).lookup ("by" : Str)=some (.str c.way):=by
 cases c with
 |own y d=>unfold Jm;rw[Bm,if_neg VF,Bm,if_pos rfl];rfl
 |lay y a b=>unfold Jm;rw[Bm,if_neg TM,Bm,if_neg UQ,Bm,if_pos rfl];rfl
 |lim y m=>unfold Jm;rw[Bm,if_neg TF,Bm,if_pos rfl];rfl
 |any y=>unfold Jm;rw[Bm,if_pos rfl];rfl
def GP (y:Str) (d:Int):(Jm (.own y d)).lookup ("cents" : Str)=some (.int d):=by unfold Jm;rw[Bm,if_pos rfl]
def KY (y:Str) (a b:Int):(Jm (.lay y a b)).lookup ("upto" : Str)=some (.int b):=by unfold Jm;rw[Bm,if_pos rfl]
def GM (y:Str) (a b:Int):(Jm (.lay y a b)).lookup ("first" : Str)=some (.int a):=by unfold Jm;rw[Bm,if_neg TW,Bm,if_pos rfl]
def KI (y:Str) (m:Int):(Jm (.lim y m)).lookup ("most" : Str)=some (.int m):=by unfold Jm;rw[Bm,if_pos rfl]
def QV (c:Cl) {m:Str} (h1:¬ m="by") (h2:¬ m="cents") (h3:¬ m="first") (h4:¬ m="upto") (h5:¬ m="most"):(Jm c).lookup m=none:=by
 cases c with
 |own y d=>unfold Jm;rw[Bm,if_neg h2,Bm,if_neg h1];rfl
 |lay y a b=>unfold Jm;rw[Bm,if_neg h4,Bm,if_neg h3,Bm,if_neg h1];rfl
 |lim y n=>unfold Jm;rw[Bm,if_neg h5,Bm,if_neg h1];rfl
 |any y=>unfold Jm;rw[Bm,if_neg h1];rfl
inductive IL  (vs:List V) (H:Hp) (Q:VK):Prop
 |mk (n:Int) (z0:vs=[.int n]) (z1:Q8 n) (z2:Q (.int n) H):IL  vs H Q
def T9:Sp:=λvs H Q _=>IL  vs H Q
inductive MT (CC CO CL CM:Addr) (vs:List V) (H:Hp) (Q:VK):Prop
 |mk (p:_) (C:_) (dx:_) (fs:_) (y:_) (z0:vs=[.ref p,.str y]) (z1:H p=some (.ins C dx fs)) (z2:Fam CC CO CL CM C) (z3:fs.length<1000) (z4:Ma y) (z5:Q .non (upd H p (.ins C dx (Ca "by" (.str y) fs)))):MT CC CO CL CM vs H Q
def IZ (CC CO CL CM:Addr):Sp:=λvs H Q _=>MT CC CO CL CM vs H Q
inductive JG (CC CO CL CM:Addr) (vs:List V) (H:Hp) (Q:VK):Prop
 |mk (p:_) (dx:_) (y:_) (d:Int) (z0:vs=[.ref p,.str y,.int d]) (z1:H p=some (.ins CO dx [])) (z2:Ma y) (z3:Q8 d) (z4:∀ H',(∀ b o,H b=some o->b≠p->H' b=some o)->XU CC CO CL CM H' p (.own y d)->Q .non H'):JG CC CO CL CM vs H Q
def JP (CC CO CL CM:Addr):Sp:=λvs H Q _=>JG CC CO CL CM vs H Q
inductive JQ (CC CO CL CM:Addr) (vs:List V) (H:Hp) (Q:VK):Prop
 |mk (p:_) (dx:_) (y:_) (a b:Int) (z0:vs=[.ref p,.str y,.int a,.int b]) (z1:H p=some (.ins CL dx [])) (z2:Ma y) (z3:Q8 a) (z4:Q8 b) (z5:a<b) (z6:∀ H',(∀ b o,H b=some o->b≠p->H' b=some o)->XU CC CO CL CM H' p (.lay y a b)->Q .non H'):JQ CC CO CL CM vs H Q
def GY (CC CO CL CM:Addr):Sp:=λvs H Q _=>JQ CC CO CL CM vs H Q
inductive FM (CC CO CL CM:Addr) (vs:List V) (H:Hp) (Q:VK):Prop
 |mk (p:_) (dx:_) (y:_) (d:Int) (z0:vs=[.ref p,.str y,.int d]) (z1:H p=some (.ins CM dx [])) (z2:Ma y) (z3:Q8 d) (z4:∀ H',(∀ b o,H b=some o->b≠p->H' b=some o)->XU CC CO CL CM H' p (.lim y d)->Q .non H'):FM CC CO CL CM vs H Q
def HB (CC CO CL CM:Addr):Sp:=λvs H Q _=>FM CC CO CL CM vs H Q
section
variable {P:Program} {w:World} {K:zAb} {mg:Str->Option Value} {base:Heap} {Ab Ae Ad Ah Ao Ax Ay Am Al Ba An Aq Bb As Bd Af Aw:Addr}
def UE (L:Kl K mg Ab Ae Ad Ah Ao Ax Ay Am Al Ba An Aq Bb As Bd Af Aw):([Al,Ba,An,Aq]:List Addr).Nodup:=
 List.Nodup.sublist (List.sublist_append_left [Al,Ba,An,Aq] [Bb,As,Bd,Af,Aw]) (List.Nodup.sublist (List.drop_sublist 8 [Ab,Ae,Ad,Ah,Ao,Ax,Ay,Am,Al,Ba,An,Aq,Bb,As,Bd,Af,Aw]) L.nd)
def LA (L:Kl K mg Ab Ae Ad Ah Ao Ax Ay Am Al Ba An Aq Bb As Bd Af Aw) {c:Cl} (h:Yy Al Ba An Aq c=Ba):∃ y d,c=.own y d:=by
 have nd:=UE L;simp only [zBd,zAj,zAV,not_or,or_false] at nd;cases c with
 |own y d=>exact⟨y,d,rfl⟩
 |any _=>exact absurd (show Al=Ba from h) nd.1.1
 |lay _ _ _=>exact absurd (show An=Ba from h).symm nd.2.1.1
 |lim _ _=>exact absurd (show Aq=Ba from h).symm nd.2.1.2
def KP (L:Kl K mg Ab Ae Ad Ah Ao Ax Ay Am Al Ba An Aq Bb As Bd Af Aw) {c:Cl} (h:Yy Al Ba An Aq c=An):∃ y a b,c=.lay y a b:=by
 have nd:=UE L;simp only [zBd,zAj,zAV,not_or,or_false] at nd;cases c with
 |lay y a b=>exact⟨y,a,b,rfl⟩
 |any _=>exact absurd (show Al=An from h) nd.1.2.1
 |own _ _=>exact absurd (show Ba=An from h) nd.2.1.1
 |lim _ _=>exact absurd (show Aq=An from h).symm nd.2.2.1
def MA (L:Kl K mg Ab Ae Ad Ah Ao Ax Ay Am Al Ba An Aq Bb As Bd Af Aw) {c:Cl} (h:Yy Al Ba An Aq c=Aq):∃ y m,c=.lim y m:=by
 have nd:=UE L;simp only [zBd,zAj,zAV,not_or,or_false] at nd;cases c with
 |lim y m=>exact⟨y,m,rfl⟩
 |any _=>exact absurd (show Al=Aq from h) nd.1.2.2
 |own _ _=>exact absurd (show Ba=Aq from h) nd.2.1.2
 |lay _ _ _=>exact absurd (show An=Aq from h) nd.2.2.1
def Qo:Bc ["thing"] ["thing"] (Av Hj):=by injections
def Rq {f:Addr} {fd:zCh} (F:WV K "checked_amount" "checked_amount" Hj f fd) (T:Txt K mg) (Cis_amount:Cy P w K mg base 2 "is_amount" ["thing"] (JA K 999999999999)):WN P w K mg base Do 3 f fd ["thing"] T9:=by
 have sc:=Qo;bv_omega
 .obtain⟨_,rfl,_⟩:=h
  rfl
 obtain⟨n,rfl,⟨h0,h1⟩,q⟩:=h;refine⟨_,(Ai (Bu (Ee (Dc (Az Cis_amount (hr.mono (by decide)) rfl (Aa (pv 0) Ag))))
    (Aj Cf)
    Bj)
   (Aj (Bh (pv 0)))),?_⟩
 refine⟨_,rfl,_,_,rfl,.int n,_,rfl,?_⟩;rw[show VA 999999999999 (.int n)=true from decide_eq_true ⟨h0,h1⟩];exact Ep ⟨_,rfl,q⟩
def Pi:Bc ["self","by"] ["self","by"] (Av Gp):=by injections
def Qm {f:Addr} {fd:zCh} (F:WV K "__init__" "Clause.__init__" Gp f fd) (T:Txt K mg) (L:Kl K mg Ab Ae Ad Ah Ao Ax Ay Am Al Ba An Aq Bb As Bd Af Aw):WN P w K mg base Do 2 f fd ["self","by"] (IZ Al Ba An Aq):=by
 have sc:=Pi;bv_omega
 .obtain⟨_,_,_,_,_,rfl,_⟩:=h
  rfl
 obtain⟨p,C,dx,fs,y,rfl,hp,fam,hl,hy,q⟩:=h;refine⟨_,(Ai (Bu (PW.pt (Fe (Ee (Dc (Bq Dp rfl T.n_isinstance (show zCg _=some (.builtin "isinstance") from rfl) (Aa (pv 1) (Aa (Oy "str" rfl T.n_str rfl) Ag))))) (Et (Bf Rn (pv 1) (LM T.t_WAYS rfl) rfl))))
    (Aj Cf)
    Bj)
   (Aj (Ct (pv 0) (pv 1) rfl))),?_⟩
 refine⟨_,rfl,_,_,_,_,_,rfl,Ow,.str y,AG,_,rfl,Ep ?_⟩;refine⟨_,rfl,λa hs=>⟨a,_,rfl,.inr hs,rfl,rfl,_,rfl,?_⟩⟩;show if (!JX (.str y) [.str "event",.str "thing",.str "year",.str "loss"])=true then _ else _;rw[QF hy];refine Ep ?_;have cl:XI K C:=by
  rcases fam with rfl|rfl|rfl|rfl
  .exact L.cl_Clause
  .exact L.cl_Own
  .exact L.cl_Layer
  .exact L.cl_Limit
 have na:WQ K C "by":=by
  rcases fam with rfl|rfl|rfl|rfl
  .exact L.na_Clause_by
  .exact L.na_Own_by
  .exact L.na_Layer_by
  .exact L.na_Limit_by
 exact⟨_,rfl,_,rfl,p,C,dx,fs,rfl,hp,cl,na,hl,q⟩
def Vc:Bc ["self","by","cents"] ["self","by","cents"] (Av Jf):=by injections
def Us {f:Addr} {fd:zCh} (F:WV K "__init__" "Own.__init__" Jf f fd) (T:Txt K mg) (L:Kl K mg Ab Ae Ad Ah Ao Ax Ay Am Al Ba An Aq Bb As Bd Af Aw) (BClause___init__:ID P w K mg base 2 "Clause" "__init__" ["self","by"] (IZ Al Ba An Aq)) (Cchecked_amount:Cy P w K mg base 3 "checked_amount" ["thing"] T9) :
  WN P w K mg base Do 4 f fd ["self","by","cents"] (JP Al Ba An Aq):=by
 have sc:=Vc;bv_omega
 .obtain⟨_,_,_,_,rfl,_⟩:=h
  rfl
 obtain⟨p,dx,y,d,rfl,hp,hy,hd,q⟩:=h;refine⟨_,(Ai (Bz (Xb BClause___init__ (hr.mono (by decide)) rfl (Aa (pv 0) (Aa (pv 1) Ag))))
   (Aj (Ct (pv 0) (Az Cchecked_amount (hr.mono (by decide)) rfl (Aa (pv 2) Ag)) rfl))),?_⟩
 refine⟨_,rfl,_,rfl,p,_,dx,[],y,rfl,hp,.inr (.inl rfl),by decide,hy,?_⟩;exact⟨_,rfl,d,rfl,hd,_,rfl,p,_,dx,_,rfl,Ac,L.cl_Own,L.na_Own_cents,(by show 1<1000;decide),q _ (λb o z n=>by rw[Au n,Au n];exact z) ⟨dx,Ac⟩⟩
def Sd:Bc ["self","by","first","upto"] ["self","by","first","upto"] (Av Hi):=by injections
def Sc {f:Addr} {fd:zCh} (F:WV K "__init__" "Layer.__init__" Hi f fd) (T:Txt K mg) (L:Kl K mg Ab Ae Ad Ah Ao Ax Ay Am Al Ba An Aq Bb As Bd Af Aw) (BClause___init__:ID P w K mg base 2 "Clause" "__init__" ["self","by"] (IZ Al Ba An Aq)) (Cchecked_amount:Cy P w K mg base 3 "checked_amount" ["thing"] T9) :
  WN P w K mg base Do 4 f fd ["self","by","first","upto"] (GY Al Ba An Aq):=by
 have sc:=Sd;bv_omega
 .obtain⟨_,_,_,_,_,rfl,_⟩:=h
  rfl
 obtain⟨p,dx,y,a,b,rfl,hp,hy,ha,hb,hab,q⟩:=h;refine⟨_,(Ai (Bz (Xb BClause___init__ (hr.mono (by decide)) rfl (Aa (pv 0) (Aa (pv 1) Ag))))
   (Ai (Ct (pv 0) (Az Cchecked_amount (hr.mono (by decide)) rfl (Aa (pv 2) Ag)) rfl)
   (Ai (Ct (pv 0) (Az Cchecked_amount (hr.mono (by decide)) rfl (Aa (pv 3) Ag)) rfl)
   (Aj (Bu (Ee (Bf Mb (pv 2) (pv 3) (Bk _)))
    (Aj Cf)
    Bj))))),?_⟩
 refine⟨_,rfl,_,rfl,p,_,dx,[],y,rfl,hp,.inr (.inr (.inl rfl)),by decide,hy,?_⟩;refine⟨_,rfl,a,rfl,ha,_,rfl,p,_,dx,_,rfl,Ac,L.cl_Layer,L.na_Layer_first,(by show 1<1000;decide),?_⟩;refine⟨_,rfl,b,rfl,hb,_,rfl,p,_,dx,_,rfl,Ac,L.cl_Layer,L.na_Layer_upto,(by show 2<1000;decide),?_⟩;refine⟨_,rfl,_,rfl,_,_,rfl,rfl,_,rfl,nF hab ?_⟩;exact q _ (λb o z n=>by rw[Au n,Au n,Au n];exact z) ⟨dx,Ac⟩
def Qy:Bc ["self","by","most"] ["self","by","most"] (Av Hm):=by injections
def Ry {f:Addr} {fd:zCh} (F:WV K "__init__" "Limit.__init__" Hm f fd) (T:Txt K mg) (L:Kl K mg Ab Ae Ad Ah Ao Ax Ay Am Al Ba An Aq Bb As Bd Af Aw) (BClause___init__:ID P w K mg base 2 "Clause" "__init__" ["self","by"] (IZ Al Ba An Aq)) (Cchecked_amount:Cy P w K mg base 3 "checked_amount" ["thing"] T9) :
  WN P w K mg base Do 4 f fd ["self","by","most"] (HB Al Ba An Aq):=by
 have sc:=Qy;bv_omega
 .obtain⟨_,_,_,_,rfl,_⟩:=h
  rfl
 obtain⟨p,dx,y,d,rfl,hp,hy,hd,q⟩:=h;refine⟨_,(Ai (Bz (Xb BClause___init__ (hr.mono (by decide)) rfl (Aa (pv 0) (Aa (pv 1) Ag))))
   (Aj (Ct (pv 0) (Az Cchecked_amount (hr.mono (by decide)) rfl (Aa (pv 2) Ag)) rfl))),?_⟩
 refine⟨_,rfl,_,rfl,p,_,dx,[],y,rfl,hp,.inr (.inr (.inr rfl)),by decide,hy,?_⟩;exact⟨_,rfl,d,rfl,hd,_,rfl,p,_,dx,_,rfl,Ac,L.cl_Limit,L.na_Limit_most,(by show 1<1000;decide),q _ (λb o z n=>by rw[Au n,Au n];exact z) ⟨dx,Ac⟩⟩
end
def SI:Cl->Prop
 |.own _ d=>Q8 d
 |.lay _ a b=>Q8 a/\Q8 b
 |.lim _ m=>Q8 m
 |.any _=>True
def sh (d:Int):V:=.str (tx (Dn d.toNat))
def BN:Cl->List V
 |.own y d=>[.str "own",.str y,sh d]
 |.lay y a b=>[.str "layer",.str y,sh a,sh b]
 |.lim y m=>[.str "limit",.str y,sh m]
 |.any _=>[]
def MM (c:Cl):(Jm c).lookup ("words" : Str)=none:=QV c (by ac_nf) (by ac_nf) (by ac_nf) (by ac_nf) (by ac_nf)
inductive MZ (CC CO CL CM:Addr) (C:Addr) (vs:List V) (H:Hp) (Q:VK):Prop
 |mk (p:_) (c:_) (z0:vs=[.ref p]) (z1:XU CC CO CL CM H p c) (z2:Yy CC CO CL CM c=C) (z3:SI c) (z4:∀ l H',WJ H H'->H l=none->H' l=some (.lst (BN c))->Q (.ref l) H'):MZ CC CO CL CM C vs H Q
def DK (CC CO CL CM:Addr) (C:Addr):Sp:=λvs H Q _=>MZ CC CO CL CM C vs H Q
def Sf {d:Int} (h:Q8 d):d=((d.toNat:Nat):Int)/\d.toNat<10^60:=by
 obtain⟨h0,h1⟩:=h;refine⟨by lia,?_⟩;have:d.toNat<10^13:=by lia
 exact zAE this (zBN (by decide) (by decide))
def D1 {d:Int} (h:Q8 d):([V.int d]++[]:List V)=[.int (d.toNat:Nat)]:=by rw[zAI,<- (Sf h).1]
section
variable {P:Program} {w:World} {K:zAb} {mg:Str->Option Value} {base:Heap} {Ab Ae Ad Ah Ao Ax Ay Am Al Ba An Aq Bb As Bd Af Aw:Addr}
def G4:Bc ["self"] ["self"] (Av Nn):=by injections
def K9 {f:Addr} {fd:zCh} (F:WV K "words" "Own.words" Nn f fd) (T:Txt K mg) (L:Kl K mg Ab Ae Ad Ah Ao Ax Ay Am Al Ba An Aq Bb As Bd Af Aw) (Cshow_cents:Cy P w K mg base 1 "show_cents" ["cents"] Jx):WN P w K mg base Do 2 f fd ["self"] (DK Al Ba An Aq Ba):=by
 have sc:=G4;bv_omega
 .obtain⟨_,_,rfl,_⟩:=h
  rfl
 obtain⟨p,c,rfl,⟨dx,hp⟩,hc,ha,q⟩:=h;obtain⟨y,d,rfl⟩:=LA L hc;refine⟨_,(Aj (Bh (Cb (Aa Bg (Aa (Bx (pv 0) rfl) (Aa (Az Cshow_cents (hr.mono (by decide)) rfl (Aa (Bx (pv 0) rfl) Ag)) Ag)))))),?_⟩;refine⟨_,rfl,p,_,dx,_,_,rfl,hp,L.cl_Own,L.na_Own_by,IQ (.own y d),_,rfl,p,_,dx,_,_,rfl,hp,L.cl_Own,L.na_Own_cents,GP y d,d.toNat,D1 ha,(Sf ha).2,?_⟩;exact⟨by show 3<=sizeLine;rw[zCf];decide,λl hl=>q l _ (Ap hl _) hl Ac⟩
def Wm:Bc ["self"] ["self"] (Av Kf):=by injections
def Xg {f:Addr} {fd:zCh} (F:WV K "words" "Layer.words" Kf f fd) (T:Txt K mg) (L:Kl K mg Ab Ae Ad Ah Ao Ax Ay Am Al Ba An Aq Bb As Bd Af Aw) (Cshow_cents:Cy P w K mg base 1 "show_cents" ["cents"] Jx):WN P w K mg base Do 2 f fd ["self"] (DK Al Ba An Aq An):=by
 have sc:=Wm;bv_omega
 .obtain⟨_,_,rfl,_⟩:=h
  rfl
 obtain⟨p,c,rfl,⟨dx,hp⟩,hc,ha,q⟩:=h;obtain⟨y,a,b,rfl⟩:=KP L hc;refine⟨_,(Aj (Bh (Cb (Aa Bg (Aa (Bx (pv 0) rfl) (Aa (Az Cshow_cents (hr.mono (by decide)) rfl (Aa (Bx (pv 0) rfl) Ag)) (Aa (Az Cshow_cents (hr.mono (by decide)) rfl (Aa (Bx (pv 0) rfl) Ag)) Ag))))))),?_⟩;refine⟨_,rfl,p,_,dx,_,_,rfl,hp,L.cl_Layer,L.na_Layer_by,IQ (.lay y a b),_,rfl,p,_,dx,_,_,rfl,hp,L.cl_Layer,L.na_Layer_first,GM y a b,a.toNat,D1 ha.1,(Sf ha.1).2,?_⟩;refine⟨_,rfl,p,_,dx,_,_,rfl,hp,L.cl_Layer,L.na_Layer_upto,KY y a b,b.toNat,D1 ha.2,(Sf ha.2).2,?_⟩;exact⟨by show 4<=sizeLine;rw[zCf];decide,λl hl=>q l _ (Ap hl _) hl Ac⟩
def Wf:Bc ["self"] ["self"] (Av Kg):=by injections
def Xj {f:Addr} {fd:zCh} (F:WV K "words" "Limit.words" Kg f fd) (T:Txt K mg) (L:Kl K mg Ab Ae Ad Ah Ao Ax Ay Am Al Ba An Aq Bb As Bd Af Aw) (Cshow_cents:Cy P w K mg base 1 "show_cents" ["cents"] Jx):WN P w K mg base Do 2 f fd ["self"] (DK Al Ba An Aq Aq):=by
 have sc:=Wf;bv_omega
 .obtain⟨_,_,rfl,_⟩:=h
  rfl
 obtain⟨p,c,rfl,⟨dx,hp⟩,hc,ha,q⟩:=h;obtain⟨y,m,rfl⟩:=MA L hc;refine⟨_,(Aj (Bh (Cb (Aa Bg (Aa (Bx (pv 0) rfl) (Aa (Az Cshow_cents (hr.mono (by decide)) rfl (Aa (Bx (pv 0) rfl) Ag)) Ag)))))),?_⟩;refine⟨_,rfl,p,_,dx,_,_,rfl,hp,L.cl_Limit,L.na_Limit_by,IQ (.lim y m),_,rfl,p,_,dx,_,_,rfl,hp,L.cl_Limit,L.na_Limit_most,KI y m,m.toNat,D1 ha,(Sf ha).2,?_⟩;exact⟨by show 3<=sizeLine;rw[zCf];decide,λl hl=>q l _ (Ap hl _) hl Ac⟩
end
abbrev Cv:=Addr×Str×Bool
def Vi (c:Cv):V:=.ref c.1
def XE (C:Addr) (H:Hp) (cs:List Cv):Prop:=∀ c∈cs,∃ dx fs,H c.1=some (.ins C dx fs)/\fs.lookup ("name" : Str)=some (.str c.2.1)/\fs.lookup ("waits" : Str)=some (.bl c.2.2)
def XE.same {C:Addr} {H H':Hp} {cs:List Cv} (h:XE C H cs) (s:WJ H H'):XE C H' cs:=λc hc=>by
 obtain⟨dx,fs,e,r⟩:=h c hc;exact⟨dx,fs,s _ _ e,r⟩
def XE.get {C:Addr} {H:Hp} {cs:List Cv} {i:Nat} {x:V} (h:XE C H cs) (e:(cs.map Vi)[i]?=some x):∃ c dx fs,cs[i]?=some c/\x=.ref c.1/\c∈cs/\H c.1=some (.ins C dx fs)/\fs.lookup ("name" : Str)=some (.str c.2.1)/\fs.lookup ("waits" : Str)=some (.bl c.2.2):=by
 rw[zAx] at e;obtain⟨c,hc,rfl⟩:=zAH.mp e;have m:=zAs hc;obtain⟨dx,fs,r⟩:=h c m;exact⟨c,dx,fs,hc,rfl,m,r⟩
def XE.ne {C CB:Addr} {H:Hp} {cs:List Cv} {p dx:Addr} (h:XE C H cs) (hp:H p=some (.ins CB dx [])):∀ c∈cs,c.1≠p:=λc hc z=>by
 obtain⟨d2,fs,e,n,_⟩:=h c hc;rw[z,hp] at e;injection e with e;injection e with _ _ e;subst e;cases n
def XE.kb {C CB:Addr} {H H':Hp} {cs:List Cv} {p dx:Addr} (h:XE C H cs) (hp:H p=some (.ins CB dx [])) (k:KB p H H'):XE C H' cs:=λc hc=>by
 obtain⟨d2,fs,e,r⟩:=h c hc;exact⟨d2,fs,k _ _ e (h.ne hp c hc),r⟩
def QY (cs:List Cv):List Cv:=cs.filter (λc => !c.2.2)++cs.filter (λc=>c.2.2)
structure YD (CB:Addr) (H:Hp) (p cl ak:Addr) (cs:List Cv):Prop where
 ob:∃ dx fs,H p=some (.ins CB dx fs)/\fs.lookup ("covers" : Str)=some (.ref cl)/\fs.lookup ("asking" : Str)=some (.ref ak)/\fs.lookup ("named" : Str)=none
 hc:H cl=some (.lst (cs.map Vi))
 ha:H ak=some (.lst ((QY cs).map Vi))
def YD.same {CB:Addr} {H H':Hp} {p cl ak:Addr} {cs:List Cv} (h:YD CB H p cl ak cs) (s:WJ H H'):YD CB H' p cl ak cs:=by
 obtain⟨⟨dx,fs,e,r⟩,h1,h2⟩:=h;exact⟨⟨dx,fs,s _ _ e,r⟩,s _ _ h1,s _ _ h2⟩
inductive CT (C CB:Addr) (vs:List V) (H:Hp) (Q:VK):Prop
 |mk (p:_) (dx:_) (a:_) (cs:_) (z0:vs=[.ref p,.ref a]) (z1:H p=some (.ins CB dx [])) (z2:H a=some (.lst (cs.map Vi))) (z3:XE C H cs) (z4:cs.length<=8) (z5:(cs.map (·.2.1)).Nodup) (z6:∀ cl ak H',KB p H H'->YD CB H' p cl ak cs->H cl=none->H ak=none->Q .non H'):CT C CB vs H Q
def Y0 (C CB:Addr):Sp:=λvs H Q _=>CT C CB vs H Q
def Zb {α:Type} {l:List α} {f:α->Bool} {i:Nat} {x:α} (h:l[i]?=some x):(l.take (i+1)).filter f=(l.take i).filter f++if f x=true then [x] else []:=by
 rw[Bv h,List.filter_append];by_cases c:f x=true
 .rw[if_pos c,List.filter_cons_of_pos c,List.filter_nil]
 .rw[if_neg c,List.filter_cons_of_neg c,List.filter_nil]
section
variable {P:Program} {w:World} {K:zAb} {mg:Str->Option Value} {base:Heap} {Ab Ae Ad Ah Ao Ax Ay Am Al Ba An Aq Bb As Bd Af Aw:Addr}
def Td:Bc ["self","covers","names","firm","waiting"] ["self","covers"] (Av Ih):=by injections
def Tc {f:Addr} {fd:zCh} (F:WV K "__init__" "Book.__init__" Ih f fd) (T:Txt K mg) (L:Kl K mg Ab Ae Ad Ah Ao Ax Ay Am Al Ba An Aq Bb As Bd Af Aw):WN P w K mg base Do 1 f fd ["self","covers"] (Y0 As Bd):=by
 have sc:=Td;bv_omega
 .obtain⟨_,_,_,_,rfl,_⟩:=h
  rfl
 obtain⟨p,dx,a,cs,rfl,hp,ha,hcs,l8,nd,q⟩:=h;have l60:cs.length<60:=by lia
 refine⟨_,(Ai (Bu (Bf Uk (Bq Bp rfl T.n_len (show zCg _=some (.builtin "len") from rfl) (Aa (pv 1) Ag)) (Dv T.g_MOST_COVERS rfl) (Bk _))
    (Aj Cf)
    Bj)
   (Ai (Oe (NC:=["cover"]) (own:=["cover"]) (cs:=[]) (ix:=[]) (j:=2) sc.nd rfl rfl rfl (WO.of rfl) rfl trivial (Dg (pv 1)) (λ_ _ _=>(Bl (i:=0) (show (["cover"]:List Str).Nodup from by ac_nf) rfl (Or.inl rfl))) (λ_ _ _=>Dq) (λ_ _ _=>(Vk (K:=K) (pv 0) rfl)))
   (Ai (Bu (Bf Mb (EK (pv 2) rfl rfl T.n_len rfl T.n_set) (Bq Bp rfl T.n_len (show zCg _=some (.builtin "len") from rfl) (Aa (pv 2) Ag)) (Bk _))
    (Aj Cf)
    Bj)
   (Ai (Ct (pv 0) (Ck Er rfl T.n_list (show zCg _=some (.type "list") from rfl) (Aa (pv 1) Ag)) rfl)
   (Ai (Oe (NC:=["cover"]) (own:=["cover"]) (cs:=[]) (ix:=[]) (j:=3) sc.nd rfl rfl rfl (WO.of rfl) rfl trivial (Dg (pv 1)) (λ_ _ _=>(Bl (i:=0) (show (["cover"]:List Str).Nodup from by ac_nf) rfl (Or.inl rfl))) (λ_ _ _=>(Zz (Ee (Dc (Vk (K:=K) (pv 0) rfl))))) (λ_ _ _=>(pv 0)))
   (Ai (Oe (NC:=["cover"]) (own:=["cover"]) (cs:=[]) (ix:=[]) (j:=4) sc.nd rfl rfl rfl (WO.of rfl) rfl trivial (Dg (pv 1)) (λ_ _ _=>(Bl (i:=0) (show (["cover"]:List Str).Nodup from by ac_nf) rfl (Or.inl rfl))) (λ_ _ _=>(Zz (Dc (Vk (K:=K) (pv 0) rfl)))) (λ_ _ _=>(pv 0)))
   (Aj (Ct (pv 0) (Be Jc (pv 3) (pv 4)) rfl)))))))),?_⟩
 refine W0 λN eN=>?_;have one:1<=sizeLine:=by rw[zCf];decide
 have k0:KB p H H:=λ_ _ e _=>e;have lm:(cs.map Vi).length=cs.length:=zAa _;have nap:a≠p:=Eu ha hp (by intro z;cases z);refine (vE rfl ⟨a,_,rfl,(.inl (WL.of ha)),(vF rfl rfl (vE rfl ?_))⟩);refine dF (by rw[lm];lia) ?_;refine A3 eN λN eN=>?_;refine (vE rfl ⟨a,rfl,⟨_,WL.of ha⟩,λn nn=>?_⟩);refine De (K:=K) (a:=a) (xs:=cs.map Vi) (λi ys H2=>ys=((cs.take i).map (·.2.1)).map V.str/\H2 n=some (.lst ys)/\WJ H H2) ⟨rfl,Ac,Ap nn _⟩
  (λi ys H2 _ ⟨e,h1,s2⟩=>⟨h1,by rw[e,zAa,zAa,zAw];lia,WL.of (s2 _ _ ha)⟩) (by rw[zCf];lia) (λi x ys H2 hi ⟨e,h1,s2⟩=>?_) (λys H2 ⟨e,h1,s2⟩=>?_)
 .obtain⟨c,dc,fc,ec,rfl,mc,hc,n1,w1⟩:=hcs.get hi
  refine (vE rfl ⟨c.1,As,dc,fc,_,rfl,(s2 _ _ hc),L.cl_Cover,L.na_Cover_name,n1,h1,rfl,?_,Ac,(λb o z=>?_)⟩)
  .rw[Bv ec,zAf,zAf,e]
   rfl
  .rw[Au (Ak z nn)]
   exact s2 b o z
 rw[lm,zAt] at e;subst e;refine AX eN [some (.ref p),some (.ref a),some (.ref n),none,none] rfl λN eN=>?_;have hp2:=s2 _ _ hp;have ha2:=s2 _ _ ha;have k2:KB p H H2:=k0.same s2;have hcs2:=hcs.same s2;refine (vE rfl ⟨n,cs.map (·.2.1),rfl,WL.of h1,by rw[zAa];exact l60,λm m1 m2=>?_⟩);refine (vE rfl ⟨n,_,rfl,(.inl (WL.of h1)),(vF rfl rfl (vE rfl ?_))⟩);have:=m1 nd;refine dF (by rw[zAa];lia) ?_;clear m1 m2 this;refine A3 eN λN eN=>?_;refine (vE rfl ⟨a,_,rfl,(.inl (WL.of ha2)),(λcl ncl=>?_)⟩);have s3:=Ap ncl (.lst (cs.map Vi));have ncp:cl≠p:=(Ak hp2 ncl).symm;refine (vE rfl ⟨p,Bd,dx,[],rfl,s3 _ _ hp2,L.cl_Book,L.na_Book_covers,by decide,?_⟩);have k3:KB p H (upd (upd H2 cl (.lst (cs.map Vi))) p (.ins Bd dx (Ca "covers" (.ref cl) []))):=(k2.same s3).upd _;have e3:upd (upd H2 cl (.lst (cs.map Vi))) p (.ins Bd dx (Ca "covers" (.ref cl) [])) p=some (.ins Bd dx (Ca "covers" (.ref cl) [])):=Ac;have c3:upd (upd H2 cl (.lst (cs.map Vi))) p (.ins Bd dx (Ca "covers" (.ref cl) [])) cl=some (.lst (cs.map Vi)):=by rw[Au ncp,Ac]
 have fcl:H cl=none:=k2.free ncp ncl;have hcs3:=hcs.kb hp k3;have ha3:=k3 _ _ ha nap;generalize upd (upd H2 cl (.lst (cs.map Vi))) p (.ins Bd dx (Ca "covers" (.ref cl) []))=H3 at k3 e3 c3 hcs3 ha3;refine A3 eN λN eN=>?_;refine (vE rfl ⟨a,rfl,⟨_,WL.of ha3⟩,λfi nfi=>?_⟩);refine De (K:=K) (a:=a) (xs:=cs.map Vi) (λi ys H4=>ys=((cs.take i).filter (λc => !c.2.2)).map Vi/\H4 fi=some (.lst ys)/\WJ H3 H4) ⟨rfl,Ac,Ap nfi _⟩
  (λi ys H4 _ ⟨e,h1,s4⟩=>⟨h1,by rw[e,zAa];exact zAD (zBB _ _) (by rw[zAw];lia),WL.of (s4 _ _ ha3)⟩) (by rw[zCf];lia) (λi x ys H4 hi ⟨e,h1,s4⟩=>?_) (λys H4 ⟨e,hf4,s4⟩=>?_)
 .obtain⟨c,dc,fc,ec,rfl,mc,hc,n1,w1⟩:=hcs3.get hi
  refine (vE rfl ⟨c.1,As,dc,fc,_,rfl,s4 _ _ hc,L.cl_Cover,L.na_Cover_waits,w1,_,rfl,?_⟩);have es:=Zb (f:=λc:Cv => !c.2.2) ec;cases cw:c.2.2 with
  |true=>
   refine Ep ⟨rfl,?_,h1,s4⟩;rw[es,e,cw];simp
  |false=>
   refine Kt (vE rfl ⟨h1,rfl,?_,Ac,λb o z=>?_⟩)
   .rw[es,e,cw]
    simp [Vi]
   .rw[Au (Ak z nfi)]
    exact s4 b o z
 rw[lm,zAt] at e;subst e;refine AX eN [some (.ref p),some (.ref a),some (.ref n),some (.ref fi),none] rfl λN eN=>?_;have ha4:=s4 _ _ ha3;have hcs4:=hcs3.same s4;refine (vE rfl ⟨a,rfl,⟨_,WL.of ha4⟩,λwa nwa=>?_⟩);refine De (K:=K) (a:=a) (xs:=cs.map Vi) (λi ys H5=>ys=((cs.take i).filter (λc=>c.2.2)).map Vi/\H5 wa=some (.lst ys)/\WJ H4 H5) ⟨rfl,Ac,Ap nwa _⟩
  (λi ys H5 _ ⟨e,h1,s5⟩=>⟨h1,by rw[e,zAa];exact zAD (zBB _ _) (by rw[zAw];lia),WL.of (s5 _ _ ha4)⟩) (by rw[zCf];lia) (λi x ys H5 hi ⟨e,h1,s5⟩=>?_) (λys H5 ⟨e,hw5,s5⟩=>?_)
 .obtain⟨c,dc,fc,ec,rfl,mc,hc,n1,w1⟩:=hcs4.get hi
  refine (vE rfl ⟨c.1,As,dc,fc,_,rfl,s5 _ _ hc,L.cl_Cover,L.na_Cover_waits,w1,_,rfl,?_⟩);have es:=Zb (f:=λc:Cv=>c.2.2) ec;cases cw:c.2.2 with
  |false=>
   refine Ep ⟨rfl,?_,h1,s5⟩;rw[es,e,cw];simp
  |true=>
   refine Kt (vE rfl ⟨h1,rfl,?_,Ac,λb o z=>?_⟩)
   .rw[es,e,cw]
    simp [Vi]
   .rw[Au (Ak z nwa)]
    exact s5 b o z
 rw[lm,zAt] at e;subst e;subst eN;refine Hu [some (.ref p),some (.ref a),some (.ref n),some (.ref fi),some (.ref wa)] rfl ?_;have hf5:=s5 _ _ hf4;have e5:=s5 _ _ (s4 _ _ e3);have c5:=s5 _ _ (s4 _ _ c3);have k5:=(k3.same s4).same s5;refine (vE rfl (vE rfl ⟨fi,wa,_,_,rfl,rfl,hf5,hw5,?_,(λak nak=>?_)⟩))
 .rw[zAa,zAa]
  have:=zBB (λc:Cv => !c.2.2) cs;have:=zBB (λc:Cv=>c.2.2) cs;rw[zCf]
  lia
 have nkp:ak≠p:=(Ak e5 nak).symm;have s6:=Ap nak (.lst ((cs.filter (λc => !c.2.2)).map Vi++(cs.filter (λc=>c.2.2)).map Vi));have g3:(Ca "covers" (.ref cl) []).length<=1:=Hw _ _ _;refine (vE rfl ⟨p,Bd,dx,_,rfl,(s6 _ _ e5),L.cl_Book,L.na_Book_asking,(zBU g3 (by decide)),?_⟩);refine q cl ak _ ((k5.same s6).upd _) ⟨⟨dx,_,Ac,by rw[f1 (by ac_nf),f0],f0,by rw[f1 (by ac_nf),f1 (by ac_nf)];rfl⟩,?_,?_⟩ fcl (k5.free nkp nak)
 .rw[Au ncp]
  exact s6 _ _ c5
 .rw[Au nkp,Ac]
  unfold QY;rw[zAf]
end
inductive XC {α β:Type} (R:α->β->Prop):List α->List β->Prop
 |nil:XC R [] []
 |cons {a b as bs}:R a b->XC R as bs->XC R (a::as) (b::bs)
def XC.len {α β:Type} {R:α->β->Prop} {as:List α} {bs:List β} (h:XC R as bs):as.length=bs.length:=by
 induction h with
 |nil=>rfl
 |cons _ _ ih=>rw[zAe,zAe,ih]
def XC.imp {α β:Type} {R S:α->β->Prop} {as:List α} {bs:List β} (h:XC R as bs) (f:∀ a b,R a b->S a b):XC S as bs:=by
 induction h with
 |nil=>exact .nil
 |cons a _ ih=>exact .cons (f _ _ a) ih
def XC.app {α β:Type} {R:α->β->Prop} {as cs:List α} {bs ds:List β} (h:XC R as bs) (g:XC R cs ds):XC R (as++cs) (bs++ds):=by
 induction h with
 |nil=>exact g
 |cons a _ ih=>exact .cons a ih
def XC.get {α β:Type} {R:α->β->Prop} {as:List α} {bs:List β} (h:XC R as bs):∀ {i:Nat} {a:α},as[i]?=some a->∃ b,bs[i]?=some b/\R a b:=by
 induction h with
 |nil=>intro i a e;simp at e
 |cons r _ ih=>
  intro i a e;cases i with
  |zero=>simp at e;subst e;exact⟨_,rfl,r⟩
  |succ i=>obtain⟨b,h1,h2⟩:=ih (i:=i) (by simpa using e);exact⟨b,by simpa using h1,h2⟩
def XC.mem {α β:Type} {R:α->β->Prop} {as:List α} {bs:List β} (h:XC R as bs) {a:α} (m:a∈as):∃ b∈bs,R a b:=by
 obtain⟨i,hi,e⟩:=zBc m;obtain⟨b,h1,h2⟩:=h.get (i:=i) (a:=a) (by rw[zAg hi,e]);exact⟨b,zAs h1,h2⟩
def XC.snoc_inv {α β:Type} {R:α->β->Prop} {as:List α} {bs:List β} {b:β} (h:XC R as (bs++[b])):∃ as' a,as=as'++[a]/\XC R as' bs/\R a b:=by
 induction bs generalizing as with
 |nil=>
  cases h with
  |cons r t=>
   cases t
   exact⟨[],_,rfl,.nil,r⟩
 |cons c cs ih=>
  cases h with
  |cons r t=>
   obtain⟨as',a,rfl,h1,h2⟩:=ih t;exact⟨_::as',a,rfl,.cons r h1,h2⟩
def XC.map_eq {α β γ:Type} {R:α->β->Prop} {f:α->γ} {g:β->γ} {as:List α} {bs:List β} (h:XC R as bs) (e:∀ a b,R a b->f a=g b):as.map f=bs.map g:=by
 induction h with
 |nil=>rfl
 |cons r _ ih=>rw[zAv,zAv,e _ _ r,ih]
structure Dr where
 nm:Str
 cd:Option Dw
 cl:List Cl
 sh:Option (List (Str×Int))
 wt:Bool
structure LC where
 nm:Str
 t:Dw
 cl:List Cl
 hs:List (Str×Int)
 wt:Bool
def Dr.lc (d:Dr):LC:=⟨d.nm,d.cd.getD (.at .alw),d.cl,d.sh.getD [(d.nm,1)],d.wt⟩
def Sz (l:List (Str×Int)):List Pr:=l.map λx=>(V.str x.1,V.int x.2)
def RC (l:List (Str×Int)):(Sz l).map (·.1)=(l.map (·.1)).map V.str:=by unfold Sz;rw[zBk,zBk];rfl
def RY (l:List (Str×Int)):(Sz l).map (·.2)=(l.map (·.2)).map V.int:=by unfold Sz;rw[zBk,zBk];rfl
def WK (E:List Addr) (H:Hp):Hp:=λb=>if b∈E then none else H b
def WK.at {E:List Addr} {H:Hp} {b:Addr} {o:HO} (h:WK E H b=some o):b∉E/\H b=some o:=by
 unfold WK at h;by_cases e:b∈E
 .rw[if_pos e] at h;cases h
 .rw[if_neg e] at h;exact⟨e,h⟩
def WK.of {E:List Addr} {H:Hp} {b:Addr} {o:HO} (n:b∉E) (h:H b=some o):WK E H b=some o:=by
 unfold WK;rw[if_neg n];exact h
def WK.sub (E:List Addr) (H:Hp):WJ (WK E H) H:=λb o h=>(WK.at h).2
def WK.mono {E E':List Addr} {H H':Hp} (k:∀ b o,H b=some o->b∉E->H' b=some o) (e:∀ x∈E',x∈E\/H x=none):WJ (WK E H) (WK E' H'):=λb o h=>by
 obtain⟨n,h⟩:=WK.at h;refine WK.of (λz=>?_) (k b o h n);rcases e b z with z|z
 .exact n z
 .rw[h] at z;cases z
def WK.new {E:List Addr} {H H':Hp} (al:∀ e∈E,∃ o,H e=some o):WJ (Nw H H') (WK E H'):=λb o h=>by
 obtain⟨h0,h⟩:=Nw.at h;exact WK.of (λz=>by obtain⟨o',z⟩:=al b z;rw[h0] at z;cases z) h
def YG (CC CO CL CM:Addr) (G:Hp) (cs:List V) (cl:List Cl):Prop:=XC (λv c=>∃ p,v=.ref p/\XU CC CO CL CM G p c) cs cl
def YG.same {CC CO CL CM:Addr} {G G':Hp} {cs:List V} {cl:List Cl} (h:YG CC CO CL CM G cs cl) (s:WJ G G'):YG CC CO CL CM G' cs cl:=h.imp λv c ⟨p,e,k⟩=>⟨p,e,k.same s⟩
def YM (κ:A8) (G:Hp) (cv:V):Option Dw->Prop
 |none=>cv=.non
 |some t=>WT κ G cv t
def YM.same {κ:A8} {G G':Hp} {cv:V} {t:Option Dw} (h:YM κ G cv t) (s:WJ G G'):YM κ G' cv t:=by
 cases t with
 |none=>exact h
 |some t=>exact WT.same s t h
def YO (G:Hp) (sv:V):Option (List (Str×Int))->Prop
 |none=>sv=.non
 |some l=>∃ a xs,sv=.ref a/\G a=some (.lst xs)/\XF G xs (Sz l)
def YO.same {G G':Hp} {sv:V} {l:Option (List (Str×Int))} (h:YO G sv l) (s:WJ G G'):YO G' sv l:=by
 cases l with
 |none=>exact h
 |some l=>obtain⟨a,xs,e,h1,h2⟩:=h;exact⟨a,xs,e,s _ _ h1,h2.mono (Fu s)⟩
def Nf (nm:Str) (cv:V) (c:Addr) (sv:V) (wt:Bool):List (Str×V):=[(Str.ofString "name",.str nm),(Str.ofString "condition",cv),(Str.ofString "clauses",.ref c),(Str.ofString "shares",sv),(Str.ofString "waits",.bl wt)]
def AU (nm:Str) (cv:V) (c:Addr) (sv:V) (wt:Bool):(Nf nm cv c sv wt).lookup (Str.ofString "name")=some (.str nm):=rfl
def M8 (nm:Str) (cv:V) (c:Addr) (sv:V) (wt:Bool):(Nf nm cv c sv wt).lookup (Str.ofString "condition")=some cv:=rfl
def Xh (nm:Str) (cv:V) (c:Addr) (sv:V) (wt:Bool):(Nf nm cv c sv wt).lookup (Str.ofString "clauses")=some (.ref c):=rfl
def Zu (nm:Str) (cv:V) (c:Addr) (sv:V) (wt:Bool):(Nf nm cv c sv wt).lookup (Str.ofString "shares")=some sv:=rfl
def T1 (nm:Str) (cv:V) (c:Addr) (sv:V) (wt:Bool):(Nf nm cv c sv wt).lookup (Str.ofString "waits")=some (.bl wt):=rfl
structure XQ (κ:A8) (CC CO CL CM CD:Addr) (G H:Hp) (p c:Addr) (d:Dr):Prop where
 ex:∃ dx cv sv cs,H p=some (.ins CD dx (Nf d.nm cv c sv d.wt))/\H c=some (.lst cs)/\YM κ G cv d.cd/\YG CC CO CL CM G cs d.cl/\YO G sv d.sh
def XQ.same {κ:A8} {CC CO CL CM CD:Addr} {G G' H H':Hp} {p c:Addr} {d:Dr} (h:XQ κ CC CO CL CM CD G H p c d) (s:WJ G G') (e1:∀ o,H p=some o->H' p=some o) (e2:∀ o,H c=some o->H' c=some o):XQ κ CC CO CL CM CD G' H' p c d:=by
 obtain⟨dx,cv,sv,cs,h1,h2,h3,h4,h5⟩:=h;exact⟨dx,cv,sv,cs,e1 _ h1,e2 _ h2,h3.same s,h4.same s,h5.same s⟩
def XY.off {C CD:Addr} {H:Hp} {p cl hv d wh wt:Addr} {nm:Str} {cd wv:V} {cs hs:List V} {ws:List Int} {M:List Addr} (h:XY C CD H p cl hv d wh wt nm cd wv cs hs ws) (n1:p∉M) (n2:cl∉M) (n3:hv∉M) (n4:d∉M) (n5:wh∉M) (n6:wt∉M):XY C CD (WK M H) p cl hv d wh wt nm cd wv cs hs ws:=by
 obtain⟨⟨dx,fs,e,r⟩,h1,h2,⟨⟨dx',h3⟩,h4,h5⟩⟩:=h;exact⟨⟨dx,fs,WK.of n1 e,r⟩,WK.of n2 h1,WK.of n3 h2,⟨⟨dx',WK.of n4 h3⟩,WK.of n5 h4,WK.of n6 h5⟩⟩
structure XG (κ:A8) (CC CO CL CM C CD:Addr) (H:Hp) (p:Addr) (d:LC):Prop where
 ex:∃ cl hv dd wh wt cv cs,XY C CD H p cl hv dd wh wt d.nm cv (.bl d.wt) cs ((d.hs.map (·.1)).map V.str) (d.hs.map (·.2))/\WT κ H cv d.t/\YG CC CO CL CM H cs d.cl
def XG.same {κ:A8} {CC CO CL CM C CD:Addr} {H H':Hp} {p:Addr} {d:LC} (h:XG κ CC CO CL CM C CD H p d) (s:WJ H H'):XG κ CC CO CL CM C CD H' p d:=by
 obtain⟨cl,hv,dd,wh,wt,cv,cs,h1,h2,h3⟩:=h;exact⟨cl,hv,dd,wh,wt,cv,cs,h1.same s,WT.same s _ h2,h3.same s⟩
structure Kd (d:Dr):Prop where
 nm:Ew (.str d.nm)=true
 ns:d.nm ≠ "self"
 cl:d.cl.length<=8
 hs:(∀ z∈d.lc.hs.map (·.1),Ew (.str z)=true)/\(d.lc.hs.map (·.1)).Nodup
 gw:CR.GW (d.lc.hs.map (·.2))
def Fw {z:Str} (h:Ew (.str z)=true):z.length<=8:=by
 have h:Re z.cps.toList:=of_decide_eq_true h;have:=h.1.2;rw[<- Uh z,Ci];exact this
inductive S6 (C:Addr) (vs:List V) (H:Hp) (Q:VK):Prop
 |mk (p:_) (dx:_) (nm:_) (z0:vs=[.ref p,.str nm]) (z1:H p=some (.ins C dx [])) (z2:∀ c H',H c=none->(∀ b,b≠p->b≠c->H' b=H b)->H' p=some (.ins C dx (Nf nm .non c .non false))->H' c=some (.lst [])->Q .non H'):S6 C vs H Q
def A7 (C:Addr):Sp:=λvs H Q _=>S6 C vs H Q
inductive JS (κ:A8) (CC CO CL CM C CD CR:Addr) (vs:List V) (H:Hp) (Q:VK):Prop
 |mk (p:_) (c:_) (G:_) (M:_) (d:_) (z0:vs=[.ref p]) (z1:WJ G (WK M H)) (z2:(∀ e∈M,∃ o,H e=some o)) (z3:XQ κ CC CO CL CM CR G H p c d) (z4:Kd d) (z5:∀ u H',WJ H H'->H u=none->XG κ CC CO CL CM C CD (WK M H') u d.lc->Q (.ref u) H'):JS κ CC CO CL CM C CD CR vs H Q
def AR (κ:A8) (CC CO CL CM C CD CR:Addr):Sp:=λvs H Q _=>JS κ CC CO CL CM C CD CR vs H Q
section
seal L2.PS L2.PSs L2.PE L2.PA
variable {P:Program} {w:World} {K:zAb} {mg:Str->Option Value} {base:Heap} {Ab Ae Ad Ah Ao Ax Ay Am Al Ba An Aq Bb As Bd Af Aw:Addr}
def Rm:Bc ["self","name"] ["self","name"] (Av Hh):=by injections
def Ri {f:Addr} {fd:zCh} (F:WV K "__init__" "Draft.__init__" Hh f fd) (L:Kl K mg Ab Ae Ad Ah Ao Ax Ay Am Al Ba An Aq Bb As Bd Af Aw):WN P w K mg base Do 1 f fd ["self","name"] (A7 Aw):=by
 have sc:=Rm;bv_omega
 .obtain⟨_,_,_,rfl,_⟩:=h
  rfl
 obtain⟨p,dx,nm,rfl,hp,q⟩:=h;refine⟨_,(Ai (Ct (pv 0) (pv 1) rfl)
   (Ai (Ct (pv 0) Kh rfl)
   (Ai (Ct (pv 0) (Cb Ag) rfl)
   (Ai (Ct (pv 0) Kh rfl)
   (Aj (Ct (pv 0) Fn rfl)))))),?_⟩
 refine⟨_,rfl,_,rfl,p,_,dx,_,rfl,hp,L.cl_Draft,L.na_Draft_name,(by show 0<1000;decide),?_⟩;refine⟨_,rfl,p,_,dx,_,rfl,Ac,L.cl_Draft,L.na_Draft_condition,(by show 1<1000;decide),?_⟩;refine⟨zAB _,λc nc=>?_⟩;have npc:p≠c:=Ak (Ac (o:=.ins Aw dx (Ca "condition" .non (Ca "name" (.str nm) [])))) nc;have nc0:H c=none:=by rw[Au npc.symm,Au npc.symm] at nc;exact nc
 refine⟨_,rfl,p,_,dx,_,rfl,(by rw[Au npc];exact Ac),L.cl_Draft,L.na_Draft_clauses,(by show 2<1000;decide),?_⟩;refine⟨_,rfl,p,_,dx,_,rfl,Ac,L.cl_Draft,L.na_Draft_shares,(by show 3<1000;decide),?_⟩;refine⟨_,rfl,p,_,dx,_,rfl,Ac,L.cl_Draft,L.na_Draft_waits,(by show 4<1000;decide),?_⟩;refine q c _ nc0 (λb n1 n2=>by rw[Au n1,Au n1,Au n1,Au n2,Au n1,Au n1]) Ac ?_;rw[Au npc.symm,Au npc.symm,Au npc.symm,Ac]
def Qt:Bc ["self","condition"] ["self"] (Av Hg):=by injections
def Sj {f:Addr} {fd:zCh} (F:WV K "as_cover" "Draft.as_cover" Hg f fd) (T:Txt K mg) (L:Kl K mg Ab Ae Ad Ah Ao Ax Ay Am Al Ba An Aq Bb As Bd Af Aw) (NCondition:SR K mg "Condition" Ab) (KCover:Gb P w K mg base 6 "Cover" As ["self","name","condition","clauses","houses","waits"] (GA As Bb)) :
  WN P w K mg base Do 8 f fd ["self"] (AR (A8.mk Ab Ae Ad Ah Ao Ax Ay Am) Al Ba An Aq As Bb Aw):=by
 have sc:=Qt;bv_omega
 .obtain⟨_,_,_,_,_,rfl,_⟩:=h
  rfl
 obtain⟨p,c,G,M,d,rfl,sgM,mal,dr,gd,q⟩:=h;have sg:WJ G H:=sgM.trans (WK.sub _ _);have sM:∀ {H':Hp},WJ H H'->WJ (WK M H) (WK M H'):=λs=>WK.mono (λb o e _=>s b o e) λx hx=>.inl hx;obtain⟨dx,cv,sv,cs,hp,hc,h3,h4,h5⟩:=dr;refine⟨_,(Ai (Bn (i:=1) sc.nd rfl (Or.inl rfl) (Iz (Bf C8 (Bx (pv 0) rfl) Kh (Bk _)) (AW NCondition rfl) (Bx (pv 0) rfl)))
   (Aj (Bh (Ed KCover (hr.mono (by decide)) rfl (Aa (Bx (pv 0) rfl) (Aa (pv 1) (Aa (Bx (pv 0) rfl) (Aa (Bx (pv 0) rfl) (Aa (Bx (pv 0) rfl) Ag))))))))),?_⟩
 refine⟨_,rfl,p,_,dx,_,_,rfl,hp,L.cl_Draft,L.na_Draft_condition,M8 _ _ _ _ _,rfl,_,rfl,?_⟩;refine X4 (λv H'=>WJ H H'/\WT (A8.mk Ab Ae Ad Ah Ao Ax Ay Am) (WK M H') v (d.cd.getD (.at .alw))) (λe Q' k=>?_) (λe Q' k=>?_) ?_
 .have e:cv=.non:=of_decide_eq_true e
  cases z:d.cd with
  |some t=>
   rw[z] at h3;obtain⟨pu,_,_,e',_⟩:=WT.obj h3;rw[e] at e';cases e'
  |none=>
   intro y dy ny nd ne;refine k _ _ ⟨Kj ny nd,?_⟩;rw[z];show WT _ _ _ (.at .alw);unfold WT;exact⟨y,dy,rfl,WK.of (λz=>by obtain⟨o,z⟩:=mal _ z;rw[ny] at z;cases z) Ac⟩
 .have e:¬ cv=.non:=λz=>e (decide_eq_true z)
  cases z:d.cd with
  |none=>rw[z] at h3;exact absurd h3 e
  |some t=>
   rw[z] at h3 k;exact⟨_,rfl,p,_,dx,_,_,rfl,hp,L.cl_Draft,L.na_Draft_condition,M8 _ _ _ _ _,k _ _ ⟨WJ.refl _,WT.same sgM _ h3⟩⟩
 rintro u H1 ⟨s1,cu⟩;refine Hu [some (.ref p),some u] rfl ?_;have hp1:=s1 _ _ hp;refine⟨_,rfl,p,_,dx,_,_,rfl,hp1,L.cl_Draft,L.na_Draft_name,AU _ _ _ _ _,_,rfl,_,rfl,p,_,dx,_,_,rfl,hp1,L.cl_Draft,L.na_Draft_clauses,Xh _ _ _ _ _,?_⟩;refine⟨_,rfl,p,_,dx,_,_,rfl,hp1,L.cl_Draft,L.na_Draft_shares,Zu _ _ _ _ _,_,rfl,p,_,dx,_,_,rfl,hp1,L.cl_Draft,L.na_Draft_waits,T1 _ _ _ _ _,?_⟩;intro y dy ny nd ne;have s2:WJ H1 (upd (upd H1 dy (.own y)) y (.ins As dy [])):=Kj ny nd;have s12:=s1.trans s2;have hgd:=gd.hs;have ew:=RY d.lc.hs;have eh:=RC d.lc.hs;have gn:MN (.str d.nm):=⟨gd.nm,λz=>gd.ns (V.str.inj z)⟩;have lcs:cs.length<=8:=by rw[h4.len];exact gd.cl
 have hss:MJ (upd (upd H1 dy (.own y)) y (.ins As dy [])) (.str d.nm) sv (Sz d.lc.hs):=by
  unfold Dr.lc;cases z:d.sh with
  |none=>rw[z] at h5;exact .inl ⟨h5,rfl⟩
  |some l=>
   rw[z] at h5;obtain⟨a,xs,e,g1,g2⟩:=h5;exact .inr ⟨a,xs,e,s12 _ _ (sg _ _ g1),g2.mono (Fu (sg.trans s12))⟩
 refine⟨y,dy,d.nm,u,.ref c,cs,sv,Sz d.lc.hs,.bl d.wt,d.lc.hs.map (·.1),d.lc.hs.map (·.2),rfl,Ac,gn,Fw gd.nm,.inr ⟨c,rfl,s12 _ _ hc⟩,lcs,hss,eh,λz hz=>⟨hgd.1 z hz,zAD (Fw (hgd.1 z hz)) (by decide)⟩,hgd.2,ew,gd.gw,λcl h1 dd wh wt H' kb cvat f1 f2 f3 f4 f5=>?_⟩;rw[eh] at cvat;have s3:WJ H1 H':=λb o e=>kb b o (s2 _ _ e) (Ak e ny);have nM:∀ {b:Addr},H1 b=none->b∉M:=λh z=>by obtain⟨o,z⟩:=mal _ z;rw[s1.free h] at z;cases z
 have sN:WJ (WK M H1) (WK M H'):=WK.mono (λb o e _=>s3 b o e) λx hx=>.inl hx;refine⟨rfl,q y H' (s1.trans s3) (s1.free ny) ⟨cl,h1,dd,wh,wt,u,cs,cvat.off (nM ny) (nM (Ez f1)) (nM (Ez f2)) (nM (Ez f3)) (nM (Ez f4)) (nM (Ez f5)),WT.same sN _ cu,(h4.same sgM).same ((sM s1).trans sN)⟩⟩
end
inductive WU where
 |cov (n:Str)|when (t:Dw)|cls (c:Cl)|shr (l:List (Str×Int))|wts
def V9:Cl->List Str
 |.own y d=>[Str.ofString "own",y,tx (Dn d.toNat)]
 |.lay y a b=>[Str.ofString "layer",y,tx (Dn a.toNat),tx (Dn b.toNat)]
 |.lim y m=>[Str.ofString "limit",y,tx (Dn m.toNat)]
 |.any _=>[]
def N5 (l:List (Str×Int)):List Str:=l.flatMap λx=>[x.1,tx (Ce x.2.toNat)]
def WU.ws:WU->List Str
 |.cov n=>[Str.ofString "cover",n]
 |.when t=>Str.ofString "when" :: Bo Bi t
 |.cls c=>V9 c
 |.shr l=>Str.ofString "share" :: N5 l
 |.wts=>[Str.ofString "waits"]
def WU.row (r:WU):Str:=Str.join (Str.ofString " ") r.ws
def R7:Cl->Prop
 |.own y d=>Ma y/\Q8 d
 |.lay y a b=>Ma y/\Q8 a/\Q8 b/\a<b
 |.lim y m=>Ma y/\Q8 m
 |.any _=>False
def Vt:WU->Prop
 |.cov n=>Ew (.str n)=true/\n ≠ "self"
 |.when t=>Eo Em t/\(Bo Bi t).length<=60/\Cq t<=6/\Ki t<66
 |.cls c=>R7 c
 |.shr l=>1<=l.length/\l.length<=3/\∀ x∈l,Ew (.str x.1)=true/\1<=x.2/\x.2<=100
 |.wts=>True
def Wk {n:Str} (h:Ew (.str n)=true):BH n:=by
 have hl:=Fw h;have h:Re n.cps.toList:=of_decide_eq_true h;exact⟨λz=>by have:=h.2 32 z;unfold Hk at this;lia,by lia⟩
def F6 {y:Str} (h:Ma y):BH y:=by
 rcases h with rfl|rfl|rfl|rfl <;> exact⟨by ac_nf,by ac_nf⟩
def Ob {d:Int} (h:Q8 d):BH (tx (Dn d.toNat)):=by
 obtain⟨m0,m1⟩:=h;refine⟨λz=>?_,?_⟩
 .have z:32∈Dn d.toNat:=z
  unfold Dn at z;rcases zAF.mp z with z|z
  .have:=Fx _ 32 z;lia
  .simp at z;lia
 .rw[Ci,Ko]
  have:(Ce (d.toNat/100)).length<=10:=Dk (by decide) (by lia)
  lia
def GK {n:Nat} (h:n<=1000):BH (tx (Ce n)):=⟨λz=>by have:=Fx n 32 z;lia,by rw[Ci];have:(Ce n).length<=7:=Dk (by decide) (by lia);lia⟩
def L5 (c:Cl):(V9 c).length<=4:=by cases c <;> simp [V9]
def PM {c:Cl} (h:R7 c):∀ w∈V9 c,BH w:=by
 intro w hw;cases c with
 |own y d=>
  simp [V9] at hw;rcases hw with rfl|rfl|rfl
  .exact⟨by ac_nf,by ac_nf⟩
  .exact F6 h.1
  .exact Ob h.2
 |lay y a b=>
  simp [V9] at hw;rcases hw with rfl|rfl|rfl|rfl
  .exact⟨by ac_nf,by ac_nf⟩
  .exact F6 h.1
  .exact Ob h.2.1
  .exact Ob h.2.2.1
 |lim y d=>
  simp [V9] at hw;rcases hw with rfl|rfl|rfl
  .exact⟨by ac_nf,by ac_nf⟩
  .exact F6 h.1
  .exact Ob h.2
 |any y=>exact h.elim
def Si (l:List (Str×Int)):(N5 l).length=2*l.length:=by
 induction l with
 |nil=>rfl
 |cons x l ih=>
  show (x.1::tx (Ce x.2.toNat)::N5 l).length=_;rw[zAe,zAe,ih,zAe];lia
def Rz {r:WU} (h:Vt r):(∀ w∈r.ws,BH w)/\1<=r.ws.length/\r.ws.length<=61:=by
 cases r with
 |cov n=>
  refine⟨λw hw=>?_,by show 1<=2;decide,by show 2<=61;decide⟩;simp [WU.ws] at hw;rcases hw with rfl|rfl
  .exact⟨by ac_nf,by ac_nf⟩
  .exact Wk h.1
 |when t=>
  refine⟨λw hw=>?_,?_,?_⟩
  .rcases zAj.mp hw with rfl|hw
   .exact⟨by ac_nf,by ac_nf⟩
   .exact Lx h.1 w hw
  .show 1<=(Bo Bi t).length+1;lia
  .show (Bo Bi t).length+1<=61;have:=h.2.1;lia
 |cls c=>
  refine⟨PM h,?_,zAD (L5 c) (by decide)⟩;cases c with
  |any y=>exact h.elim
  |_=>show 1<=_;simp [WU.ws,V9]
 |shr l=>
  refine⟨λw hw=>?_,?_,?_⟩
  .rcases zAj.mp hw with rfl|hw
   .exact⟨by ac_nf,by ac_nf⟩
   .obtain⟨x,hx,hw⟩:=List.mem_flatMap.mp hw
    obtain⟨h1,h2,h3⟩:=h.2.2 x hx;simp at hw;rcases hw with rfl|rfl
    .exact Wk h1
    .exact GK (by lia)
  .show 1<=(N5 l).length+1;lia
  .show (N5 l).length+1<=61;rw[Si];have:=h.2.1;lia
 |wts=>
  refine⟨λw hw=>?_,by show 1<=1;decide,by show 1<=61;decide⟩;simp [WU.ws] at hw;subst hw;exact⟨by ac_nf,by ac_nf⟩
def RX {r:WU} (h:Vt r):r.ws≠[]:=λz=>by have:=(Rz h).2.1;rw[z] at this;simp at this
def Yx {r:WU} (h:Vt r):Txt.split r.row (Str.ofString " ")=r.ws:=Ll (RX h) (Rz h).1
def KG {r:WU} (h:Vt r):r.row.length+2<=sizeLine:=by
 have jl:=Iu (z:=Str.ofString " ") (B:=100) (ps:=r.ws) λy hy=>((Rz h).1 y hy).2;have e1:(Str.ofString " ").length=1:=by ac_nf
 rw[e1] at jl;have:=(Rz h).2.2;have jl2:r.ws.length*(100+1)<=61*(100+1):=zBt _ this;unfold WU.row;rw[zCf];lia
def Y5 (l:List (Str×Int)) (h:l.length<=3):Qs ((Str.ofString "share" :: N5 l).map V.str) (some 1) 2=l.map (λx=>V.str x.1)/\Qs ((Str.ofString "share" :: N5 l).map V.str) (some 2) 2=l.map (λx=>V.str (tx (Ce x.2.toNat))):=by
 have e0:∀ n:Nat,n<=3->sliceRange (sliceBounds (some 1) none (some 2) (2*n+1)).1 (sliceBounds (some 1) none (some 2) (2*n+1)).2.1 (sliceBounds (some 1) none (some 2) (2*n+1)).2.2=(zAO n).map (λk=>2*k+1):=by ac_nf
 have e1:∀ n:Nat,n<=3->sliceRange (sliceBounds (some 2) none (some 2) (2*n+1)).1 (sliceBounds (some 2) none (some 2) (2*n+1)).2.1 (sliceBounds (some 2) none (some 2) (2*n+1)).2.2=(zAO n).map (λk=>2*k+2):=by ac_nf
 have ll:((Str.ofString "share" :: N5 l).map V.str).length=2*l.length+1:=by rw[zAa,zAe,Si]
 unfold Qs;rw[ll,e0 _ h,e1 _ h]
 match l,h with
 |[],_=>exact⟨rfl,rfl⟩
 |[a],_=>exact⟨rfl,rfl⟩
 |[a,b],_=>exact⟨rfl,rfl⟩
 |[a,b,c],_=>exact⟨rfl,rfl⟩
def EM (x:V) (xs:List V):Mq (x::xs) (some 1) none=xs:=by
 have e:=HT.sIx_nat (x::xs).length 0 1;unfold Mq;rw[show (some (1:Int))=some ((1:Nat):Int) from rfl,HT.sIx_nat,HT.sIx_none];have:min 1 (x::xs).length=1:=by rw[zAe];lia
 rw[this,List.drop_one,List.tail_cons,zBJ (by rw[zAe];lia)]
inductive BM (κ:A8) (CR:Addr) (vs:List V) (H:Hp) (Q:VK):Prop
 |mk (p:_) (wl:_) (dx:_) (nm:_) (c:_) (sv:_) (wt:_) (t:_) (z0:vs=[.ref p,.ref wl]) (z1:H p=some (.ins CR dx (Nf nm .non c sv wt))) (z2:H wl=some (.lst ((WU.when t).ws.map V.str))) (z3:Vt (.when t)) (z4:∀ u H',Kb p H H'->H' p=some (.ins CR dx (Nf nm u c sv wt))->WT κ (Nw H H') u t->Q .non H'):BM κ CR vs H Q
def Y3 (κ:A8) (CR:Addr):Sp:=λvs H Q _=>BM κ CR vs H Q
inductive FA  (vs:List V) (H:Hp) (Q:VK):Prop
 |mk (n:Nat) (z0:vs=[.str (tx (Ce n))]) (z1:n<1000) (z2:Q (.int n) H):FA  vs H Q
def FY:Sp:=λvs H Q _=>FA  vs H Q
inductive IA (CR:Addr) (vs:List V) (H:Hp) (Q:VK):Prop
 |mk (p:_) (wl:_) (dx:_) (nm:_) (cv:_) (c:_) (wt:_) (l:_) (z0:vs=[.ref p,.ref wl]) (z1:H p=some (.ins CR dx (Nf nm cv c .non wt))) (z2:H wl=some (.lst ((WU.shr l).ws.map V.str))) (z3:Vt (.shr l)) (z4:∀ a xs H',Kb p H H'->H' p=some (.ins CR dx (Nf nm cv c (.ref a) wt))->Nw H H' a=some (.lst xs)->XF (Nw H H') xs (Sz l)->Q .non H'):IA CR vs H Q
def IG (CR:Addr):Sp:=λvs H Q _=>IA CR vs H Q
inductive FH (CR:Addr) (vs:List V) (H:Hp) (Q:VK):Prop
 |mk (p:_) (wl:_) (dx:_) (nm:_) (cv:_) (c:_) (sv:_) (z0:vs=[.ref p,.ref wl]) (z1:H p=some (.ins CR dx (Nf nm cv c sv false))) (z2:H wl=some (.lst (WU.wts.ws.map V.str))) (z3:Q .non (upd H p (.ins CR dx (Nf nm cv c sv true)))):FH CR vs H Q
def GR (CR:Addr):Sp:=λvs H Q _=>FH CR vs H Q
inductive FQ (CC CO CL CM:Addr) (vs:List V) (H:Hp) (Q:VK):Prop
 |mk (wl:_) (c:_) (z0:vs=[.ref wl]) (z1:H wl=some (.lst ((V9 c).map V.str))) (z2:R7 c) (z3:∀ p H',WJ H H'->XU CC CO CL CM (Nw H H') p c->Q (.ref p) H'):FQ CC CO CL CM vs H Q
def FG (CC CO CL CM:Addr):Sp:=λvs H Q _=>FQ CC CO CL CM vs H Q
def Nz {d:Int} (h:Q8 d):((d.toNat:Nat):Int)=d/\d.toNat<10^12:=by obtain⟨h0,h1⟩:=h;lia
section
seal L2.PS L2.PSs L2.PE L2.PA
variable {P:Program} {w:World} {K:zAb} {mg:Str->Option Value} {base:Heap} {Ab Ae Ad Ah Ao Ax Ay Am Al Ba An Aq Bb As Bd Af Aw:Addr}
def G8:Bc ["draft","words"] ["draft","words"] (Av Mt):=by injections
def B9 {f:Addr} {fd:zCh} (F:WV K "take_when" "take_when" Mt f fd) (T:Txt K mg) (L:Kl K mg Ab Ae Ad Ah Ao Ax Ay Am Al Ba An Aq Bb As Bd Af Aw) (Cread_condition:Cy P w K mg base 40 "read_condition" ["text"] (OF (A8.mk Ab Ae Ad Ah Ao Ax Ay Am))):WN P w K mg base Do 41 f fd ["draft","words"] (Y3 (A8.mk Ab Ae Ad Ah Ao Ax Ay Am) Aw):=by
 have sc:=G8;bv_omega
 .obtain⟨_,_,_,_,_,_,_,_,rfl,_⟩:=h
  rfl
 obtain⟨p,wl,dx,nm,c,sv,wt,t,rfl,hp,hw,ok,q⟩:=h;refine⟨_,(Ai (Bu (Bf BW (Bx (pv 0) rfl) Kh (Bk _))
    (Aj Cf)
    Bj)
   (Aj (Ct (pv 0) (Az Cread_condition (hr.mono (by decide)) rfl (Aa (Ka (K:=K) rfl PySem.F.plainAttrs_str PySem.F.slot_str_join PySem.F.type_str_join (Ix (K:=K) rfl) Bg (Aa (Mx Rx (pv 1) (Rw Ar) Qw) Ag)) Ag)) rfl))),?_⟩
 refine⟨_,rfl,p,_,dx,_,_,rfl,hp,L.cl_Draft,L.na_Draft_condition,M8 _ _ _ _ _,rfl,_,rfl,nF rfl ?_⟩;obtain⟨okt,l60,d6,h66⟩:=ok;have l1:=Jj okt;have hw':H wl=some (.lst (V.str (Str.ofString "when")::(Bo Bi t).map V.str)):=hw;refine⟨rfl,_,rfl,_,rfl,wl,_,rfl,WL.of hw',λm nm'=>?_⟩;have ec:Mq (V.str (Str.ofString "when")::(Bo Bi t).map V.str) (some 1) none=(Bo Bi t).map V.str:=EM _ _;rw[ec];have s1:=Ap nm' (.lst ((Bo Bi t).map V.str));refine⟨_,m,Bo Bi t,rfl,rfl,.inl (WL.of Ac),l1,by lia,by ac_nf,λy hy=>by have:=(Lx okt y hy).2;lia,?_⟩;refine⟨Bo Bi t,t,(Cq t).toNat,rfl,λz=>by rw[z] at l1;simp at l1,Lx okt,l60,(FJ t okt).1,by have:=Vn t;lia,λu H1 s2 cd=>?_⟩;have s12:=s1.trans s2;refine⟨_,rfl,p,_,dx,_,rfl,s12 _ _ hp,L.cl_Draft,L.na_Draft_condition,(by show 5<1000;decide),?_⟩;refine q u _ ((Kb.of s12).trans Kb.upd) Ac ?_;refine cd.same λb o e=>?_;obtain⟨e0,e⟩:=Nw.at e;have e0':H b=none:=s1.free e0;exact Nw.of e0' (by rw[Au (λz=>by rw[z,hp] at e0';cases e0')];exact e)
def L4:Bc ["word"] ["word"] (Av Mn):=by injections
def K8 {f:Addr} {fd:zCh} (F:WV K "weight_of" "weight_of" Mn f fd) (T:Txt K mg) (Cwrites_whole:Cy P w K mg base 2 "writes_whole" ["text","most_figures"] Hy):WN P w K mg base Do 3 f fd ["word"] FY:=by
 have sc:=L4;bv_omega
 .obtain⟨_,rfl,_⟩:=h
  rfl
 obtain⟨n,rfl,hn,q⟩:=h;refine⟨_,(Ai (Bu (Ee (Dc (Az Cwrites_whole (hr.mono (by decide)) rfl (Aa (pv 0) (Aa (Dv T.g_MOST_WEIGHT_FIGURES rfl) Ag)))))
    (Aj Cf)
    Bj)
   (Aj (Bh (Ck Ht rfl T.n_int (show zCg _=some (.type "int") from rfl) (Aa (pv 0) Ag))))),?_⟩
 have l1:(Ce n).length<=3:=Dk (by decide) (by lia);refine⟨_,rfl,n,3,rfl,by lia,by decide,by decide,_,rfl,Ep ?_⟩;refine⟨_,rfl,_,_,rfl,D4 (Fx _) (Oh _) (by lia),by rw[Ci];lia,?_⟩;rw[Ro];exact q
def Xo:Bc ["draft","words"] ["draft","words"] (Av Kw):=by injections
def Yf {f:Addr} {fd:zCh} (F:WV K "take_share" "take_share" Kw f fd) (T:Txt K mg) (L:Kl K mg Ab Ae Ad Ah Ao Ax Ay Am Al Ba An Aq Bb As Bd Af Aw) (Cweight_of:Cy P w K mg base 3 "weight_of" ["word"] FY):WN P w K mg base Do 4 f fd ["draft","words"] (IG Aw):=by
 have sc:=Xo;bv_omega
 .obtain⟨_,_,_,_,_,_,_,_,rfl,_⟩:=h
  rfl
 obtain⟨p,wl,dx,nm,cv,c,wt,l,rfl,hp,hw,ok,q⟩:=h;refine⟨_,(Ai (Bu (PW.pt (Fe (Bf BW (Bx (pv 0) rfl) Kh (Bk _)) (Et (Bf Db (Be Cn (Bq Bp rfl T.n_len (show zCg _=some (.builtin "len") from rfl) (Aa (pv 1) Ag)) Ar) Ar (Bk _)))))
    (Aj Cf)
    Bj)
   (Aj (Ct (pv 0) (Eh (NC:=["house","weight"]) (own:=["house","weight"]) (cs:=[]) (ix:=[]) rfl (WO.of rfl) rfl trivial (GI rfl T.n_zip (Aa (Q1 (pv 1) Ar Ar) (Aa (Q1 (pv 1) Ar Ar) Ag))) (λ_ _ _=>(A2 (K:=K) (n:=2) rfl rfl (By (Bl (i:=0) (show (["house","weight"]:List Str).Nodup from by ac_nf) rfl (Or.inl rfl)) (By (Bl (i:=1) (show (["house","weight"]:List Str).Nodup from by ac_nf) rfl (Or.inl rfl)) Fz)))) (λ_ _ _=>Dq) (λ_ _ _=>(Cw (Aa (pv 0) (Aa (Az Cweight_of (hr.mono (by decide)) rfl (Aa (pv 1) Ag)) Ag))))) rfl))),?_⟩
 have hw':H wl=some (.lst ((Str.ofString "share" :: N5 l).map V.str)):=hw;have two:2<=sizeLine:=by rw[zCf];decide
 have ll:((Str.ofString "share" :: N5 l).map V.str).length=2*l.length+1:=by rw[zAa,zAe,Si]
 refine⟨_,rfl,p,_,dx,_,_,rfl,hp,L.cl_Draft,L.na_Draft_shares,Zu _ _ _ _ _,rfl,_,rfl,nF rfl ?_⟩;refine⟨_,rfl,wl,_,rfl,.inl (WL.of hw'),_,_,rfl,rfl,(by show (0:Int)<2;decide),rfl,_,rfl,dF (λz=>by have:=V.int.inj z;rw[ll] at this;lia) ?_⟩;obtain⟨p1,p2⟩:=Y5 l ok.2.1;have l3:=ok.2.1;refine⟨_,rfl,wl,_,_,_,rfl,rfl,rfl,by decide,WL.of hw',by rw[p1,zAa];lia,λm1 n1=>?_⟩;rw[p1];have s1:=Ap n1 (.lst (l.map λx=>V.str x.1));refine⟨_,rfl,wl,_,_,_,rfl,rfl,rfl,by decide,WL.of (s1 _ _ hw'),by rw[p2,zAa];lia,λm2 n2=>?_⟩;rw[p2];have s2:=Ap n2 (.lst (l.map λx=>V.str (tx (Ce x.2.toNat))));have h1:=s2 _ _ (Ac (H:=H) (a:=m1) (o:=.lst (l.map λx=>V.str x.1)));have h2:=Ac (H:=upd H m1 (.lst (l.map λx=>V.str x.1))) (a:=m2) (o:=.lst (l.map λx=>V.str (tx (Ce x.2.toNat))));have s12:=s1.trans s2;generalize upd (upd H m1 (.lst (l.map λx=>V.str x.1))) m2 (.lst (l.map λx=>V.str (tx (Ce x.2.toNat))))=H2 at h1 h2 s12;refine⟨m1,m2,rfl,⟨_,WL.of h1⟩,⟨_,WL.of h2⟩,λa na=>?_⟩;refine JE (K:=K) (a:=m1) (b:=m2) (xs:=l.map λx=>V.str x.1) (zs:=l.map λx=>V.str (tx (Ce x.2.toNat))) (λi ys H3=>H3 a=some (.lst ys)/\WJ H2 H3/\ys.length=i/\XF (Nw H2 H3) ys (Sz (l.take i))) ⟨Ac,Ap na _,rfl,trivial⟩
  (λi ys H3 _ ⟨g1,g2,g3,_⟩=>⟨g1,by lia,WL.of (g2 _ _ h1),WL.of (g2 _ _ h2)⟩) (by rw[zAa,zCf];lia) (λi x z ys H3 t hx hz ⟨g1,g2,g3,g4⟩ nt=>?_) (λys H3 ⟨g1,g2,g3,g4⟩=>?_)
 .rw[zAx] at hx hz
  obtain⟨y,ey,rfl⟩:=zAH.mp hx;rw[ey] at hz;have ez:=Option.some.inj hz;subst ez;obtain⟨y1,y2,y3⟩:=ok.2.2 y (zAs ey);have s3:=Ap nt (.tup [.str y.1,.str (tx (Ce y.2.toNat))]);refine⟨_,rfl,_,rfl,y.2.toNat,rfl,by lia,two,λt2 nt2=>?_⟩;have s4:=Ap nt2 (.tup [.str y.1,.int (y.2.toNat:Nat)]);have s34:=s3.trans s4;have ea:upd (upd H3 t (.tup [.str y.1,.str (tx (Ce y.2.toNat))])) t2 (.tup [.str y.1,.int (y.2.toNat:Nat)]) a=some (.lst ys):=s34 _ _ g1;have nat2:t2≠a:=λz=>by rw[z,s3 _ _ g1] at nt2;cases nt2
  refine⟨ea,rfl,Ac,λb o e=>?_,by rw[zAc,g3];rfl,?_⟩
  .rw[Au (Ak e na)]
   exact s34 _ _ (g2 _ _ e)
  .rw[Bv ey]
   unfold Sz;rw[zAf];have sN:WJ (Nw H2 H3) (Nw H2 (upd (upd (upd H3 t (.tup [.str y.1,.str (tx (Ce y.2.toNat))])) t2 (.tup [.str y.1,.int (y.2.toNat:Nat)])) a (.lst (ys++[.ref t2]))))->True:=λ_=>trivial;refine XF.app (g4.mono λb zs e=>?_) (XF.one (t:=t2) (Nw.of (g2.free (s3.free nt2)) ?_))
   .obtain⟨e0,e⟩:=Nw.at e
    refine Nw.of e0 ?_;rw[Au (Eu e g1 (by intro z;cases z))];exact s34 _ _ e
   .rw[Au nat2,Ac]
    have:((y.2.toNat:Nat):Int)=y.2:=by lia
    rw[this]
 .rw[zAa,zAa,Nat.min_self,zAt] at g4
  have s3:=s12.trans g2;have npa:p≠a:=Ak (s12 _ _ hp) na;refine⟨_,rfl,p,_,dx,_,rfl,s3 _ _ hp,L.cl_Draft,L.na_Draft_shares,(by show 5<1000;decide),?_⟩;have sN:WJ (Nw H2 H3) (Nw H (upd H3 p (.ins Aw dx (Ca (Str.ofString "shares") (.ref a) (Nf nm cv c .non wt))))):=λb o e=>by
   obtain⟨e0,e⟩:=Nw.at e;have e0':H b=none:=s12.free e0;exact Nw.of e0' (by rw[Au (λz=>by rw[z,hp] at e0';cases e0')];exact e)
  refine q a ys _ ((Kb.of s3).trans Kb.upd) Ac ?_ (g4.mono (Fu sN));exact sN _ _ (Nw.of na g1)
def Yd:Bc ["draft","words"] ["draft","words"] (Av Lf):=by injections
def Xv {f:Addr} {fd:zCh} (F:WV K "take_waits" "take_waits" Lf f fd) (T:Txt K mg) (L:Kl K mg Ab Ae Ad Ah Ao Ax Ay Am Al Ba An Aq Bb As Bd Af Aw):WN P w K mg base Do 1 f fd ["draft","words"] (GR Aw):=by
 have sc:=Yd;bv_omega
 .obtain⟨_,_,_,_,_,_,_,rfl,_⟩:=h
  rfl
 obtain⟨p,wl,dx,nm,cv,c,sv,rfl,hp,hw,q⟩:=h;refine⟨_,(Ai (Bu (PW.pt (Fe (Dc (Bx (pv 0) rfl)) (Et (Bf Pf (Bq Bp rfl T.n_len (show zCg _=some (.builtin "len") from rfl) (Aa (pv 1) Ag)) Ar (Bk _)))))
    (Aj Cf)
    Bj)
   (Aj (Ct (pv 0) Fn rfl))),?_⟩
 refine⟨_,rfl,p,_,dx,_,_,rfl,hp,L.cl_Draft,L.na_Draft_waits,T1 _ _ _ _ _,_,rfl,Ep ?_⟩;refine⟨_,rfl,wl,_,rfl,.inl (WL.of hw),rfl,_,rfl,nF rfl ?_⟩;exact⟨_,rfl,p,_,dx,_,rfl,hp,L.cl_Draft,L.na_Draft_waits,(by show 5<1000;decide),q⟩
def D6:Bc ["words"] ["words"] (Av Mo):=by injections
def E8 {f:Addr} {fd:zCh} (F:WV K "clause_of" "clause_of" Mo f fd) (T:Txt K mg) (L:Kl K mg Ab Ae Ad Ah Ao Ax Ay Am Al Ba An Aq Bb As Bd Af Aw) (Cread_cents:Cy P w K mg base 3 "read_cents" ["text"] G6)
  (KOwn:Gb P w K mg base 4 "Own" Ba ["self","by","cents"] (JP Al Ba An Aq)) (KLayer:Gb P w K mg base 4 "Layer" An ["self","by","first","upto"] (GY Al Ba An Aq)) (KLimit:Gb P w K mg base 4 "Limit" Aq ["self","by","most"] (HB Al Ba An Aq)):WN P w K mg base Do 6 f fd ["words"] (FG Al Ba An Aq):=by
 have sc:=D6;bv_omega
 .obtain⟨_,_,rfl,_⟩:=h
  rfl
 obtain⟨wl,c,rfl,hw,ok,q⟩:=h;refine⟨_,(Ai (Bu (PW.pt (N3 (Bf Db (Bq Bp rfl T.n_len (show zCg _=some (.builtin "len") from rfl) (Aa (pv 0) Ag)) Ar (Bk _)) (Vg (Bf Db (Cc Bt (pv 0) Ar (λ_ _=>rfl)) Bg (Bk _)))))
    (Aj (Bh (Ed KOwn (hr.mono (by decide)) rfl (Aa (Cc Bt (pv 0) Ar (λ_ _=>rfl)) (Aa (Az Cread_cents (hr.mono (by decide)) rfl (Aa (Cc Bt (pv 0) Ar (λ_ _=>rfl)) Ag)) Ag)))))
    Bj)
   (Ai (Bu (PW.pt (N3 (Bf Db (Bq Bp rfl T.n_len (show zCg _=some (.builtin "len") from rfl) (Aa (pv 0) Ag)) Ar (Bk _)) (Vg (Bf Db (Cc Bt (pv 0) Ar (λ_ _=>rfl)) Bg (Bk _)))))
    (Aj (Bh (Ed KLimit (hr.mono (by decide)) rfl (Aa (Cc Bt (pv 0) Ar (λ_ _=>rfl)) (Aa (Az Cread_cents (hr.mono (by decide)) rfl (Aa (Cc Bt (pv 0) Ar (λ_ _=>rfl)) Ag)) Ag)))))
    Bj)
   (Ai (Bu (PW.pt (N3 (Bf Db (Bq Bp rfl T.n_len (show zCg _=some (.builtin "len") from rfl) (Aa (pv 0) Ag)) Ar (Bk _)) (Vg (Bf Db (Cc Bt (pv 0) Ar (λ_ _=>rfl)) Bg (Bk _)))))
    (Aj (Bh (Ed KLayer (hr.mono (by decide)) rfl (Aa (Cc Bt (pv 0) Ar (λ_ _=>rfl)) (Aa (Az Cread_cents (hr.mono (by decide)) rfl (Aa (Cc Bt (pv 0) Ar (λ_ _=>rfl)) Ag)) (Aa (Az Cread_cents (hr.mono (by decide)) rfl (Aa (Cc Bt (pv 0) Ar (λ_ _=>rfl)) Ag)) Ag))))))
    Bj)
   (Aj Cf)))),?_⟩
 have made:∀ {C:Addr} {H1 H2:Hp} {y dy:Addr},WJ H H1->H1 y=none->H1 dy=none->(∀ b o,upd (upd H1 dy (.own y)) y (.ins C dy []) b=some o->b≠y->H2 b=some o)->XU Al Ba An Aq H2 y c->Q (.ref y) H2:=λs1 ny nd kp cl=>by
  obtain⟨dx,cl⟩:=cl;exact q _ _ (s1.trans (Zo ny nd kp)) ⟨dx,Nw.of (s1.free ny) cl⟩
 cases c with
 |any y=>exact ok.elim
 |own y d=>
  obtain⟨hy,hd⟩:=ok;obtain⟨e1,e2⟩:=Nz hd;have hw':H wl=some (.lst [.str (Str.ofString "own"),.str y,.str (tx (Dn d.toNat))]):=hw;refine⟨_,rfl,wl,_,rfl,.inl (WL.of hw'),rfl,_,rfl,dT rfl ?_⟩;refine⟨_,rfl,wl,_,_,_,rfl,rfl,WL.of hw',rfl,rfl,_,rfl,dT rfl ?_⟩;refine⟨_,rfl,wl,_,_,_,rfl,rfl,WL.of hw',rfl,_,rfl,wl,_,_,_,rfl,rfl,WL.of hw',rfl,d.toNat,rfl,e2,λH1 s1=>?_⟩;rw[e1];exact λz dz nz nd ne=>⟨z,dz,y,d,rfl,Ac,hy,hd,λH2 kp cl=>⟨rfl,made s1 nz nd kp cl⟩⟩
 |lim y d=>
  obtain⟨hy,hd⟩:=ok;obtain⟨e1,e2⟩:=Nz hd;have hw':H wl=some (.lst [.str (Str.ofString "limit"),.str y,.str (tx (Dn d.toNat))]):=hw;refine⟨_,rfl,wl,_,rfl,.inl (WL.of hw'),rfl,_,rfl,dT rfl ?_⟩;refine⟨_,rfl,wl,_,_,_,rfl,rfl,WL.of hw',rfl,rfl,_,rfl,dF (λz=>absurd (V.str.inj z) (by ac_nf)) ?_⟩;refine⟨_,rfl,wl,_,rfl,.inl (WL.of hw'),rfl,_,rfl,dT rfl ?_⟩;refine⟨_,rfl,wl,_,_,_,rfl,rfl,WL.of hw',rfl,rfl,_,rfl,dT rfl ?_⟩;refine⟨_,rfl,wl,_,_,_,rfl,rfl,WL.of hw',rfl,_,rfl,wl,_,_,_,rfl,rfl,WL.of hw',rfl,d.toNat,rfl,e2,λH1 s1=>?_⟩;rw[e1];exact λz dz nz nd ne=>⟨z,dz,y,d,rfl,Ac,hy,hd,λH2 kp cl=>⟨rfl,made s1 nz nd kp cl⟩⟩
 |lay y a b=>
  obtain⟨hy,ha,hb,ab⟩:=ok;obtain⟨a1,a2⟩:=Nz ha;obtain⟨b1,b2⟩:=Nz hb;have hw':H wl=some (.lst [.str (Str.ofString "layer"),.str y,.str (tx (Dn a.toNat)),.str (tx (Dn b.toNat))]):=hw;refine⟨_,rfl,wl,_,rfl,.inl (WL.of hw'),rfl,_,rfl,dF (λz=>absurd (V.int.inj z) (by show ¬ ((4:Int)=3);decide)) ?_⟩;refine⟨_,rfl,wl,_,rfl,.inl (WL.of hw'),rfl,_,rfl,dF (λz=>absurd (V.int.inj z) (by show ¬ ((4:Int)=3);decide)) ?_⟩;refine⟨_,rfl,wl,_,rfl,.inl (WL.of hw'),rfl,_,rfl,dT rfl ?_⟩;refine⟨_,rfl,wl,_,_,_,rfl,rfl,WL.of hw',rfl,rfl,_,rfl,dT rfl ?_⟩;refine⟨_,rfl,wl,_,_,_,rfl,rfl,WL.of hw',rfl,_,rfl,wl,_,_,_,rfl,rfl,WL.of hw',rfl,a.toNat,rfl,a2,λH1 s1=>?_⟩;refine⟨_,rfl,wl,_,_,_,rfl,rfl,WL.of (s1 _ _ hw'),rfl,b.toNat,rfl,b2,λH2 s2=>?_⟩;rw[a1,b1];exact λz dz nz nd ne=>⟨z,dz,y,a,b,rfl,Ac,hy,ha,hb,ab,λH3 kp cl=>⟨rfl,made (s1.trans s2) nz nd kp cl⟩⟩
end
def Dr.put (d:Dr):WU->Dr
 |.cov _=>d
 |.when t=>{ d with cd:=some t }
 |.cls c=>{ d with cl:=d.cl++[c] }
 |.shr l=>{ d with sh:=some l }
 |.wts=>{ d with wt:=true }
def YL (d:Dr):WU->Prop
 |.cov _=>False
 |.when _=>d.cd=none
 |.cls _=>d.cl.length<=100
 |.shr _=>d.sh=none
 |.wts=>d.wt=false
def Ps (n:Str):Dr:=⟨n,none,[],none,false⟩
structure XH (κ:A8) (CC CO CL CM CD:Addr) (E:List Addr) (H:Hp) (l:Addr) (ds:List Dr):Prop where
 ex:∃ pcs:List (Addr×Addr),H l=some (.lst (pcs.map λx=>V.ref x.1))/\XC (λpc d=>(pc.1∈E/\pc.2∈E)/\XQ κ CC CO CL CM CD (WK E H) H pc.1 pc.2 d) pcs ds/\(pcs.map (·.1)).Nodup/\(pcs.map (·.2)).Nodup/\l∉pcs.map (·.2)
 le:l∈E
 al:∀ e∈E,∃ o,H e=some o
inductive XT:List Dr->List WU->List Dr->Prop
 |nil {ds}:XT ds [] ds
 |cov {ds n rs ds'}:Vt (.cov n)->ds.length<8->n∉ds.map (·.nm)->XT (ds++[Ps n]) rs ds'->XT ds (.cov n::rs) ds'
 |put {ds d r rs ds'}:Vt r->YL d r->Kd (d.put r)->XT (ds++[d.put r]) rs ds'->XT (ds++[d]) (r::rs) ds'
def UT:CR.GW [1]:=⟨by decide,by decide,by decide,by decide⟩
def Wh {n:Str} (h:Vt (.cov n)):Kd (Ps n):=by
 refine⟨h.1,h.2,(by show 0<=8;decide),⟨λz hz=>?_,(by show [n].Nodup;simp)⟩,UT⟩;have:z=n:=by simpa [Ps,Dr.lc] using hz
 subst this;exact h.1
def XC.with {α β:Type} {R:α->β->Prop} {as:List α} {bs:List β} (h:XC R as bs):XC (λa b=>a∈as/\R a b) as bs:=by
 induction h with
 |nil=>exact .nil
 |cons r _ ih=>exact .cons ⟨zAk,r⟩ (ih.imp λa b ⟨m,q⟩=>⟨zAi _ m,q⟩)
def XH.same {κ:A8} {CC CO CL CM CD:Addr} {E:List Addr} {H H':Hp} {l:Addr} {ds:List Dr} (h:XH κ CC CO CL CM CD E H l ds) (s:WJ H H'):XH κ CC CO CL CM CD E H' l ds:=by
 obtain⟨⟨pcs,h1,h2,h3⟩,h4,h5⟩:=h;have so:WJ (WK E H) (WK E H'):=WK.mono (λb o e _=>s b o e) λx hx=>.inl hx;exact⟨⟨pcs,s _ _ h1,h2.imp λpc d ⟨g1,g2⟩=>⟨g1,g2.same so (s _) (s _)⟩,h3⟩,h4,λe he=>by obtain⟨o,z⟩:=h5 e he;exact⟨o,s _ _ z⟩⟩
inductive BX (κ:A8) (CC CO CL CM CR:Addr) (vs:List V) (H:Hp) (Q:VK):Prop
 |mk (l:_) (wl:_) (n:_) (E:_) (ds:_) (z0:vs=[.ref l,.ref wl]) (z1:XH κ CC CO CL CM CR E H l ds) (z2:H wl=some (.lst ((WU.cov n).ws.map V.str))) (z3:ds.length<8) (z4:n∉ds.map (·.nm)) (z5:ds.length<=8) (z6:∀ p c dx H',WJ H H'->H p=none->H c=none->p≠c->H' p=some (.ins CR dx (Nf n .non c .non false))->H' c=some (.lst [])->Q (.ref p) H'):BX κ CC CO CL CM CR vs H Q
def Y9 (κ:A8) (CC CO CL CM CR:Addr):Sp:=λvs H Q _=>BX κ CC CO CL CM CR vs H Q
inductive U2 (κ:A8) (CC CO CL CM CR:Addr) (vs:List V) (H:Hp) (Q:VK):Prop
 |mk (p:_) (c:_) (wl:_) (E:_) (d:_) (r:_) (z0:vs=[.ref p,.ref wl]) (z1:(p∈E/\c∈E)) (z2:(∀ e∈E,∃ o,H e=some o)) (z3:XQ κ CC CO CL CM CR (WK E H) H p c d) (z4:H wl=some (.lst (r.ws.map V.str))) (z5:wl≠c) (z6:Vt r) (z7:YL d r) (z8:∀ H',(∀ b o,H b=some o->b≠p->b≠c->H' b=some o)->XQ κ CC CO CL CM CR (WK E H') H' p c (d.put r)->Q .non H'):U2 κ CC CO CL CM CR vs H Q
def K7 (κ:A8) (CC CO CL CM CR:Addr):Sp:=λvs H Q _=>U2 κ CC CO CL CM CR vs H Q
inductive Q5 (κ:A8) (CC CO CL CM CR:Addr) (vs:List V) (H:Hp) (Q:VK):Prop
 |mk (l:_) (E:_) (ds:_) (r:_) (rs:_) (ds':_) (z0:vs=[.ref l,.str r.row]) (z1:XH κ CC CO CL CM CR E H l ds) (z2:XT ds (r::rs) ds') (z3:ds.length<=8) (z4:∀ E' ds2 H',(∀ b o,H b=some o->b∉E->H' b=some o)->(∀ e∈E',e∈E\/H e=none)->XH κ CC CO CL CM CR E' H' l ds2->ds2.length<=8->XT ds2 rs ds'->Q .non H'):Q5 κ CC CO CL CM CR vs H Q
def B0 (κ:A8) (CC CO CL CM CR:Addr):Sp:=λvs H Q _=>Q5 κ CC CO CL CM CR vs H Q
structure XV (κ:A8) (CC CO CL CM C CD CB:Addr) (H:Hp) (b:Addr) (ls:List LC):Prop where
 ex:∃ cl ak cs,YD CB H b cl ak cs/\XC (λc d=>c.2.1=d.nm/\c.2.2=d.wt/\XG κ CC CO CL CM C CD H c.1 d) cs ls
def XV.same {κ:A8} {CC CO CL CM C CD CB:Addr} {H H':Hp} {b:Addr} {ls:List LC} (h:XV κ CC CO CL CM C CD CB H b ls) (s:WJ H H'):XV κ CC CO CL CM C CD CB H' b ls:=by
 obtain⟨cl,ak,cs,h1,h2⟩:=h;exact⟨cl,ak,cs,h1.same s,h2.imp λc d ⟨e1,e2,e3⟩=>⟨e1,e2,e3.same s⟩⟩
inductive FC (κ:A8) (CC CO CL CM C CD CB:Addr) (vs:List V) (H:Hp) (Q:VK):Prop
 |mk (a:_) (rs:_) (ds:_) (z0:vs=[.ref a]) (z1:H a=some (.lst (rs.map λr=>V.str (WU.row r)))) (z2:rs.length<=1000) (z3:XT [] rs ds) (z4:∀ b H',WJ H H'->XV κ CC CO CL CM C CD CB H' b (ds.map Dr.lc)->Q (.ref b) H'):FC κ CC CO CL CM C CD CB vs H Q
def GE (κ:A8) (CC CO CL CM C CD CB:Addr):Sp:=λvs H Q _=>FC κ CC CO CL CM C CD CB vs H Q
def BL (E:List Addr) (H:Hp):WJ (WK E H) (WK [] H):=λb o h=>WK.of (λz=>nomatch z) (WK.at h).2
def K0 {α:Type} (xs:List α) (x:α):Nx (xs++[x]) (-1)=some x:=by
 unfold Nx;have e:HM (xs++[x]).length (-1)=some xs.length:=by
  rw[zAc,zAX];unfold HM
  split
  .lia
  .split
   .congr 1;lia
   .lia
 rw[e];simp
def U5 {c:Cl} (h:R7 c):∃ k r,V9 c=k::r/\(k=Str.ofString "own" \/ k=Str.ofString "layer" \/ k=Str.ofString "limit"):=by
 cases c with
 |any _=>exact h.elim
 |own y d=>exact⟨_,_,rfl,.inl rfl⟩
 |lay y a b=>exact⟨_,_,rfl,.inr (.inl rfl)⟩
 |lim y d=>exact⟨_,_,rfl,.inr (.inr rfl)⟩
section
seal L2.PS L2.PSs L2.PE L2.PA
variable {P:Program} {w:World} {K:zAb} {mg:Str->Option Value} {base:Heap} {Ab Ae Ad Ah Ao Ax Ay Am Al Ba An Aq Bb As Bd Af Aw:Addr}
def B2:Bc ["drafts","words"] ["drafts","words"] (Av Nt):=by injections
def L6 {f:Addr} {fd:zCh} (F:WV K "new_draft" "new_draft" Nt f fd) (T:Txt K mg) (L:Kl K mg Ab Ae Ad Ah Ao Ax Ay Am Al Ba An Aq Bb As Bd Af Aw) (KDraft:Gb P w K mg base 1 "Draft" Aw ["self","name"] (A7 Aw)):WN P w K mg base Do 3 f fd ["drafts","words"] (Y9 (A8.mk Ab Ae Ad Ah Ao Ax Ay Am) Al Ba An Aq Aw):=by
 have sc:=B2;bv_omega
 .obtain⟨_,_,_,_,_,rfl,_⟩:=h
  rfl
 obtain⟨l,wl,n,E0',ds,rfl,⟨⟨pcs,hl,al,_,_,_⟩,_,_⟩,hw,l8,nn,_,q⟩:=h;have hlen:=al.len;refine⟨_,(Ai (Bu (PW.pt (Fe (Bf Pf (Bq Bp rfl T.n_len (show zCg _=some (.builtin "len") from rfl) (Aa (pv 1) Ag)) Ar (Bk _)) (Et (Bf Db (Bq Bp rfl T.n_len (show zCg _=some (.builtin "len") from rfl) (Aa (pv 0) Ag)) (Dv T.g_MOST_COVERS rfl) (Bk _)))))
    (Aj Cf)
    Bj)
   (Ai (Bu (Bf Tk (Cc Bt (pv 1) Ar (λ_ _=>rfl)) (Eh (NC:=["draft"]) (own:=["draft"]) (cs:=[]) (ix:=[]) rfl (WO.of rfl) rfl trivial (Dg (pv 0)) (λ_ _ _=>(Bl (i:=0) (show (["draft"]:List Str).Nodup from by ac_nf) rfl (Or.inl rfl))) (λ_ _ _=>Dq) (λ_ _ _=>(Vk (K:=K) (pv 0) rfl))) rfl)
    (Aj Cf)
    Bj)
   (Aj (Bh (Ed KDraft (hr.mono (by decide)) rfl (Aa (Cc Bt (pv 1) Ar (λ_ _=>rfl)) Ag)))))),?_⟩
 have hw':H wl=some (.lst [.str (Str.ofString "cover"),.str n]):=hw;have lm:(pcs.map λx=>V.ref x.1).length=ds.length:=by rw[zAa,hlen]
 refine⟨_,rfl,wl,_,rfl,.inl (WL.of hw'),rfl,_,rfl,nF rfl ?_⟩;refine⟨_,rfl,l,_,rfl,.inl (WL.of hl),rfl,_,rfl,dF (λz=>by have:=V.int.inj z;rw[lm] at this;lia) ?_⟩;refine⟨_,rfl,wl,_,_,_,rfl,rfl,WL.of hw',rfl,_,rfl,l,rfl,⟨_,WL.of hl⟩,λm nm=>?_⟩;refine De (K:=K) (a:=l) (xs:=pcs.map λx=>V.ref x.1) (λi ys H2=>ys=((ds.take i).map (·.nm)).map V.str/\H2 m=some (.lst ys)/\WJ H H2) ⟨rfl,Ac,Ap nm _⟩
  (λi ys H2 _ ⟨e,h1,s2⟩=>⟨h1,by rw[e,zAa,zAa,zAw];lia,WL.of (s2 _ _ hl)⟩) (by rw[lm,zCf];lia) (λi x ys H2 hi ⟨e,h1,s2⟩=>?_) (λys H2 ⟨e,h1,s2⟩=>?_)
 .rw[zAx] at hi
  obtain⟨pc,epc,rfl⟩:=zAH.mp hi;obtain⟨d,ed,_,⟨dx,cv,sv,cs,hp,_⟩⟩:=al.get epc;refine⟨_,rfl,pc.1,_,dx,_,_,rfl,s2 _ _ hp,L.cl_Draft,L.na_Draft_name,AU _ _ _ _ _,h1,rfl,?_,Ac,λb o z=>?_⟩
  .rw[Bv ed,zAf,zAf,e]
   rfl
  .rw[Au (Ak z nm)]
   exact s2 b o z
 rw[lm,zAt] at e;subst e;refine⟨m,_,rfl,.inl (WL.of h1),rfl,Fm _,_,rfl,bF ?_ ?_⟩
 .show JX (.str n) _=false
  unfold JX;rw[List.any_map,List.any_eq_false];intro y hy e;have e':Sq (.str y) (.str n)=true:=e;unfold Sq at e';have:y=n:=by simpa using e'
  subst this;exact nn hy
 refine⟨_,rfl,wl,_,_,_,rfl,rfl,WL.of (s2 _ _ hw'),rfl,λp dx np nd ne=>⟨p,dx,n,rfl,Ac,λc H3 nc kp hp3 hc3=>⟨rfl,?_⟩⟩⟩;have npc:p≠c:=λz=>by rw[z,Ac] at nc;cases nc
 have nc':H2 c=none:=Ez nc;refine q p c dx H3 (λb o e=>?_) (s2.free np) (s2.free nc') npc hp3 hc3;have e2:=s2 _ _ e;have n1:=Ak e2 np;rw[kp b n1 (Ak e2 nc'),Au n1,Au (Ak e2 nd)];exact e2
def Tx:Bc ["draft","words"] ["draft","words"] (Av Ic):=by injections
def Tb {f:Addr} {fd:zCh} (F:WV K "take_of_cover" "take_of_cover" Ic f fd) (T:Txt K mg) (L:Kl K mg Ab Ae Ad Ah Ao Ax Ay Am Al Ba An Aq Bb As Bd Af Aw) (Ctake_when:Cy P w K mg base 41 "take_when" ["draft","words"] (Y3 (A8.mk Ab Ae Ad Ah Ao Ax Ay Am) Aw)) (Ctake_share:Cy P w K mg base 4 "take_share" ["draft","words"] (IG Aw)) (Ctake_waits:Cy P w K mg base 1 "take_waits" ["draft","words"] (GR Aw)) (Cclause_of:Cy P w K mg base 6 "clause_of" ["words"] (FG Al Ba An Aq)) :
  WN P w K mg base Do 42 f fd ["draft","words"] (K7 (A8.mk Ab Ae Ad Ah Ao Ax Ay Am) Al Ba An Aq Aw):=by
 have sc:=Tx;bv_omega
 .obtain⟨_,_,_,_,_,_,rfl,_⟩:=h
  rfl
 obtain⟨p,c,wl,E1,d,r,rfl,⟨pE,cE⟩,all,⟨dx,cv,sv,cs,hp,hc,h3,h4,h5⟩,hw,nwc,ok,od,q⟩:=h;refine⟨_,(Aj (Bu (Bf Db (Cc Bt (pv 1) Ar (λ_ _=>rfl)) Bg (Bk _))
    (Aj (Bz (Az Ctake_when (hr.mono (by decide)) rfl (Aa (pv 0) (Aa (pv 1) Ag)))))
    (Aj (Bu (Bf Db (Cc Bt (pv 1) Ar (λ_ _=>rfl)) Bg (Bk _))
    (Aj (Bz (Az Ctake_share (hr.mono (by decide)) rfl (Aa (pv 0) (Aa (pv 1) Ag)))))
    (Aj (Bu (Bf Db (Cc Bt (pv 1) Ar (λ_ _=>rfl)) Bg (Bk _))
    (Aj (Bz (Az Ctake_waits (hr.mono (by decide)) rfl (Aa (pv 0) (Aa (pv 1) Ag)))))
    (Aj (Bz (Dy PySem.F.plainAttrs_list PySem.F.slot_list_append PySem.F.type_list_append Cj (Bx (pv 0) rfl) (Aa (Az Cclause_of (hr.mono (by decide)) rfl (Aa (pv 1) Ag)) Ag)))))))))),?_⟩
 have npc:p≠c:=Eu hp hc (by intro z;cases z);have sne:∀ {y z:Str},y≠z->¬ V.str y=V.str z:=λh e=>h (V.str.inj e);have off:∀ {H':Hp},(∀ b o,H b=some o->b≠p->b≠c->H' b=some o)->WJ (WK E1 H) (WK E1 H'):=λk=>WK.mono (λb o e n=>k b o e (λz=>n (z▸pE)) (λz=>n (z▸cE))) λx hx=>.inl hx;cases r with
 |cov n=>exact od.elim
 |when t=>
  have od:d.cd=none:=od;rw[od] at h3;have h3:cv=.non:=h3;subst h3;have hw':H wl=some (.lst (V.str (Str.ofString "when")::(Bo Bi t).map V.str)):=hw;refine⟨_,rfl,wl,_,_,_,rfl,rfl,WL.of hw',at0 _ _,rfl,_,rfl,dT rfl ?_⟩;refine⟨_,rfl,_,rfl,p,wl,dx,d.nm,c,sv,d.wt,t,rfl,hp,hw,ok,λu H' kb hp' cd=>?_⟩;have k':∀ b o,H b=some o->b≠p->b≠c->H' b=some o:=λb o e n _=>kb b o e n;have so:=off k';exact q H' k' ⟨dx,u,sv,cs,hp',kb _ _ hc npc.symm,WT.same (WK.new all) _ cd,h4.same so,h5.same so⟩
 |shr l=>
  have od:d.sh=none:=od;rw[od] at h5;have h5:sv=.non:=h5;subst h5;have hw':H wl=some (.lst (V.str (Str.ofString "share")::(N5 l).map V.str)):=hw;refine⟨_,rfl,wl,_,_,_,rfl,rfl,WL.of hw',at0 _ _,rfl,_,rfl,dF (sne (by ac_nf)) ?_⟩;refine⟨_,rfl,wl,_,_,_,rfl,rfl,WL.of hw',at0 _ _,rfl,_,rfl,dT rfl ?_⟩;refine⟨_,rfl,_,rfl,p,wl,dx,d.nm,cv,c,d.wt,l,rfl,hp,hw,ok,λa xs H' kb hp' ha px=>?_⟩;have k':∀ b o,H b=some o->b≠p->b≠c->H' b=some o:=λb o e n _=>kb b o e n;have so:=off k';have sn:WJ (Nw H H') (WK E1 H'):=WK.new all;exact q H' k' ⟨dx,cv,.ref a,cs,hp',kb _ _ hc npc.symm,h3.same so,h4.same so,⟨a,xs,rfl,sn _ _ ha,px.mono (Fu sn)⟩⟩
 |wts=>
  have od:d.wt=false:=od;rw[od] at hp;refine⟨_,rfl,wl,_,_,_,rfl,rfl,WL.of hw,rfl,rfl,_,rfl,dF (sne (by ac_nf)) ?_⟩;refine⟨_,rfl,wl,_,_,_,rfl,rfl,WL.of hw,rfl,rfl,_,rfl,dF (sne (by ac_nf)) ?_⟩;refine⟨_,rfl,wl,_,_,_,rfl,rfl,WL.of hw,rfl,rfl,_,rfl,dT rfl ?_⟩;refine⟨_,rfl,_,rfl,p,wl,dx,d.nm,cv,c,sv,rfl,hp,hw,?_⟩;have k':∀ b o,H b=some o->b≠p->b≠c->upd H p (.ins Aw dx (Nf d.nm cv c sv true)) b=some o:=λb o e n _=>by rw[Au n];exact e
  have so:=off k';exact q _ k' ⟨dx,cv,sv,cs,Ac,by rw[Au npc.symm];exact hc,h3.same so,h4.same so,h5.same so⟩
 |cls z=>
  obtain⟨k,r,ek,hk⟩:=U5 ok;have hw':H wl=some (.lst (V.str k::r.map V.str)):=by rw[hw];show some (HO.lst ((V9 z).map V.str))=_;rw[ek];rfl
  have n1:k≠Str.ofString "when":=by rcases hk with rfl|rfl|rfl <;> decide +kernel
  have n2:k≠Str.ofString "share":=by rcases hk with rfl|rfl|rfl <;> decide +kernel
  have n3:k≠Str.ofString "waits":=by rcases hk with rfl|rfl|rfl <;> decide +kernel
  refine⟨_,rfl,wl,_,_,_,rfl,rfl,WL.of hw',at0 _ _,rfl,_,rfl,dF (sne n1) ?_⟩;refine⟨_,rfl,wl,_,_,_,rfl,rfl,WL.of hw',at0 _ _,rfl,_,rfl,dF (sne n2) ?_⟩;refine⟨_,rfl,wl,_,_,_,rfl,rfl,WL.of hw',at0 _ _,rfl,_,rfl,dF (sne n3) ?_⟩;refine⟨_,rfl,p,_,dx,_,_,rfl,hp,L.cl_Draft,L.na_Draft_clauses,Xh _ _ _ _ _,.inl ⟨rfl,_,WL.of hc⟩,_,rfl,wl,z,rfl,hw,ok,λy H1 s1 cl=>?_⟩;have lc:cs.length<sizeLine:=by have:=h4.len;have:d.cl.length<=100:=od;rw[zCf];lia
  refine⟨c,_,_,rfl,rfl,s1 _ _ hc,lc,?_⟩;have k':∀ b o,H b=some o->b≠p->b≠c->upd H1 c (.lst (cs++[.ref y])) b=some o:=λb o e _ n=>by rw[Au n];exact s1 _ _ e
  have so:=off k';have sn:WJ (Nw H H1) (WK E1 (upd H1 c (.lst (cs++[.ref y])))):=λb o e=>by
   obtain⟨b1,b2⟩:=WK.at (WK.new all b o e);exact WK.of b1 (by rw[Au (λy=>b1 (by rw[y];exact cE))];exact b2)
  exact q _ k' ⟨dx,cv,sv,_,by rw[Au npc];exact s1 _ _ hp,Ac,h3.same so,(h4.same so).app (.cons ⟨y,rfl,cl.same sn⟩ .nil),h5.same so⟩
def N8:Bc ["drafts","row","words"] ["drafts","row"] (Av Qd):=by injections
def O9 {f:Addr} {fd:zCh} (F:WV K "take_row" "take_row" Qd f fd) (T:Txt K mg) (L:Kl K mg Ab Ae Ad Ah Ao Ax Ay Am Al Ba An Aq Bb As Bd Af Aw) (Cnew_draft:Cy P w K mg base 3 "new_draft" ["drafts","words"] (Y9 (A8.mk Ab Ae Ad Ah Ao Ax Ay Am) Al Ba An Aq Aw)) (Ctake_of_cover:Cy P w K mg base 42 "take_of_cover" ["draft","words"] (K7 (A8.mk Ab Ae Ad Ah Ao Ax Ay Am) Al Ba An Aq Aw)) (Mas_cover:Ec P w K mg base 8 Aw "as_cover" ["self"] (AR (A8.mk Ab Ae Ad Ah Ao Ax Ay Am) Al Ba An Aq As Bb Aw)) :
  WN P w K mg base Do 43 f fd ["drafts","row"] (B0 (A8.mk Ab Ae Ad Ah Ao Ax Ay Am) Al Ba An Aq Aw):=by
 have sc:=N8;bv_omega
 .obtain⟨_,_,_,_,_,_,rfl,_⟩:=h
  rfl
 obtain⟨l,E1,ds,r,rs,ds',rfl,⟨⟨pcs,hl,al,nd1,nd2,nl⟩,lE,all⟩,rd,l8,q⟩:=h;refine⟨_,(Ai (Bu (Ee (Dc (Bq Dp rfl T.n_isinstance (show zCg _=some (.builtin "isinstance") from rfl) (Aa (pv 1) (Aa (Oy "str" rfl T.n_str rfl) Ag)))))
    (Aj Cf)
    Bj)
   (Ai (Bn (i:=2) sc.nd rfl (Or.inl rfl) (Dy PySem.F.plainAttrs_str PySem.F.slot_str_split PySem.F.type_str_split Xl (pv 1) (Aa Bg Ag)))
   (Ai (Bu (Bf Db (Cc Bt (pv 2) Ar (λ_ _=>rfl)) Bg (Bk _))
    (Aj (Bz (Dy PySem.F.plainAttrs_list PySem.F.slot_list_append PySem.F.type_list_append Cj (pv 0) (Aa (Az Cnew_draft (hr.mono (by decide)) rfl (Aa (pv 0) (Aa (pv 2) Ag))) Ag))))
    (Aj (Bu (NW (pv 0))
    (Aj (Bz (Az Ctake_of_cover (hr.mono (by decide)) rfl (Aa (Cc Bt (pv 0) (NL HU Ar) (λ_ _=>rfl)) (Aa (pv 2) Ag)))))
    (Aj Cf))))
   (Aj (Bz (Cg Mas_cover (hr.mono (by decide)) (Cc Bt (pv 0) (NL HU Ar) (λ_ _=>rfl)))))))),?_⟩
 have hlen:=al.len;have okr:Vt r:=by cases rd <;> assumption
 refine⟨_,rfl,_,_,_,_,_,rfl,Ow,.str _,AG,_,rfl,Ep ?_⟩;refine⟨_,rfl,rfl,_,_,rfl,rfl,by ac_nf,KG okr,λwl nwl=>?_⟩;rw[Yx okr];have s1:=Ap nwl (.lst (r.ws.map V.str));have hw:upd H wl (.lst (r.ws.map V.str)) wl=some (.lst (r.ws.map V.str)):=Ac;have k1:∀ b o,H b=some o->b∉E1->upd H wl (.lst (r.ws.map V.str)) b=some o:=λb o e _=>s1 _ _ e;have so1:WJ (WK E1 H) (WK E1 (upd H wl (.lst (r.ws.map V.str)))):=WK.mono k1 λx hx=>.inl hx;have al1:=al.imp λpc d ⟨g,h⟩=>(⟨g,h.same so1 (s1 _) (s1 _)⟩:(pc.1∈E1/\pc.2∈E1)/\XQ (A8.mk Ab Ae Ad Ah Ao Ax Ay Am) Al Ba An Aq Aw (WK E1 (upd H wl (.lst (r.ws.map V.str)))) (upd H wl (.lst (r.ws.map V.str))) pc.1 pc.2 d);have hl1:=s1 _ _ hl;have all1:∀ e∈E1,∃ o,upd H wl (.lst (r.ws.map V.str)) e=some o:=λe he=>by obtain⟨o,z⟩:=all e he;exact⟨o,s1 _ _ z⟩
 have nwE:wl∉E1:=λz=>by obtain⟨o,z⟩:=all _ z;rw[nwl] at z;cases z
 generalize upd H wl (.lst (r.ws.map V.str))=H1 at s1 hw k1 so1 al1 hl1 all1;refine Hu [some (.ref l),some (.str r.row),some (.ref wl)] rfl ?_;have lsz:(pcs.map λx=>V.ref x.1).length<sizeLine:=by rw[zAa,hlen,zCf];lia
 cases rd with
 |@cov _ n _ _ ok l7 nn rd=>
  refine⟨_,rfl,wl,_,_,_,rfl,rfl,WL.of hw,rfl,rfl,_,rfl,dT rfl ?_⟩;refine⟨_,rfl,.inl ⟨rfl,_,WL.of hl1⟩,_,rfl,_,rfl,l,wl,n,E1,ds,rfl,⟨⟨pcs,hl1,al1,nd1,nd2,nl⟩,lE,all1⟩,hw,l7,nn,l8,λp c dx H2 s2 np nc npc hp2 hc2=>?_⟩;refine⟨l,_,_,rfl,rfl,s2 _ _ hl1,lsz,?_⟩;have nlp:l≠p:=Ak hl1 np;have nlc:l≠c:=Ak hl1 nc;have hp3:upd H2 l (.lst (pcs.map (λx=>V.ref x.1)++[.ref p])) p=some (.ins Aw dx (Nf n .non c .non false)):=by rw[Au nlp.symm];exact hp2
  have hc3:upd H2 l (.lst (pcs.map (λx=>V.ref x.1)++[.ref p])) c=some (.lst []):=by rw[Au nlc.symm];exact hc2
  have hl3:upd H2 l (.lst (pcs.map (λx=>V.ref x.1)++[.ref p])) l=some (.lst ((pcs++[(p,c)]).map λx=>V.ref x.1)):=by rw[Ac,zAf];rfl
  have k3:∀ b o,H1 b=some o->b∉E1->upd H2 l (.lst (pcs.map (λx=>V.ref x.1)++[.ref p])) b=some o:=λb o e n=>by rw[Au (λy=>n (by rw[y];exact lE))];exact s2 _ _ e
  have keep:∀ b o,H1 b=some o->b≠l->upd H2 l (.lst (pcs.map (λx=>V.ref x.1)++[.ref p])) b=some o:=λb o e n=>by rw[Au n];exact s2 _ _ e
  have all3:∀ e∈p::c::E1,∃ o,upd H2 l (.lst (pcs.map (λx=>V.ref x.1)++[.ref p])) e=some o:=λe he=>by
   rcases zAj.mp he with rfl|he
   .exact⟨_,hp3⟩
   rcases zAj.mp he with rfl|he
   .exact⟨_,hc3⟩
   obtain⟨o,z⟩:=all1 e he;by_cases c':e=l
   .subst c';exact⟨_,hl3⟩
   .exact⟨o,keep e o z c'⟩
  have so3:WJ (WK E1 H1) (WK (p::c::E1) (upd H2 l (.lst (pcs.map (λx=>V.ref x.1)++[.ref p])))):=WK.mono k3 λx hx=>by
   rcases zAj.mp hx with rfl|hx
   .exact .inr np
   rcases zAj.mp hx with rfl|hx
   .exact .inr nc
   exact .inl hx
  have s13:∀ b o,H b=some o->b∉E1->upd H2 l (.lst (pcs.map (λx=>V.ref x.1)++[.ref p])) b=some o:=λb o e n=>k3 b o (s1 _ _ e) n;generalize upd H2 l (.lst (pcs.map (λx=>V.ref x.1)++[.ref p]))=H3 at hp3 hc3 hl3 k3 keep all3 so3 s13;have mem1:∀ x∈pcs,x.1≠p/\x.2≠c/\x.1≠l/\x.2≠l:=λx hx=>by
   obtain⟨d,_,_,⟨dx',_,_,_,g1,g2,_⟩⟩:=al1.mem hx;exact⟨Ak g1 np,Ak g2 nc,Eu g1 hl1 (by intro z;cases z),λz=>nl (zAz.mpr ⟨x,hx,z⟩)⟩
  have new:XQ (A8.mk Ab Ae Ad Ah Ao Ax Ay Am) Al Ba An Aq Aw (WK (p::c::E1) H3) H3 p c (Ps n):=⟨dx,.non,.non,[],hp3,hc3,rfl,.nil,rfl⟩;have al3:XC (λpc d=>(pc.1∈p::c::E1/\pc.2∈p::c::E1)/\XQ (A8.mk Ab Ae Ad Ah Ao Ax Ay Am) Al Ba An Aq Aw (WK (p::c::E1) H3) H3 pc.1 pc.2 d) (pcs++[(p,c)]) (ds++[Ps n]):=by
   refine (XC.app ?_ (.cons ⟨⟨by simp,by simp⟩,new⟩ .nil));have:XC (λpc d=>pc∈pcs/\((pc.1∈E1/\pc.2∈E1)/\XQ (A8.mk Ab Ae Ad Ah Ao Ax Ay Am) Al Ba An Aq Aw (WK E1 H1) H1 pc.1 pc.2 d)) pcs ds:=al1.with
   exact this.imp λpc d ⟨hm,⟨g1,g2⟩,g3⟩=>by
    obtain⟨_,_,n3,n4⟩:=mem1 pc hm;exact⟨⟨by simp [g1],by simp [g2]⟩,g3.same so3 (λo e=>keep _ o e n3) (λo e=>keep _ o e n4)⟩
  have D3:XH (A8.mk Ab Ae Ad Ah Ao Ax Ay Am) Al Ba An Aq Aw (p::c::E1) H3 l (ds++[Ps n]):=by
   refine⟨⟨pcs++[(p,c)],hl3,al3,?_,?_,?_⟩,by simp [lE],all3⟩
   .rw[zAf,zBa]
    refine⟨nd1,by simp,λa ha b hb e=>?_⟩;obtain⟨x,hx,rfl⟩:=zAz.mp ha;have:b=p:=by simpa using hb
    exact (mem1 x hx).1 (e.trans this)
   .rw[zAf,zBa]
    refine⟨nd2,by simp,λa ha b hb e=>?_⟩;obtain⟨x,hx,rfl⟩:=zAz.mp ha;have:b=c:=by simpa using hb
    exact (mem1 x hx).2.1 (e.trans this)
   .rw[zAf]
    intro z;rcases zAF.mp z with z|z
    .exact nl z
    .exact nlc (by simpa using z)
  refine⟨_,rfl,_,rfl,l,_,_,_,rfl,rfl,WL.of hl3,(by rw[zAf];exact K0 _ _),p,dx,_,rfl,hp3,rfl,p,c,_,[],Ps n,rfl,BL _ _,(λ_ z=>nomatch z),new,Wh ok,λu H4 s4 _ _=>?_⟩;refine q (p::c::E1) (ds++[Ps n]) H4 (λb o e nE=>s4 _ _ (s13 b o e nE)) (λe he=>?_) (D3.same s4) (by rw[zAc];show _+1<=8;lia) rd;rcases zAj.mp he with rfl|he
  .exact .inr (s1.free np)
  rcases zAj.mp he with rfl|he
  .exact .inr (s1.free nc)
  exact .inl he
 |@put ds0 d _ _ _ ok od gd rd=>
  obtain⟨pcs0,⟨p,c⟩,rfl,al0,⟨pE,cE⟩,da⟩:=al1.snoc_inv;have nk:∃ k r',r.ws=k::r'/\k≠Str.ofString "cover":=by
   cases r with
   |cov n=>exact od.elim
   |when t=>exact⟨_,_,rfl,by ac_nf⟩
   |shr t=>exact⟨_,_,rfl,by ac_nf⟩
   |wts=>exact⟨_,_,rfl,by ac_nf⟩
   |cls z=>
    obtain⟨k,r',ek,hk⟩:=U5 ok;exact⟨k,r',ek,by rcases hk with rfl|rfl|rfl <;> decide +kernel⟩
  obtain⟨k,r',ek,nk⟩:=nk;have hw':H1 wl=some (.lst (V.str k::r'.map V.str)):=by rw[hw,ek];rfl
  refine⟨_,rfl,wl,_,_,_,rfl,rfl,WL.of hw',at0 _ _,rfl,_,rfl,dF (λz=>nk (V.str.inj z)) ?_⟩;have hlx:H1 l=some (.lst (pcs0.map (λx=>V.ref x.1)++[.ref p])):=by rw[hl1,zAf];rfl
  refine⟨_,rfl,true,.inl ⟨_,WL.of hlx,by simp⟩,Kt ?_⟩;have nwc:wl≠c:=λz=>nwE (by rw[z];exact cE);refine⟨_,rfl,_,rfl,l,_,_,_,rfl,rfl,WL.of hlx,K0 _ _,_,rfl,p,c,wl,E1,d,r,rfl,⟨pE,cE⟩,all1,da,hw,nwc,ok,od,λH2 k2 da2=>?_⟩;have npc:p≠c:=by obtain⟨_,_,_,_,g1,g2,_⟩:=da;exact Eu g1 g2 (by intro z;cases z)
  have nlp:l≠p:=by obtain⟨_,_,_,_,g1,_⟩:=da;exact Eu hl1 g1 (by intro z;cases z)
  have nlc:l≠c:=λz=>nl (zAz.mpr ⟨(p,c),by simp,z.symm⟩);have so2:WJ (WK E1 H1) (WK E1 H2):=WK.mono (λb o e n=>k2 b o e (λy=>n (by rw[y];exact pE)) (λy=>n (by rw[y];exact cE))) λx hx=>.inl hx;have hl2:H2 l=some (.lst ((pcs0++[(p,c)]).map λx=>V.ref x.1)):=k2 _ _ hl1 nlp nlc;have all2:∀ e∈E1,∃ o,H2 e=some o:=λe he=>by
   obtain⟨o,z⟩:=all1 e he;obtain⟨_,_,_,_,g1,g2,_⟩:=da2;by_cases c1:e=p
   .subst c1;exact⟨_,g1⟩
   by_cases c2:e=c
   .subst c2;exact⟨_,g2⟩
   exact⟨o,k2 e o z c1 c2⟩
  rw[zAf] at nd1 nd2;have D2:XH (A8.mk Ab Ae Ad Ah Ao Ax Ay Am) Al Ba An Aq Aw E1 H2 l (ds0++[d.put r]):=by
   refine⟨⟨pcs0++[(p,c)],hl2,XC.app ?_ (.cons ⟨⟨pE,cE⟩,da2⟩ .nil),by rw[zAf];exact nd1,by rw[zAf];exact nd2,nl⟩,lE,all2⟩;refine al0.with.imp λpc d' ⟨hm,g,g3⟩=>⟨g,?_⟩
   have n1:pc.1≠p:=λz=>(zBa.mp nd1).2.2 pc.1 (zAz.mpr ⟨pc,hm,rfl⟩) p (by simp) z;have n2:pc.2≠c:=λz=>(zBa.mp nd2).2.2 pc.2 (zAz.mpr ⟨pc,hm,rfl⟩) c (by simp) z;obtain⟨_,_,_,_,a1,a2,_⟩:=da;have g3':=g3;obtain⟨_,_,_,_,b1,b2,_⟩:=g3';exact g3.same so2 (λo e=>k2 _ o e n1 (Eu b1 a2 (by intro z;cases z))) (λo e=>k2 _ o e (Eu b2 a1 (by intro z;cases z)) n2)
  have hl2':H2 l=some (.lst (pcs0.map (λx=>V.ref x.1)++[.ref p])):=by rw[hl2,zAf];rfl
  obtain⟨dx2,cv2,sv2,cs2,g1,g2,g3⟩:=id da2;refine⟨_,rfl,_,rfl,l,_,_,_,rfl,rfl,WL.of hl2',K0 _ _,p,dx2,_,rfl,g1,rfl,p,c,_,[],d.put r,rfl,BL _ _,(λ_ z=>nomatch z),da2,gd,λu H4 s4 _ _=>?_⟩;refine q E1 (ds0++[d.put r]) H4 (λb o e nE=>s4 _ _ (k2 b o (s1 _ _ e) (λy=>nE (by rw[y];exact pE)) (λy=>nE (by rw[y];exact cE)))) (λe he=>.inl he) (D2.same s4) ?_ rd;rw[zAc] at l8 ⊢;exact l8
end
def XC.mapR {α β γ:Type} {R:α->γ->Prop} {f:β->γ} {as:List α} {bs:List β} (h:XC (λa b=>R a (f b)) as bs):XC R as (bs.map f):=by
 induction h with
 |nil=>exact .nil
 |cons r _ ih=>exact .cons r ih
def XT.names {ds ds':List Dr} {rs:List WU} (h:XT ds rs ds'):(ds.map (·.nm)).Nodup->ds.length<=8->(ds'.map (·.nm)).Nodup/\ds'.length<=8:=by
 induction h with
 |nil=>exact λa b=>⟨a,b⟩
 |@cov ds n rs ds' ok l8 nn _ ih=>
  intro a b;refine ih ?_ (by rw[zAc];show _+1<=8;lia);rw[zAf,zBa];refine⟨a,by simp,λx hx y hy e=>?_⟩;have:y=n:=by simpa [Ps] using hy
  subst this;subst e;exact nn hx
 |@put ds d r rs ds' ok od gd _ ih=>
  intro a b;refine ih ?_ (by rw[zAc] at b ⊢;exact b);have e:(d.put r).nm=d.nm:=by cases r <;> rfl
  rw[zAf] at a ⊢;rw[zAv,zBy,e];exact a
def XT.good {ds ds':List Dr} {rs:List WU} (h:XT ds rs ds'):(∀ d∈ds,Kd d)->∀ d∈ds',Kd d:=by
 induction h with
 |nil=>exact λa=>a
 |@cov ds n rs ds' ok l8 nn _ ih=>
  refine λa=>ih λd hd=>?_;rcases zAF.mp hd with hd|hd
  .exact a d hd
  .rw[zAp.mp hd];exact Wh ok
 |@put ds d r rs ds' ok od gd _ ih=>
  refine λa=>ih λd' hd=>?_;rcases zAF.mp hd with hd|hd
  .exact a d' (zBp _ hd)
  .rw[zAp.mp hd];exact gd
def Lz:Dw->Bool
 |.at .alw=>true
 |_=>false
structure QG (d:LC):Prop where
 nm:Vt (.cov d.nm)
 t:Vt (.when d.t)
 cl:d.cl.length<=8/\∀ c∈d.cl,R7 c
 hs:Vt (.shr d.hs)
 nd:(d.hs.map (·.1)).Nodup
 gw:CR.GW (d.hs.map (·.2))
def Dm (d:LC):List WU:=WU.cov d.nm::((if Lz d.t=true then [] else [WU.when d.t])++(d.cl.map WU.cls++((if d.hs=[(d.nm,1)] then [] else [WU.shr d.hs])++(if d.wt=true then [WU.wts] else []))))
def Br (r:WU):V:=.str r.row
def Ex (a b c:Str):a++b++c=a++(b++c):=by
 show Str.mk ((a.cps++b.cps)++c.cps)=Str.mk (a.cps++(b.cps++c.cps));rw[Array.append_assoc]
def Km (z a b:Str) (r:List Str):Str.join z (a::b::r)=a++z++Str.join z (b::r):=rfl
def F8 (n:Str):Str.ofString "cover "++n=(WU.cov n).row:=by
 have e:Str.ofString "cover "=Str.ofString "cover"++Str.ofString " ":=by ac_nf
 show _=Str.join (Str.ofString " ") [Str.ofString "cover",n];rw[Km,e];rfl
def Kp (z k:Str) {ws:List Str} (h:ws≠[]):Str.join z (k::ws)=k++z++Str.join z ws:=by
 cases ws with
 |nil=>exact absurd rfl h
 |cons a r=>exact Km z k a r
def Se {t:Dw} (h:Eo Em t):Str.ofString "when "++Str.join (Str.ofString " ") (Bo Bi t)=(WU.when t).row:=by
 have e:Str.ofString "when "=Str.ofString "when"++Str.ofString " ":=by ac_nf
 show _=Str.join (Str.ofString " ") (Str.ofString "when" :: Bo Bi t);rw[Kp _ _ (λz=>by have:=Jj h;rw[z] at this;simp at this),e]
def EB {t:Dw} (h:Eo Em t) (e:Bo Bi t=[Str.ofString "always"]):t=.at .alw:=by
 cases t with
 |«at» c=>
  rw[Gi] at e;cases c with
  |alw=>rfl
  |_=>simp [Bi] at e
 |no t=>
  rw[Tl] at e;have:=List.cons.inj e;exact absurd this.1 (by ac_nf)
 |al ts=>
  rw[Tt] at e;exfalso;unfold Eo at h
  match ts,h,e with
  |a::b::r,h,e=>
   have e:=congrArg List.length e;rw[zAv,zAv,Dd,Cr,zAc,zAe,zAc] at e;have:=Po (Hc h.2.2 a (by simp)) 3;have:=Po (Hc h.2.2 b (by simp)) 3;simp at e
   lia
  |[a],h,e=>have:=h.1;simp at this
  |[],h,e=>have:=h.1;simp at this
 |so ts=>
  rw[Tu] at e;exfalso;unfold Eo at h
  match ts,h,e with
  |a::b::r,h,e=>
   have e:=congrArg List.length e;rw[zAv,zAv,Dd,Cr,zAc,zAe,zAc] at e;have:=Po (Hc h.2.2 a (by simp)) 2;have:=Po (Hc h.2.2 b (by simp)) 2;simp at e
   lia
  |[a],h,e=>have:=h.1;simp at this
  |[],h,e=>have:=h.1;simp at this
def GC {t:Dw} (h:Eo Em t):(Str.join (Str.ofString " ") (Bo Bi t)=Str.ofString "always")↔Lz t=true:=by
 constructor
 .intro e
  have l1:=Jj h;have s:=Ll (ws:=Bo Bi t) (λz=>by rw[z] at l1;simp at l1) (Lx h);rw[e] at s;have s2:=Ll (ws:=[Str.ofString "always"]) (by simp) (λw hw=>by rw[zAp.mp hw];exact⟨by ac_nf,by ac_nf⟩);have e2:Str.join (Str.ofString " ") [Str.ofString "always"]=Str.ofString "always":=rfl;rw[e2,s] at s2;rw[EB h s2];rfl
 .intro e
  cases t with
  |«at» c=>
   cases c with
   |alw=>rw[Gi];rfl
   |_=>cases e
  |_=>cases e
def OD {r:WU} (h:Vt r):r.row.length<=6200:=by
 have jl:=Iu (z:=Str.ofString " ") (B:=100) (ps:=r.ws) λy hy=>((Rz h).1 y hy).2;have e1:(Str.ofString " ").length=1:=by ac_nf
 rw[e1] at jl;have:=(Rz h).2.2;have jl2:r.ws.length*(100+1)<=61*(100+1):=zBt _ this;unfold WU.row
 lia
def HJ (l:List (Str×Int)) (x:Str×Int):N5 (l++[x])=N5 l++[x.1,tx (Ce x.2.toNat)]:=by
 unfold N5;rw[List.flatMap_append];rfl
def IX (c:Cl):BN c=(V9 c).map V.str:=by cases c <;> rfl
def CP {c:Cl} (h:R7 c):SI c:=by
 cases c with
 |own y d=>exact h.2
 |lay y a b=>exact⟨h.2.1,h.2.2.1⟩
 |lim y d=>exact h.2
 |any y=>trivial
def KE (CO CL CM:Addr) (C:Addr):Prop:=C=CO\/C=CL\/C=CM
def AY {CC CO CL CM:Addr} {c:Cl} (h:R7 c):KE CO CL CM (Yy CC CO CL CM c):=by
 cases c with
 |own _ _=>exact .inl rfl
 |lay _ _ _=>exact .inr (.inl rfl)
 |lim _ _=>exact .inr (.inr rfl)
 |any _=>exact h.elim
inductive MP (κ:A8) (CC CO CL CM C CD:Addr) (vs:List V) (H:Hp) (Q:VK):Prop
 |mk (p:_) (d:_) (z0:vs=[.ref p]) (z1:XG κ CC CO CL CM C CD H p d) (z2:Vt (.shr d.hs)) (z3:∀ H',WJ H H'->Q (Br (.shr d.hs)) H'):MP κ CC CO CL CM C CD vs H Q
def QD (κ:A8) (CC CO CL CM C CD:Addr):Sp:=λvs H Q _=>MP κ CC CO CL CM C CD vs H Q
inductive MQ (κ:A8) (CC CO CL CM C CD:Addr) (vs:List V) (H:Hp) (Q:VK):Prop
 |mk (p:_) (d:_) (z0:vs=[.ref p]) (z1:XG κ CC CO CL CM C CD H p d) (z2:QG d) (z3:∀ l H',WJ H H'->H l=none->H' l=some (.lst ((Dm d).map Br))->Q (.ref l) H'):MQ κ CC CO CL CM C CD vs H Q
def NU (κ:A8) (CC CO CL CM C CD:Addr):Sp:=λvs H Q _=>MQ κ CC CO CL CM C CD vs H Q
inductive NI (κ:A8) (CC CO CL CM C CD CB:Addr) (vs:List V) (H:Hp) (Q:VK):Prop
 |mk (b:_) (ls:_) (z0:vs=[.ref b]) (z1:XV κ CC CO CL CM C CD CB H b ls) (z2:ls.length<=8) (z3:(∀ d∈ls,QG d)) (z4:∀ l H',WJ H H'->H l=none->H' l=some (.lst ((ls.flatMap Dm).map Br))->Q (.ref l) H'):NI κ CC CO CL CM C CD CB vs H Q
def OY (κ:A8) (CC CO CL CM C CD CB:Addr):Sp:=λvs H Q _=>NI κ CC CO CL CM C CD CB vs H Q
section
seal L2.PS L2.PSs L2.PE L2.PA
variable {P:Program} {w:World} {K:zAb} {mg:Str->Option Value} {base:Heap} {Ab Ae Ad Ah Ao Ax Ay Am Al Ba An Aq Bb As Bd Af Aw:Addr} {Ek Fj Fk Gm Gk Fi Gj Ib Ia Jr:Addr}
def B1:Bc ["rows","drafts","at","row"] ["rows"] (Av Nq):=by injections
def D5 {f:Addr} {fd:zCh} (F:WV K "read_book" "read_book" Nq f fd) (T:Txt K mg) (L:Kl K mg Ab Ae Ad Ah Ao Ax Ay Am Al Ba An Aq Bb As Bd Af Aw) (Z:Xc K mg Ek Fj Fk Gm Gk Fi Gj Ib Ia Jr) (Ctake_row:Cy P w K mg base 43 "take_row" ["drafts","row"] (B0 (A8.mk Ab Ae Ad Ah Ao Ax Ay Am) Al Ba An Aq Aw)) (Mas_cover:Ec P w K mg base 8 Aw "as_cover" ["self"] (AR (A8.mk Ab Ae Ad Ah Ao Ax Ay Am) Al Ba An Aq As Bb Aw)) (KBook:Gb P w K mg base 1 "Book" Bd ["self","covers"] (Y0 As Bd)) :
  WN P w K mg base Do 44 f fd ["rows"] (GE (A8.mk Ab Ae Ad Ah Ao Ax Ay Am) Al Ba An Aq As Bb Bd):=by
 have sc:=B1;bv_omega
 .obtain⟨_,_,_,rfl,_⟩:=h
  rfl
 obtain⟨a,rs,ds',rfl,ha,l1000,rd,q⟩:=h;refine⟨_,(Ai (Bu (Ee (Dc (Bq Dp rfl T.n_isinstance (show zCg _=some (.builtin "isinstance") from rfl) (Aa (pv 0) (Aa (Oy "list" rfl T.n_list rfl) Ag)))))
    (Aj Cf)
    Bj)
   (Ai (Bn (i:=1) sc.nd rfl (Or.inl rfl) (Cb Ag))
   (Ai (El PassesOwn.never rfl (C0 rfl T.n_enumerate (Aa (pv 0) Ag)) (Js (n:=2) rfl (By (Bl (i:=2) sc.nd rfl (Or.inl rfl)) (By (Bl (i:=3) sc.nd rfl (Or.inl rfl)) Fz)))
    (Aj (GV rfl rfl rfl Z.a_CoverError (λpn E W hW hp=>
    (Aj (Bz (Az Ctake_row (hr.mono (by decide)) rfl (Aa (pv 1) (Aa (pv 3) Ag)))))) (λe=>
    (Aj Cf)))))
   (Aj (Bh (Ed KBook (hr.mono (by decide)) rfl (Aa (Eh (NC:=["draft"]) (own:=["draft"]) (cs:=[]) (ix:=[]) rfl (WO.of rfl) rfl trivial (Dg (pv 1)) (λ_ _ _=>(Bl (i:=0) (show (["draft"]:List Str).Nodup from by ac_nf) rfl (Or.inl rfl))) (λ_ _ _=>Dq) (λ_ _ _=>(Cg Mas_cover (hr.mono (by decide)) (pv 0)))) Ag))))))),?_⟩
 obtain⟨nd',l8'⟩:=rd.names (by simp) (by simp);have good':=rd.good (λ_ z=>nomatch z);refine⟨_,rfl,_,_,_,_,_,rfl,Ow,.lst ha,Z8,_,rfl,Ep ?_⟩;refine⟨zAB _,λl nl=>?_⟩;refine Hu [some (.ref a),some (.ref l),none,none] rfl ?_;have s1:=Ap nl (.lst []);have D0:XH (A8.mk Ab Ae Ad Ah Ao Ax Ay Am) Al Ba An Aq Aw [l] (upd H l (.lst [])) l []:=⟨⟨[],Ac,.nil,by simp,by simp,by simp⟩,by simp,λe he=>by rw[zAp.mp he];exact⟨_,Ac⟩⟩;have lm:(rs.map λr=>V.str (WU.row r)).length=rs.length:=zAa _;refine⟨_,rfl,a,rfl,⟨_,WL.of (s1 _ _ ha)⟩,Vq (K:=K) (a:=a) (xs:=rs.map λr=>V.str (WU.row r)) (λi σ H2=>(∃ o1 o2,σ=[some (.ref a),some (.ref l),o1,o2])/\WJ H H2/\∃ E1 ds,(∀ e∈E1,H e=none)/\XH (A8.mk Ab Ae Ad Ah Ao Ax Ay Am) Al Ba An Aq Aw E1 H2 l ds/\ds.length<=8/\XT ds (rs.drop i) ds')
  ⟨⟨none,none,rfl⟩,s1,[l],[],λe he=>by rw[zAp.mp he];exact nl,D0,by simp,rd⟩ (λi σ H2 _ ⟨_,s2,_⟩=>WL.of (s2 _ _ ha)) ?_ ?_⟩
 .rintro i x σ H2 t hi ⟨⟨o1,o2,rfl⟩,s2,E1,ds,eE,D2,l8,rd2⟩ nt
  rw[zAx] at hi;obtain⟨r,er,rfl⟩:=zAH.mp hi;have ed:rs.drop i=r::rs.drop (i+1):=by
   rw[zBS (zAu.mp er).1]
   congr 1
   exact (zAu.mp er).2
  rw[ed] at rd2;have s3:=Ap nt (.tup [.int i,.str r.row]);refine⟨_,rfl,_,rfl,l,E1,ds,r,rs.drop (i+1),ds',rfl,D2.same s3,rd2,l8,λE2 ds2 H3 k3 e3 D3 l83 rd3=>?_⟩;refine⟨⟨_,_,rfl⟩,λb o e=>k3 b o (s3 _ _ (s2 _ _ e)) (λz=>by rw[eE b z] at e;cases e),E2,ds2,λe he=>?_,D3,l83,rd3⟩;rcases e3 e he with z|z
  .exact eE e z
  .exact s2.free (s3.free z)
 .rintro σ H2 ⟨⟨o1,o2,rfl⟩,s2,E1,ds,eE,D2,l8,rd2⟩
  rw[lm,List.drop_length] at rd2;have eds:ds=ds':=by cases rd2;rfl
  subst eds;obtain⟨⟨pcs,hl,al,_,_,_⟩,lE,all⟩:=D2;have hlen:=al.len;have lp:(pcs.map λx=>V.ref x.1).length=ds.length:=by rw[zAa,hlen]
  refine⟨_,rfl,l,rfl,⟨_,WL.of hl⟩,λm nm=>?_⟩;refine De (K:=K) (a:=l) (xs:=pcs.map λx=>V.ref x.1) (λi ys H3=>∃ cs:List Cv,ys=cs.map Vi/\H3 m=some (.lst ys)/\WJ H2 H3/\XC (λc d=>c.2.1=d.nm/\c.2.2=d.wt/\XG (A8.mk Ab Ae Ad Ah Ao Ax Ay Am) Al Ba An Aq As Bb (WK [m] H3) c.1 (Dr.lc d)) cs (ds.take i)) ⟨[],rfl,Ac,Ap nm _,.nil⟩
   (λi ys H3 _ ⟨cs,e,h1,s3,a3⟩=>⟨h1,by rw[e,zAa,a3.len,zAw];lia,WL.of (s3 _ _ hl)⟩) (by rw[lp,zCf];lia) (λi x ys H3 hi ⟨cs,e,h1,s3,a3⟩=>?_) (λys H3 ⟨cs,e,h1,s3,a3⟩=>?_)
  .rw[zAx] at hi
   obtain⟨pc,epc,rfl⟩:=zAH.mp hi;obtain⟨d,ed,⟨pE,cE⟩,da⟩:=al.get epc;have da':=da;obtain⟨dx,cv,sv,cs0,g1,_⟩:=da';have da3:XQ (A8.mk Ab Ae Ad Ah Ao Ax Ay Am) Al Ba An Aq Aw (WK E1 H2) H3 pc.1 pc.2 d:=da.same (WJ.refl _) (s3 _) (s3 _);have so:WJ (WK E1 H2) (WK [m] H3):=λb o e=>by
    obtain⟨_,e⟩:=WK.at e;exact WK.of (λz=>by rw[zAp.mp z,nm] at e;cases e) (s3 _ _ e)
   refine⟨_,rfl,pc.1,dx,_,rfl,s3 _ _ g1,rfl,pc.1,pc.2,_,[m],d,rfl,so,λe he=>by rw[zAp.mp he];exact⟨_,h1⟩,da3,good' d (zAs ed),λu H4 s4 nu co=>?_⟩;refine⟨s4 _ _ h1,rfl,cs++[(u,d.nm,d.wt)],by rw[zAf,e];rfl,Ac,λb o e=>?_,?_⟩
   .rw[Au (Ak e nm)]
    exact s4 _ _ (s3 _ _ e)
   .rw[Bv ed]
    have sm:∀ {H5:Hp} {o:HO},WJ (WK [m] H5) (WK [m] (upd H5 m o)):=λb o e=>by
     obtain⟨e0,e⟩:=WK.at e;exact WK.of e0 (by rw[Au (λz=>e0 (by rw[z];simp))];exact e)
    have s44:WJ (WK [m] H3) (WK [m] H4):=WK.mono (λb o e _=>s4 b o e) λx hx=>.inl hx;exact (a3.imp λc d ⟨k1,k2,k3⟩=>⟨k1,k2,k3.same (s44.trans sm)⟩).app (.cons ⟨rfl,rfl,co.same sm⟩ .nil)
  rw[lp,zAt] at a3;subst e;have a3':=a3.imp λc d ⟨k1,k2,k3⟩=>(⟨k1,k2,k3.same (WK.sub _ _)⟩:c.2.1=d.nm/\c.2.2=d.wt/\XG (A8.mk Ab Ae Ad Ah Ao Ax Ay Am) Al Ba An Aq As Bb H3 c.1 (Dr.lc d));have en:cs.map (·.2.1)=ds.map (·.nm):=a3'.map_eq λc d h=>h.1;have cv:XE As H3 cs:=λc hc=>by
   obtain⟨d,_,k1,k2,⟨cl,hv,dd,wh,wt,cv,cs',k3,_⟩⟩:=a3'.mem hc;obtain⟨⟨dx,fs,e1,e2,_,_,_,_,e3,_⟩,_⟩:=k3;exact⟨dx,fs,e1,by rw[k1];exact e2,by rw[k2];exact e3⟩
  intro b db nb nd ne;have s4:WJ H3 (upd (upd H3 db (.own b)) b (.ins Bd db [])):=Kj nb nd;refine⟨b,db,m,cs,rfl,Ac,s4 _ _ h1,cv.same s4,by rw[a3.len];exact l8',by rw[en];exact nd',λcl ak H5 kb bk _ _=>⟨rfl,?_⟩⟩;have s5:WJ H3 H5:=λc o e=>kb c o (s4 _ _ e) (Ak e nb);refine q b H5 ((s2.trans s3).trans s5) ⟨cl,ak,cs,bk,?_⟩;have:=a3'.imp λc d ⟨k1,k2,k3⟩=>(⟨k1,k2,k3.same s5⟩:c.2.1=(Dr.lc d).nm/\c.2.2=(Dr.lc d).wt/\XG (A8.mk Ab Ae Ad Ah Ao Ax Ay Am) Al Ba An Aq As Bb H5 c.1 (Dr.lc d));exact this.mapR
def Yq:Bc ["cover","words","house","weight"] ["cover"] (Av Lv):=by injections
def Xn {f:Addr} {fd:zCh} (F:WV K "show_share" "show_share" Lv f fd) (T:Txt K mg) (L:Kl K mg Ab Ae Ad Ah Ao Ax Ay Am Al Ba An Aq Bb As Bd Af Aw):WN P w K mg base Do 1 f fd ["cover"] (QD (A8.mk Ab Ae Ad Ah Ao Ax Ay Am) Al Ba An Aq As Bb):=by
 have sc:=Yq;bv_omega
 .obtain⟨_,_,rfl,_⟩:=h
  rfl
 obtain⟨p,d,rfl,⟨cl,hv,dd,wh,wt,cv,cs,⟨⟨dx,fs,hp,f1,f2,f3,f4,f5,f6,_⟩,_,hh,⟨⟨dxd,hd⟩,_,ht⟩⟩,_,_⟩,ok,q⟩:=h;refine⟨_,(Ai (Bn (i:=1) sc.nd rfl (Or.inl rfl) (Cb (Aa Bg Ag)))
   (Ai (El PassesOwn.never rfl (GI rfl T.n_zip (Aa (Bx (pv 0) rfl) (Aa (Bx (Bx (pv 0) rfl) rfl) Ag))) (Js (n:=2) rfl (By (Bl (i:=2) sc.nd rfl (Or.inl rfl)) (By (Bl (i:=3) sc.nd rfl (Or.inl rfl)) Fz)))
    (Aj (Bz (Dy PySem.F.plainAttrs_list PySem.F.slot_list_extend PySem.F.type_list_extend Nv (pv 1) (Aa (Cb (Aa (pv 2) (Aa (Ck Dh rfl T.n_str (show zCg _=some (.type "str") from rfl) (Aa (pv 3) Ag)) Ag))) Ag)))))
   (Aj (Bh (Ka (K:=K) rfl PySem.F.plainAttrs_str PySem.F.slot_str_join PySem.F.type_str_join (Ix (K:=K) rfl) Bg (Aa (pv 1) Ag)))))),?_⟩
 refine⟨by show 1<=sizeLine;rw[zCf];decide,λm nm=>?_⟩;refine Hu [some (.ref p),some (.ref m),none,none] rfl ?_;have s1:=Ap nm (.lst [.str (Str.ofString "share")]);refine⟨_,rfl,p,_,dx,fs,_,rfl,s1 _ _ hp,L.cl_Cover,L.na_Cover_houses,f4,_,rfl,p,_,dx,fs,_,rfl,s1 _ _ hp,L.cl_Cover,L.na_Cover_deal,f5,dd,_,dxd,_,_,rfl,s1 _ _ hd,L.cl_Deal,L.na_Deal_weights,Jz _ _,hv,wt,rfl,⟨_,WL.of (s1 _ _ hh)⟩,⟨_,WL.of (s1 _ _ ht)⟩,?_⟩;have lh:((d.hs.map (·.1)).map V.str).length=d.hs.length:=by rw[zAa,zAa]
 have lw:((d.hs.map (·.2)).map V.int).length=d.hs.length:=by rw[zAa,zAa]
 have l3:=ok.2.1;refine LQ (K:=K) (a:=hv) (b:=wt) (xs:=(d.hs.map (·.1)).map V.str) (ys:=(d.hs.map (·.2)).map V.int) (λi σ H2=>(∃ o1 o2,σ=[some (.ref p),some (.ref m),o1,o2])/\WJ H H2/\H2 m=some (.lst ((Str.ofString "share" :: N5 (d.hs.take i)).map V.str))) ⟨⟨none,none,rfl⟩,s1,Ac⟩ (λi σ H2 _ ⟨_,s2,_⟩=>⟨WL.of (s2 _ _ hh),WL.of (s2 _ _ ht)⟩) ?_ ?_
 .rintro i x y σ H2 t hx hy ⟨⟨o1,o2,rfl⟩,s2,hm⟩ nt
  rw[zAx,zAx] at hx hy;obtain⟨z,ez,rfl⟩:=zAH.mp hx;obtain⟨u,eu,rfl⟩:=zAH.mp ez;rw[eu] at hy;have ey:y=.int u.2:=by simpa using hy.symm
  subst ey;obtain⟨_,u1,u2⟩:=ok.2.2 u (zAs eu);have s3:=Ap nt (.tup [.str u.1,.int u.2]);refine⟨_,rfl,.inl ⟨rfl,_,WL.of (s3 _ _ hm)⟩,_,rfl,_,rfl,_,rfl,Eb (by lia) (by lia),by show 2<=sizeLine;rw[zCf];decide,λb nb=>?_⟩;have s4:=Ap nb (.lst [.str u.1,.str (toString u.2)]);have hm4:=s4 _ _ (s3 _ _ hm);refine⟨m,b,_,_,rfl,rfl,hm4,Ac,?_,⟨_,_,rfl⟩,λc o e=>?_,?_⟩
  .rw[zAa,zAe,Si,zAw,zCf];show _+2<=_;lia
  .rw[Au (Ak e nm)]
   exact s4 _ _ (s3 _ _ (s2 _ _ e))
  .rw[Ac,Bv eu,HJ]
   have ef:((toString u.2:String):Str)=tx (Ce u.2.toNat):=by rw[<- Fl];congr 2;lia
   show some (HO.lst (((Str.ofString "share" :: N5 (d.hs.take i)).map V.str)++[.str u.1,.str ((toString u.2:String):Str)]))=_;rw[ef,<- zAZ,zAf];rfl
 .rintro σ H2 ⟨⟨o1,o2,rfl⟩,s2,hm⟩
  rw[lh,lw,Nat.min_self,zAt] at hm;have wk:=Rz ok;refine⟨rfl,_,rfl,_,m,(WU.shr d.hs).ws,rfl,rfl,.inl (WL.of hm),wk.2.1,by lia,by ac_nf,λy hy=>by have:=(wk.1 y hy).2;lia,q _ s2⟩
end
def Og (l:List Int):(l.map V.int).all Ff=true:=by
 rw[List.all_map];exact zBG.mpr λ_ _=>rfl
theorem Qq:∀ ns ms:List Str,Uf (ns.map V.str) (ms.map V.str)=decide (ns=ms)
 |[],[]=>rfl
 |[],_::_=>rfl
 |_::_,[]=>rfl
 |n::ns,m::ms=>by
  show (Sq (.str n) (.str m)&&Uf (ns.map V.str) (ms.map V.str))=_;rw[Qq ns ms];by_cases e:n=m
  .subst e
   by_cases e2:ns=ms
   .subst e2;simp [Sq]
   .simp [Sq,e2]
  .simp [Sq,e]
theorem XZ {nm:Str}:∀ {hs:List (Str×Int)},(hs.map (·.1)=[nm]/\hs.map (·.2)=[1])↔hs=[(nm,1)]
 |[]=>by simp
 |[(a,b)]=>by simp
 |_::_::_=>by simp
def Ft (d:LC):List WU:=if Lz d.t=true then [] else [WU.when d.t]
def Ky (d:LC):List WU:=if d.hs=[(d.nm,1)] then [] else [WU.shr d.hs]
def Gg (d:LC):List WU:=if d.wt=true then [WU.wts] else []
def Tf (d:LC):(Dm d).map Br=[Br (.cov d.nm)]++(Ft d).map Br++d.cl.map (λc=>Br (.cls c))++(Ky d).map Br++(Gg d).map Br:=by
 unfold Dm Ft Ky Gg;rw[zAv,zAf,zAf,zAf,zBk,<- List.singleton_append,<- zAA,<- zAA,<- zAA];rfl
def Qn (d:LC):(Ft d).length<=1/\(Ky d).length<=1/\(Gg d).length<=1:=by
 unfold Ft Ky Gg;refine⟨?_,?_,?_⟩ <;> split <;> simp
def Iw {d:LC} (h:d.cl.length<=8):(Dm d).length<=12:=by
 have e:=congrArg List.length (Tf d);obtain⟨h1,h2,h3⟩:=Qn d;simp only [zAc,zAa,zAX] at e
 lia
section
seal L2.PS L2.PSs L2.PE L2.PA
variable {P:Program} {w:World} {K:zAb} {mg:Str->Option Value} {base:Heap} {Ab Ae Ad Ah Ao Ax Ay Am Al Ba An Aq Bb As Bd Af Aw:Addr}
def Yh:Bc ["cover","rows","condition"] ["cover"] (Av Li):=by injections
def Yi {f:Addr} {fd:zCh} (F:WV K "show_cover" "show_cover" Li f fd) (T:Txt K mg) (L:Kl K mg Ab Ae Ad Ah Ao Ax Ay Am Al Ba An Aq Bb As Bd Af Aw) (Cshow_condition:Cy P w K mg base 201 "show_condition" ["condition"] (CG (A8.mk Ab Ae Ad Ah Ao Ax Ay Am))) (Mwords:E5 P w K mg base 2 (KE Ba An Aq) "words" ["self"] (DK Al Ba An Aq)) (Cshow_share:Cy P w K mg base 1 "show_share" ["cover"] (QD (A8.mk Ab Ae Ad Ah Ao Ax Ay Am) Al Ba An Aq As Bb)) :
  WN P w K mg base Do 202 f fd ["cover"] (NU (A8.mk Ab Ae Ad Ah Ao Ax Ay Am) Al Ba An Aq As Bb):=by
 have sc:=Yh;bv_omega
 .obtain⟨_,_,rfl,_⟩:=h
  rfl
 obtain⟨p,d,rfl,co,ok,q⟩:=h;have hu:=Y8 hr;obtain⟨cl,hv,dd,wh,wt,cv,cs,⟨⟨dx,fs,hp,f1,f2,f3,f4,f5,f6,_⟩,hc,hh,⟨⟨dxd,hd⟩,_,ht⟩⟩,hcd,hcl⟩:=id co;refine⟨_,(Ai (Bn (i:=1) sc.nd rfl (Or.inl rfl) (Cb (Aa (Be Bw Bg (Bx (pv 0) rfl)) Ag)))
   (Ai (Bn (i:=2) sc.nd rfl (Or.inl rfl) (Az Cshow_condition (hr.mono (by decide)) rfl (Aa (Bx (pv 0) rfl) Ag)))
   (Ai (Bu (Bf Pf (pv 2) Bg (Bk _))
    (Aj (Bz (Dy PySem.F.plainAttrs_list PySem.F.slot_list_append PySem.F.type_list_append Cj (pv 1) (Aa (Be Bw Bg (pv 2)) Ag))))
    Bj)
   (Ai (Bz (Dy PySem.F.plainAttrs_list PySem.F.slot_list_extend PySem.F.type_list_extend Nv (pv 1) (Aa (Eh (NC:=["clause"]) (own:=["clause"]) (cs:=[]) (ix:=[]) rfl (WO.of rfl) rfl trivial (Dg (Bx (pv 0) rfl)) (λ_ _ _=>(Bl (i:=0) (show (["clause"]:List Str).Nodup from by ac_nf) rfl (Or.inl rfl))) (λ_ _ _=>Dq) (λ_ _ _=>(Ka (K:=K) rfl PySem.F.plainAttrs_str PySem.F.slot_str_join PySem.F.type_str_join (Ix (K:=K) rfl) Bg (Aa (Iv Mwords (hr.mono (by decide)) (pv 0)) Ag)))) Ag)))
   (Ai (Bu (PW.pt (Fe (Bf (Mp hu) (Bx (pv 0) rfl) (Cb (Aa (Bx (pv 0) rfl) Ag)) (Bk _)) (Et (Bf (Mp hu) (Bx (Bx (pv 0) rfl) rfl) (Cb (Aa Ar Ag)) (Bk _)))))
    (Aj (Bz (Dy PySem.F.plainAttrs_list PySem.F.slot_list_append PySem.F.type_list_append Cj (pv 1) (Aa (Az Cshow_share (hr.mono (by decide)) rfl (Aa (pv 0) Ag)) Ag))))
    Bj)
   (Ai (Bu (Dc (Bx (pv 0) rfl))
    (Aj (Bz (Dy PySem.F.plainAttrs_list PySem.F.slot_list_append PySem.F.type_list_append Cj (pv 1) (Aa Bg Ag))))
    Bj)
   (Aj (Bh (pv 1))))))))),?_⟩
 have one:1<=sizeLine:=by rw[zCf];decide
 have nl8:=Fw ok.nm.1;obtain⟨okt,l60,d6,h66⟩:=ok.t;obtain⟨sl1,sl2,sl3⟩:=Qn d;have cl8:=ok.cl.1;refine W0 λN eN=>?_;refine⟨_,rfl,p,_,dx,fs,_,rfl,hp,L.cl_Cover,L.na_Cover_name,f1,_,_,rfl,rfl,?_,one,λm nm=>?_⟩
 .have e6:(Str.ofString "cover ").length=6:=by ac_nf
  rw[e6,zCf];lia
 rw[F8];have s1:=Ap nm (.lst [Br (.cov d.nm)]);have hm1:upd H m (.lst [Br (.cov d.nm)]) m=some (.lst [Br (.cov d.nm)]):=Ac;refine AX eN [some (.ref p),some (.ref m),none] rfl λN eN=>?_;refine⟨_,rfl,p,_,dx,fs,_,rfl,s1 _ _ hp,L.cl_Cover,L.na_Cover_condition,f2,cv,d.t,rfl,WT.same s1 _ hcd,h66,okt,l60,λH2 s2=>?_⟩;have s12:=s1.trans s2;have hm2:=s2 _ _ hm1;refine AX eN [some (.ref p),some (.ref m),some (.str (Str.join (Str.ofString " ") (Bo Bi d.t)))] rfl λN eN=>?_;have fin:∀ H',WJ H H'->H' m=some (.lst ([Br (.cov d.nm)]++(Ft d).map Br))->N [some (.ref p),some (.ref m),some (.str (Str.join (Str.ofString " ") (Bo Bi d.t)))] H':=by
  clear hm2 s12 s2 hm1 s1;intro H2 s2 hm2;refine A3 eN λN eN=>?_;refine⟨_,rfl,.inl ⟨rfl,_,WL.of hm2⟩,_,rfl,p,_,dx,fs,_,rfl,s2 _ _ hp,L.cl_Cover,L.na_Cover_clauses,f3,cl,rfl,⟨_,WL.of (s2 _ _ hc)⟩,λb nb=>?_⟩;refine De (K:=K) (a:=cl) (xs:=cs) (λi ys H3=>ys=(d.cl.take i).map (λc=>Br (.cls c))/\H3 b=some (.lst ys)/\WJ H2 H3) ⟨rfl,Ac,Ap nb _⟩
   (λi ys H3 _ ⟨e,h1,s3⟩=>⟨h1,by rw[e,zAa,zAw];lia,WL.of (s3 _ _ (s2 _ _ hc))⟩) (by rw[hcl.len,zCf];lia) (λi x ys H3 hi ⟨e,h1,s3⟩=>?_) (λys H3 ⟨e,hb3,s3⟩=>?_)
  .obtain⟨c,ec,pu,rfl,⟨dc,hpu⟩⟩:=hcl.get hi
   have okc:=ok.cl.2 c (zAs ec);have hpu3:=s3 _ _ (s2 _ _ hpu);refine⟨rfl,_,rfl,pu,_,dc,Jm c,rfl,hpu3,AY okc,MM c,pu,c,rfl,⟨dc,hpu3⟩,rfl,CP okc,λl H4 s4 nl hl=>?_⟩;rw[IX] at hl;have wk:=Rz (r:=.cls c) okc;have w1:1<=(V9 c).length:=wk.2.1;have w2:=L5 c;refine⟨_,l,V9 c,rfl,rfl,.inl (WL.of hl),w1,by lia,by ac_nf,λy hy=>by have:=(wk.1 y hy).2;lia,s4 _ _ h1,rfl,?_,Ac,λb' o z=>?_⟩
   .rw[Bv ec,zAf,e]
    rfl
   .rw[Au (Ak z nb)]
    exact s4 _ _ (s3 _ _ z)
  rw[hcl.len,zAt] at e;subst e;have hm3:=s3 _ _ hm2;refine⟨m,b,_,_,rfl,rfl,hm3,hb3,?_,?_⟩
  .rw[zAc,zAa,zAa,zCf];show 1+_+_<=_;lia
  have s4:WJ H (upd H3 m (.lst ([Br (.cov d.nm)]++(Ft d).map Br++d.cl.map (λc=>Br (.cls c))))):=λc o e=>by rw[Au (Ak e nm)];exact s3 _ _ (s2 _ _ e)
  have hm4:upd H3 m (.lst ([Br (.cov d.nm)]++(Ft d).map Br++d.cl.map (λc=>Br (.cls c)))) m=some (.lst ([Br (.cov d.nm)]++(Ft d).map Br++d.cl.map (λc=>Br (.cls c)))):=Ac;generalize upd H3 m (.lst ([Br (.cov d.nm)]++(Ft d).map Br++d.cl.map (λc=>Br (.cls c))))=H4 at s4 hm4;clear hb3 hm3 s3 nb hm2 s2;refine A3 eN λN eN=>?_;have fin:∀ H',WJ H H'->H' m=some (.lst ([Br (.cov d.nm)]++(Ft d).map Br++d.cl.map (λc=>Br (.cls c))++(Ky d).map Br))->N [some (.ref p),some (.ref m),some (.str (Str.join (Str.ofString " ") (Bo Bi d.t)))] H':=by
   clear hm4 s4;intro H5 s5 hm5;refine A3 eN λN eN=>?_;have fin:∀ H',WJ H H'->H' m=some (.lst ([Br (.cov d.nm)]++(Ft d).map Br++d.cl.map (λc=>Br (.cls c))++(Ky d).map Br++(Gg d).map Br))->N [some (.ref p),some (.ref m),some (.str (Str.join (Str.ofString " ") (Bo Bi d.t)))] H':=by
    intro H6 s6 hm6;subst eN;rw[<- Tf] at hm6;exact⟨_,rfl,q m H6 s6 nm hm6⟩
   refine⟨_,rfl,p,_,dx,fs,_,rfl,s5 _ _ hp,L.cl_Cover,L.na_Cover_waits,f6,_,rfl,?_⟩;cases ew:d.wt with
   |false=>
    refine Ep (fin H5 s5 ?_);rw[hm5];unfold Gg;rw[ew];simp
   |true=>
    refine Kt ⟨_,rfl,.inl ⟨rfl,_,WL.of hm5⟩,m,_,_,rfl,rfl,hm5,?_,fin _ (λc o e=>by rw[Au (Ak e nm)];exact s5 _ _ e) ?_⟩
    .rw[zAc,zAc,zAc,zAa,zAa,zAa,zCf];show 1+_+_+_<_;lia
    .rw[Ac];unfold Gg;rw[ew];rfl
  have app:∀ H',WJ H H'->H' m=some (.lst ([Br (.cov d.nm)]++(Ft d).map Br++d.cl.map (λc=>Br (.cls c))))->¬ d.hs=[(d.nm,1)]->∀ H6,WJ H' H6->N [some (.ref p),some (.ref m),some (.str (Str.join (Str.ofString " ") (Bo Bi d.t)))] (upd H6 m (.lst ([Br (.cov d.nm)]++(Ft d).map Br++d.cl.map (λc=>Br (.cls c))++[Br (.shr d.hs)]))):=λH' s' hm' ne H6 s6=>by
   refine fin _ (λc o e=>by rw[Au (Ak e nm)];exact s6 _ _ (s' _ _ e)) ?_;rw[Ac];unfold Ky;rw[if_neg ne];rfl
  have lsz:([Br (.cov d.nm)]++(Ft d).map Br++d.cl.map (λc=>Br (.cls c))).length<sizeLine:=by
   rw[zAc,zAc,zAa,zAa,zCf];show 1+_+_<_;lia
  refine⟨_,rfl,p,_,dx,fs,_,rfl,s4 _ _ hp,L.cl_Cover,L.na_Cover_houses,f4,_,rfl,p,_,dx,fs,_,rfl,s4 _ _ hp,L.cl_Cover,L.na_Cover_name,f1,one,λb1 n1=>?_⟩;have t1:=Ap n1 (.lst [.str d.nm]);have hb1:upd H4 b1 (.lst [.str d.nm]) b1=some (.lst ([d.nm].map V.str)):=Ac;have s5:=s4.trans t1;have hm5:=t1 _ _ hm4;generalize upd H4 b1 (.lst [.str d.nm])=H5 at t1 hb1 s5 hm5;refine⟨hv,b1,_,_,rfl,rfl,WL.of (s5 _ _ hh),WL.of hb1,Fm _,Fm _,_,rfl,?_⟩;show if (!Uf ((d.hs.map (·.1)).map V.str) ([d.nm].map V.str))=true then _ else _;rw[Qq];by_cases c1:d.hs.map (·.1)=[d.nm]
  .refine nF c1 ?_
   refine⟨_,rfl,p,_,dx,fs,_,rfl,s5 _ _ hp,L.cl_Cover,L.na_Cover_deal,f5,dd,_,dxd,_,_,rfl,s5 _ _ hd,L.cl_Deal,L.na_Deal_weights,Jz _ _,one,λb2 n2=>?_⟩;have t2:=Ap n2 (.lst [.int 1]);have hb2:upd H5 b2 (.lst [.int 1]) b2=some (.lst (([1]:List Int).map V.int)):=Ac;have s6:=s5.trans t2;have hm6:=t2 _ _ hm5;generalize upd H5 b2 (.lst [.int 1])=H6 at t2 hb2 s6 hm6;refine⟨wt,b2,_,_,rfl,rfl,WL.of (s6 _ _ ht),WL.of hb2,Og _,Og _,_,rfl,?_⟩;show if (!Uf ((d.hs.map (·.2)).map V.int) (([1]:List Int).map V.int))=true then _ else _;rw[M6];by_cases c2:d.hs.map (·.2)=[1]
   .refine nF c2 (fin _ s6 ?_)
    rw[hm6];unfold Ky;rw[if_pos (XZ.mp ⟨c1,c2⟩)];simp
   .refine nT c2 ?_
    have ne:¬ d.hs=[(d.nm,1)]:=λz=>c2 (XZ.mpr z).2;refine⟨_,rfl,.inl ⟨rfl,_,WL.of hm6⟩,_,rfl,p,d,rfl,co.same s6,ok.hs,λH7 s7=>⟨m,_,_,rfl,rfl,s7 _ _ hm6,lsz,app H6 s6 hm6 ne H7 s7⟩⟩
  .refine nT c1 (Kt ?_)
   have ne:¬ d.hs=[(d.nm,1)]:=λz=>c1 (XZ.mpr z).1;refine⟨_,rfl,.inl ⟨rfl,_,WL.of hm5⟩,_,rfl,p,d,rfl,co.same s5,ok.hs,λH7 s7=>⟨m,_,_,rfl,rfl,s7 _ _ hm5,lsz,app H5 s5 hm5 ne H7 s7⟩⟩
 refine⟨_,rfl,rfl,_,rfl,?_⟩;have ta:=GC okt;by_cases c:V.str (Str.join (Str.ofString " ") (Bo Bi d.t))=V.str (Str.ofString "always")
 .refine nF c (fin H2 s12 ?_)
  rw[hm2];unfold Ft;rw[if_pos (ta.mp (V.str.inj c))];rfl
 .refine nT c ?_
  have na:¬ Lz d.t=true:=λz=>c (congrArg V.str (ta.mpr z));refine⟨_,rfl,.inl ⟨rfl,_,WL.of hm2⟩,_,rfl,_,_,rfl,rfl,?_,?_⟩
  .have:=OD ok.t
   have e5:(Str.ofString "when ").length=5:=by ac_nf
   have jl:=Iu (z:=Str.ofString " ") (B:=100) (ps:=Bo Bi d.t) λy hy=>(Lx okt y hy).2;have e1:(Str.ofString " ").length=1:=by ac_nf
   rw[e1] at jl;have jl2:(Bo Bi d.t).length*(100+1)<=60*(100+1):=zBt _ l60;rw[e5,zCf];lia
  rw[Se okt];refine⟨m,_,_,rfl,rfl,hm2,by show 1<sizeLine;rw[zCf];decide,fin _ (λc o e=>by rw[Au (Ak e nm)];exact s12 _ _ e) ?_⟩;rw[Ac];unfold Ft;rw[if_neg na];rfl
def G9:Bc ["book","rows","cover"] ["book"] (Av Mh):=by injections
def F7 {f:Addr} {fd:zCh} (F:WV K "show_book" "show_book" Mh f fd) (T:Txt K mg) (L:Kl K mg Ab Ae Ad Ah Ao Ax Ay Am Al Ba An Aq Bb As Bd Af Aw) (Cshow_cover:Cy P w K mg base 202 "show_cover" ["cover"] (NU (A8.mk Ab Ae Ad Ah Ao Ax Ay Am) Al Ba An Aq As Bb)):WN P w K mg base Do 203 f fd ["book"] (OY (A8.mk Ab Ae Ad Ah Ao Ax Ay Am) Al Ba An Aq As Bb Bd):=by
 have sc:=G9;bv_omega
 .obtain⟨_,_,rfl,_⟩:=h
  rfl
 obtain⟨b,ls,rfl,⟨cl,ak,cs,⟨⟨dx,fs,hb,f1,f2,_⟩,hc,_⟩,al⟩,l8,ok,q⟩:=h;refine⟨_,(Ai (Bn (i:=1) sc.nd rfl (Or.inl rfl) (Cb Ag))
   (Ai (El PassesOwn.never rfl (Dg (Bx (pv 0) rfl)) (Bl (i:=2) sc.nd rfl (Or.inl rfl))
    (Aj (Bz (Dy PySem.F.plainAttrs_list PySem.F.slot_list_extend PySem.F.type_list_extend Nv (pv 1) (Aa (Az Cshow_cover (hr.mono (by decide)) rfl (Aa (pv 2) Ag)) Ag)))))
   (Aj (Bh (pv 1))))),?_⟩
 refine⟨zAB _,λm nm=>?_⟩;refine Hu [some (.ref b),some (.ref m),none] rfl ?_;have s1:=Ap nm (.lst []);have lm:(cs.map Vi).length=ls.length:=by rw[zAa,al.len]
 refine⟨_,rfl,b,_,dx,fs,_,rfl,s1 _ _ hb,L.cl_Book,L.na_Book_covers,f1,cl,rfl,⟨_,WL.of (s1 _ _ hc)⟩,?_⟩;refine Nd (K:=K) (a:=cl) (xs:=cs.map Vi) (λi σ H2=>(∃ o,σ=[some (.ref b),some (.ref m),o])/\WJ H H2/\H2 m=some (.lst (((ls.take i).flatMap Dm).map Br))) ⟨⟨none,rfl⟩,s1,Ac⟩ (λi σ H2 _ ⟨_,s2,_⟩=>WL.of (s2 _ _ hc)) ?_ ?_
 .rintro i x σ H2 hi ⟨⟨o,rfl⟩,s2,hm⟩
  rw[zAx] at hi;obtain⟨c,ec,rfl⟩:=zAH.mp hi;obtain⟨d,ed,_,_,co⟩:=al.get ec;refine⟨_,rfl,.inl ⟨rfl,_,WL.of hm⟩,_,rfl,c.1,d,rfl,co.same s2,ok d (zAs ed),λl H3 s3 nl hl=>?_⟩;have bnd:((ls.take i).flatMap Dm).length<=12*i:=by
   have:∀ l:List LC,(∀ d∈l,d.cl.length<=8)->(l.flatMap Dm).length<=12*l.length:=λl=>by
    induction l with
    |nil=>intro _;simp
    |cons a l ih=>
     intro h;have h1:=Iw (h a (by simp));have h2:=ih λd hd=>h d (by simp [hd]);rw[zBX,zAc,zAe]
     lia
   have h:=this (ls.take i) λd hd=>(ok d (List.mem_of_mem_take hd)).cl.1;have:(ls.take i).length<=i:=List.length_take_le _ _
   lia
  have il:i<ls.length:=(zAu.mp ed).1;have cb:=Iw (ok d (zAs ed)).cl.1;refine⟨m,l,_,_,rfl,rfl,s3 _ _ hm,hl,?_,⟨_,rfl⟩,λc o e=>?_,?_⟩
  .rw[zAa,zAa,zCf];lia
  .rw[Au (Ak e nm)]
   exact s3 _ _ (s2 _ _ e)
  .rw[Ac,Bv ed,List.flatMap_append,zAf]
   simp
 .rintro σ H2 ⟨⟨o,rfl⟩,s2,hm⟩
  rw[lm,zAt] at hm;exact⟨_,rfl,q m H2 s2 nm hm⟩
end
inductive AH (K:zAb) (vs:List V) (H:Hp) (Q:VK):Prop
 |mk (a:_) (ns:_) (k:Int) (z0:vs=[.ref a,.int k]) (z1:WL K H a (List.map V.int ns)) (z2:0<=k) (z3:ns.length<=63) (z4:Q (.int (ns.getD k.toNat 0)) H):AH K vs H Q
def Te (K:zAb):Sp:=λvs H Q _=>AH K vs H Q
section
variable {P:Program} {w:World} {K:zAb} {mg:Str->Option Value} {base:Heap}
def C1:Bc ["_law_script","_law_k"] ["_law_script","_law_k"] (Av Nc):=by injections
def M5 {f:Addr} {fd:zCh} (F:WV K "_law_cell" "_law_cell" Nc f fd) (T:Txt K mg):WN P w K mg base Do 1 f fd ["_law_script","_law_k"] (Te K):=by
 have sc:=C1;bv_omega
 .obtain⟨_,_,_,rfl,_⟩:=h
  rfl
 obtain⟨a,ns,k,rfl,ha,h0,h63,q⟩:=h;refine⟨_,(Ai (Bu (Bf Mb (pv 1) (Bq Bp rfl T.n_len (show zCg _=some (.builtin "len") from rfl) (Aa (pv 0) Ag)) (Bk _))
    (Aj (Bh (Cc Bt (pv 0) (pv 1) (λ_ _=>rfl))))
    Bj)
   (Aj (Bh Ar))),?_⟩
 have hl:(List.map V.int ns).length=ns.length:=zAa _;refine (vE rfl (vE rfl ⟨a,_,rfl,.inl ha,vF rfl rfl (vE rfl ?_)⟩));rw[hl];refine DX (λc=>?_) (λc=>?_)
 .have c':k<(ns.length:Int):=of_decide_eq_true c
  exact (vE rfl (vE rfl ⟨a,_,_,_,rfl,rfl,ha,Jp h0 c',q⟩))
 .have c':¬ k<(ns.length:Int):=of_decide_eq_false (Bool.eq_false_iff.mpr c)
  have e:ns.getD k.toNat 0=0:=by
   rw[zAT,List.getElem?_eq_none (by lia)];rfl
  rw[e] at q;exact q
end
def JW (i:Int):Nat:=97+(i%26).toNat
def Wg (i:Int):Hk (JW i):=by
 unfold Hk JW;have h0:0<=i%26:=Int.emod_nonneg _ (by decide);have h1:i%26<26:=Int.emod_lt_of_pos _ (by decide)
 lia
def EY (i:Int):Nx (Str.ofString "abcdefghijklmnopqrstuvwxyz").cps.toList (i%26)=some (JW i):=by
 have e:(Str.ofString "abcdefghijklmnopqrstuvwxyz").cps.toList=(zAO 26).map (97 + ·):=by ac_nf
 have h0:0<=i%26:=Int.emod_nonneg _ (by decide);have h1:i%26<26:=Int.emod_lt_of_pos _ (by decide);obtain⟨k,ek⟩:=Int.eq_ofNat_of_zero_le h0;rw[e];unfold JW;rw[ek];refine Fd ?_;rw[zAx,List.getElem?_range (by lia)];rfl
def CH:(Str.ofString "abcdefghijklmnopqrstuvwxyz").length<=sizeLine:=by
 have e:(Str.ofString "abcdefghijklmnopqrstuvwxyz").length=26:=by ac_nf
 rw[e];exact Gv (by decide)
def Xa {i:Nat} {v:Int} {nx:St->Hp->Prop} {σ:St} {H:Hp} (lo hi:Int) (h0:lo<=v/\v<=hi) (h:∀ x:Int,lo<=x->x<=hi->He i (.int x) σ H nx):He i (.int v) σ H nx:=h v h0.1 h0.2
def md {a b:Int} (h:0<b):0<=a%b/\a%b<=b-1:=⟨Int.emod_nonneg _ (by lia),by have:=Int.emod_lt_of_pos a h;lia⟩
def GG:List Nat:=[115,101,108,102]
def BV:Str.ofString "self"=tx GG:=by ac_nf
def UG:Str.ofString "q"=tx [113]:=by ac_nf
def FX {l m:List Nat} (h:tx l=tx m):l=m:=by
 have:=congrArg (λz=>z.cps.toList) h
 simpa [tx] using this
structure EU (ns:List Str):Prop where
 hi:ns.length<=8
 nd:ns.Nodup
 ok:∀ z∈ns,Ew (.str z)=true/\z.length<=8/\z ≠ "self"
 ac:∀ z∈ns,z ≠ "acme"
def CV:List Nat:=[97,99,109,101]
def MF:Str.ofString "acme"=tx CV:=by ac_nf
def FE (g:Nat->List Nat) {k:Nat} (k8:k<=8) (nm:∀ i,i<k->Re (g i)) (ns:∀ i,i<k->g i≠GG) (na:∀ i,i<k->g i≠CV) (inj:∀ i j,i<k->j<k->g i=g j->i=j):EU ((zAO k).map λi=>tx (g i)):=by
 refine⟨by rw[zAa,zAW];exact k8,?_,λz hz=>?_,λz hz h=>?_⟩
 .rw[List.nodup_iff_pairwise_ne,List.pairwise_map]
  refine List.Pairwise.imp_of_mem (R:=λa b=>a≠b) (λ{i j} hi hj n e=>n ?_) (List.nodup_iff_pairwise_ne.mp List.nodup_range);exact inj i j (zBg.mp hi) (zBg.mp hj) (FX e)
 .obtain⟨i,hi,rfl⟩:=zAz.mp hz
  have hi':=zBg.mp hi;have n:=nm i hi';refine⟨decide_eq_true n,by rw[Ci];exact n.1.2,λh=>?_⟩;have h':tx (g i)=Str.ofString "self":=h;rw[BV] at h';exact ns i hi' (FX h')
 .obtain⟨i,hi,rfl⟩:=zAz.mp hz
  have h':tx (g i)=Str.ofString "acme":=h;rw[MF] at h';exact na i (zBg.mp hi) (FX h')
def V2 (c k:Nat):List Nat:=zAC (k+1) c
def IK (c m:Nat):(zAC m [c]).flatten=zAC m c:=by
 induction m with
 |zero=>rfl
 |succ m ih=>rw[zBw,zBv,ih,zBw];rfl
def BJ {c k:Nat} (hc:Hk c) (k8:k<=8):EU ((zAO k).map λi=>tx (V2 c i)):=by
 refine FE (V2 c) k8 (λi hi=>⟨by unfold V2;rw[zAS];lia,λd hd=>?_⟩) (λi hi z=>?_) (λi hi z=>?_) (λi j hi hj e=>?_)
 .rw[zBu hd]
  exact hc
 .unfold V2 at z
  have h1:(115:Nat)∈zAC (i+1) c:=by rw[z];decide
  have h2:(101:Nat)∈zAC (i+1) c:=by rw[z];decide
  have e1:=zBu h1;have e2:=zBu h2
  lia
 .unfold V2 at z
  have h1:(97:Nat)∈zAC (i+1) c:=by rw[z];decide
  have h2:(99:Nat)∈zAC (i+1) c:=by rw[z];decide
  have e1:=zBu h1;have e2:=zBu h2
  lia
 .have:=congrArg List.length e
  unfold V2 at this;rw[zAS,zAS] at this
  lia
def ER (m:Int) (a k j:Nat):Nat:=JW (m+(j:Int)*j+(k:Int)*(if j=a then 1 else 0))
def ET (m:Int) (a n k:Nat):List Nat:=(zAO n).map (ER m a k)
def BE (m:Int) (a n k:Nat):(ET m a n k).length=n:=by unfold ET;rw[zAa,zAW]
def GL {m:Int} {a n i:Nat} (ha:a<n):ET m a n i≠CV:=λe=>by
 have hn:n=4:=by rw[<- BE m a n i,e];rfl
 subst hn;have at':∀ j,j<4->some (ER m a i j)=CV[j]?:=λj hj=>by
  have:=congrArg (λl=>l[j]?) e;unfold ET at this
  simpa only [zAx,List.getElem?_range hj,Option.map_some] using this
 have e0:ER m a i 0=97:=Option.some.inj (at' 0 (by decide));have e1:ER m a i 1=99:=Option.some.inj (at' 1 (by decide));have e2:ER m a i 2=109:=Option.some.inj (at' 2 (by decide));have e3:ER m a i 3=101:=Option.some.inj (at' 3 (by decide));unfold ER JW at e0 e1 e2 e3;have h4:a=0\/a=1\/a=2\/a=3:=by lia
 rcases h4 with rfl|rfl|rfl|rfl <;> simp at e0 e1 e2 e3 <;> lia
def LD {m:Int} {a n k:Nat} (ha:a<n) (n8:n<=8) (k8:k<=8) (h:∀ i,i<k->ET m a n i≠GG):EU ((zAO k).map λi=>tx (ET m a n i)):=by
 refine FE (ET m a n) k8 (λi hi=>⟨by rw[BE];lia,λc hc=>?_⟩) h (λi hi=>GL ha) (λi j hi hj e=>?_)
 .unfold ET at hc
  obtain⟨j,_,rfl⟩:=zAz.mp hc;exact Wg _
 .have e:=congrArg (λl=>l[a]?) e
  unfold ET at e;simp only [zAx,List.getElem?_range ha,Option.map_some,Option.some.injEq] at e;unfold ER JW at e;simp only [if_true] at e;generalize m+(a:Int)*a=v at e;have a0:0<=(v+(i:Int)*1)%26:=Int.emod_nonneg _ (by decide);have b0:0<=(v+(j:Int)*1)%26:=Int.emod_nonneg _ (by decide)
  lia
def YC {z:Str} {l:List Str}:JX (.str z) (l.map V.str)=true↔z∈l:=by
 unfold JX;rw[List.any_map,List.any_eq_true];constructor
 .rintro ⟨y,hy,e⟩
  have e':Sq (.str y) (.str z)=true:=e;have:y=z:=by simpa [Sq] using e'
  rw[<- this];exact hy
 .intro h
  exact⟨z,h,by show Sq (.str z) (.str z)=true;simp [Sq]⟩
inductive Q6  (vs:List V) (H:Hp) (Q:VK):Prop
 |mk (c k:Int) (z0:vs=[.int c,.int k]) (z1:0<=c) (z2:0<=k) (z3:k<=8) (z4:∀ r ns H',WJ H H'->H r=none->H' r=some (.lst (ns.map V.str))->EU ns->(ns.length:Int)=k->Q (.ref r) H'):Q6  vs H Q
def J2:Sp:=λvs H Q _=>Q6  vs H Q
section
seal L2.PS L2.PSs L2.PE L2.PA
variable {P:Program} {w:World} {K:zAb} {mg:Str->Option Value} {base:Heap}
def Xq:Bc ["_law_cell_here","_law_many","_law_letters","_law_size","_law_at","_law_first","_law_names_here","_law_k","_law_name","_law_j"] ["_law_cell_here","_law_many"] (Av Lm):=by injections
def Ym {f:Addr} {fd:zCh} (F:WV K "_law_names" "_law_names" Lm f fd) (T:Txt K mg):WN P w K mg base Do 1 f fd ["_law_cell_here","_law_many"] J2:=by
 have sc:=Xq;bv_omega
 .obtain⟨_,_,rfl,_⟩:=h
  rfl
 obtain⟨c,k,rfl,c0,k1,k8,q⟩:=h;refine⟨_,(Ai (Bn (i:=2) sc.nd rfl (Or.inr rfl) Bg)
   (Ai (Bn (i:=3) sc.nd rfl (Or.inl rfl) (Be Da Ar (Be Cn (pv 0) Ar)))
   (Ai (Bn (i:=4) sc.nd rfl (Or.inl rfl) (Be Cn (Be Cm (pv 0) Ar) (pv 3)))
   (Ai (Bn (i:=5) sc.nd rfl (Or.inr rfl) (Be Cm (pv 0) Ar))
   (Ai (Bu (Bf Db (Be Cn (Be Cm (pv 0) Ar) Ar) Ar (Bk _))
    (Aj (Bh (Eh (NC:=["_law_k","_law_letters","_law_first"]) (own:=["_law_k"]) (cs:=["_law_letters","_law_first"]) (ix:=[2,5]) rfl (WO.of rfl) rfl ⟨⟨rfl,.inl rfl,rfl⟩,⟨⟨rfl,.inl rfl,rfl⟩,trivial⟩⟩ (Ea rfl T.n_range (Aa (pv 1) Ag)) (λ_ _ _=>(Bl (i:=0) (show (["_law_k","_law_letters","_law_first"]:List Str).Nodup from by ac_nf) rfl (Or.inl rfl))) (λ_ _ _=>Dq) (λ_ _ _=>(Be Vu (Cc W6 (pv 1) (Be Cn (pv 2) Ar) (λ_ _=>rfl)) (Be Da (pv 0) Ar))))))
    Bj)
   (Ai (Bn (i:=6) sc.nd rfl (Or.inl rfl) (Cb Ag))
   (Ai (El PassesOwn.never rfl (Ea rfl T.n_range (Aa (pv 1) Ag)) (Bl (i:=7) sc.nd rfl (Or.inl rfl))
    (Ai (Bn (i:=8) sc.nd rfl (Or.inl rfl) Bg)
   (Ai (El PassesOwn.never rfl (Ea rfl T.n_range (Aa (pv 3) Ag)) (Bl (i:=9) sc.nd rfl (Or.inl rfl))
    (Aj (Bn (i:=8) sc.nd rfl (Or.inl rfl) (Be Bw (pv 8) (Cc W6 (pv 2) (Be Cn (Be Da (Be Da (pv 5) (Be Ho (pv 9) (pv 9))) (Be Ho (pv 7) (Ck EE rfl T.n_int (show zCg _=some (.type "int") from rfl) (Aa (Ku Db (pv 9) (pv 4) (Bk _)) Ag)))) Ar) (λ_ _=>rfl))))))
   (Aj (Bz (Dy PySem.F.plainAttrs_list PySem.F.slot_list_append PySem.F.type_list_append Cj (pv 6) (Aa (pv 8) Ag)))))))
   (Ai (Bu (Bf Tk Bg (pv 6) rfl)
    (Aj (Bh (Eh (NC:=["_law_k"]) (own:=["_law_k"]) (cs:=[]) (ix:=[]) rfl (WO.of rfl) rfl trivial (Ea rfl T.n_range (Aa (pv 1) Ag)) (λ_ _ _=>(Bl (i:=0) (show (["_law_k"]:List Str).Nodup from by ac_nf) rfl (Or.inl rfl))) (λ_ _ _=>Dq) (λ_ _ _=>(Be Vu Bg (Be Da (pv 0) Ar))))))
    Bj)
   (Aj (Bh (pv 6))))))))))),?_⟩
 refine W0 λN eN=>?_;have m0:0<=c%8:=Int.emod_nonneg _ (by decide);have m8:c%8<8:=Int.emod_lt_of_pos _ (by decide);subst eN;refine (vE rfl (vF rfl rfl ⟨(by show (0:Int)<8;decide),_,_,rfl,rfl,?_⟩));refine Xa 1 8 ⟨by lia,by lia⟩ λsz z1 z8=>?_;obtain⟨n,rfl⟩:=Int.eq_ofNat_of_zero_le (show 0<=sz by lia);refine (vE rfl (vF rfl rfl ⟨⟨by decide,by decide⟩,_,rfl,vF rfl rfl ⟨(by show (0:Int)<(n:Int);lia),?_⟩⟩));refine Xa 0 ((n:Int)-1) (md (by lia)) λat' at0 at1=>?_;obtain⟨a,rfl⟩:=Int.eq_ofNat_of_zero_le at0;have ha:a<n:=by lia
 refine (vE rfl (vF rfl rfl ⟨⟨by decide,by decide⟩,?_⟩));refine Hu [some (.int c),some (.int k),some (.str "abcdefghijklmnopqrstuvwxyz"),some (.int n),some (.int a),some (.int (c/320)),none,none,none,none] rfl ?_;refine W0 λN eN=>?_;generalize c/320=m;refine A3 eN λN eN=>?_;refine (vE rfl (vF rfl rfl ⟨⟨by decide,by decide⟩,_,_,rfl,rfl,(by show (0:Int)<5;decide),rfl,vE rfl ?_⟩));by_cases c5:c/64%5=1
 ·
  refine dT (congrArg V.int c5) (vE rfl (vE rfl ⟨by lia,by lia,λr nr=>?_⟩));refine Qi (lo:=0) (n:=k.toNat) (λi ys H2=>ys=((zAO i).map λi=>tx (V2 (JW m) i)).map V.str/\H2 r=some (.lst ys)/\WJ H H2) ⟨rfl,Ac,Ap nr _⟩
   (λi ys H2 _ ⟨e,h1,_⟩=>⟨h1,by rw[e,zAa,zAa,zAW];exact zAn _⟩) (by rw[zCf];lia) (λi ys H2 hi ⟨e,h1,s1⟩=>?_) (λys H2 ⟨e,h1,s1⟩=>?_)
  .refine (vE rfl (vE rfl (vF rfl rfl ⟨(by show (0:Int)<26;decide),_,_,_,rfl,rfl,CH,EY _,_,rfl,vF rfl rfl ⟨[JW m],_,rfl,rfl,by lia,by lia,(show 1<=1000 from by decide),h1,rfl,?_,Ac,λx o z=>?_⟩⟩)))
   .rw[e,IK,show (0+(i:Int)+1).toNat=i+1 by lia,zBR,zAf,zAf]
    rfl
   .rw[Au (Ak z nr)]
    exact s1 x o z
  subst e;exact q r _ H2 s1 nr h1 (BJ (Wg m) (by lia)) (by rw[zAa,zAW];lia)
 refine dF (λz=>c5 (V.int.inj z)) ?_;refine A3 eN λN eN=>?_;refine⟨zAB _,λr nr=>?_⟩;refine A3 eN λN eN=>?_;have s1:=Ap nr (.lst []);refine (vE rfl (vE rfl ⟨by lia,by lia,?_⟩));refine Ey (lo:=0) (n:=k.toNat)
  (λi σ H3=>(∃ o7 o8 o9:Option V,σ=[some (.int c),some (.int k),some (.str "abcdefghijklmnopqrstuvwxyz"),some (.int n),some (.int a),some (.int m),some (.ref r),o7,o8,o9])/\H3 r=some (.lst (((zAO i).map λi=>tx (ET m a n i)).map V.str))/\WJ H H3)
  ⟨⟨none,none,none,rfl⟩,Ac,s1⟩ ?_ ?_
 .rintro i σ H3 hi ⟨⟨o7,o8,o9,rfl⟩,h3,s3⟩
  have i8:i<8:=by lia
  rw[show (0+(i:Int))=(i:Int) by lia];refine (vE rfl (vE rfl ⟨by lia,by lia,?_⟩));refine Ey (lo:=0) (n:=(n:Int).toNat) (λj σ H4=>(∃ o9,σ=[some (.int c),some (.int k),some (.str "abcdefghijklmnopqrstuvwxyz"),some (.int n),some (.int a),some (.int m),some (.ref r),some (.int i),some (.str (tx ((zAO j).map (ER m a i)))),o9])/\H4=H3) ⟨⟨o9,rfl⟩,rfl⟩ ?_ ?_
  .rintro j σ H4 hj ⟨⟨o9',rfl⟩,rfl⟩
   have hj':j<n:=by lia
   rw[show (0+(j:Int))=(j:Int) by lia];refine (vE rfl (vE rfl (vE rfl (vE rfl (vE rfl (vF rfl rfl ⟨.inl ⟨by lia,by lia⟩,vF rfl rfl (vE rfl (vE rfl (vE rfl ⟨rfl,.inr (vE rfl (vF rfl rfl ⟨.inl ⟨by lia,by lia⟩,vF rfl rfl (vF rfl rfl ⟨(by show (0:Int)<26;decide),_,_,_,rfl,rfl,CH,EY _,_,_,rfl,rfl,?_,⟨some (.int j),?_⟩,rfl⟩)⟩))⟩)))⟩))))))
   .rw[Ci,zAa,zAW,zCf]
    show j+1<=_
    lia
   .have e1:(if decide (V.int (j:Int)=V.int (a:Int))=true then (1:Int) else 0)=if j=a then 1 else 0:=by
     by_cases z:j=a
     .rw[if_pos z,if_pos (decide_eq_true (by rw[z]))]
     .rw[if_neg z,if_neg (λy=>z (by have:=V.int.inj (of_decide_eq_true y);lia))]
    have e2:tx ((zAO j).map (ER m a i))++(⟨#[JW (m+(j:Int)*j+(i:Int)*(if decide (V.int (j:Int)=V.int (a:Int))=true then (1:Int) else 0))]⟩:Str)=tx ((zAO (j+1)).map (ER m a i)):=by
     rw[e1,zBR,zAf];exact Fc _ [_]
    exact congrArg (λz=>[some (V.int c),some (V.int k),some (V.str "abcdefghijklmnopqrstuvwxyz"),some (V.int n),some (V.int a),some (V.int m),some (V.ref r),some (V.int i),some (V.str z),some (V.int j)]) e2
  .rintro σ H4 ⟨⟨o9',rfl⟩,rfl⟩
   have el:(zAO (n:Int).toNat).map (ER m a i)=ET m a n i:=by rw[Int.toNat_natCast];rfl
   rw[el];refine (vE rfl ⟨.inl ⟨rfl,_,WL.of h3⟩,vE rfl ⟨r,_,_,rfl,rfl,h3,?_,⟨⟨_,_,_,rfl⟩,?_,λx o z=>?_⟩⟩⟩)
   .rw[zAa,zAa,zAW,zCf]
    lia
   .rw[Ac,zBR,zAf,zAf]
    rfl
   .rw[Au (Ak z nr)]
    exact s3 x o z
 .rintro σ H3 ⟨⟨o7,o8,o9,rfl⟩,h3,s3⟩
  refine A3 eN λN eN=>?_;refine (vE rfl ⟨r,_,rfl,.inl (WL.of h3),rfl,Fm _,_,rfl,?_⟩);by_cases cs:(Str.ofString "self")∈(zAO k.toNat).map λi=>tx (ET m a n i)
  .refine bT (YC.mpr cs) (vE rfl (vE rfl ⟨by lia,by lia,λr2 nr2=>?_⟩))
   refine Qi (lo:=0) (n:=k.toNat) (λi ys H4=>ys=((zAO i).map λi=>tx (V2 113 i)).map V.str/\H4 r2=some (.lst ys)/\WJ H3 H4) ⟨rfl,Ac,Ap nr2 _⟩
    (λi ys H4 _ ⟨e,h1,_⟩=>⟨h1,by rw[e,zAa,zAa,zAW];exact zAn _⟩) (by rw[zCf];lia) (λi ys H4 hi ⟨e,h1,s4⟩=>?_) (λys H4 ⟨e,h1,s4⟩=>?_)
   .refine (vE rfl (vF rfl rfl ⟨[113],_,congrArg V.str UG,rfl,by lia,by lia,(show 1<=1000 from by decide),h1,rfl,?_,Ac,λx o z=>?_⟩))
    .rw[e,IK,show (0+(i:Int)+1).toNat=i+1 by lia,zBR,zAf,zAf]
     rfl
    .rw[Au (Ak z nr2)]
     exact s4 x o z
   subst e;exact q r2 _ H4 (s3.trans s4) (s3.free nr2) h1 (BJ (by unfold Hk;decide) (by lia)) (by rw[zAa,zAW];lia)
  .subst eN
   refine bF (Bool.eq_false_iff.mpr λz=>cs (YC.mp z)) (vE rfl ?_);subst eN;refine q r _ H3 s3 nr h3 (LD ha (by lia) (by lia) λi hi e=>cs ?_) (by rw[zAa,zAW];lia);refine zAz.mpr ⟨i,zBg.mpr hi,?_⟩;rw[e,<- BV]
end
inductive Yr  (vs:List V) (H:Hp) (Q:VK):Prop
 |mk (c:Int) (z0:vs=[.int c]) (z1:∀ r:Int,0<=r->r<=2147483646->Q (.int r) H):Yr  vs H Q
def Kk:Sp:=λvs H Q _=>Yr  vs H Q
section
variable {P:Program} {w:World} {K:zAb} {mg:Str->Option Value} {base:Heap}
def Vz:Bc ["_law_cell_here"] ["_law_cell_here"] (Av Jv):=by injections
def Wq {f:Addr} {fd:zCh} (F:WV K "_law_spread" "_law_spread" Jv f fd) (T:Txt K mg):WN P w K mg base Do 1 f fd ["_law_cell_here"] Kk:=by
 have sc:=Vz;bv_omega
 .obtain⟨_,rfl,_⟩:=h
  rfl
 obtain⟨c,rfl,q⟩:=h;refine⟨_,(Aj (Bh (Be Cn (Be Ho (pv 0) Ar) Ar))),?_⟩;refine (vE rfl (vF rfl rfl ⟨.inr ⟨by decide,by decide⟩,vF rfl rfl ⟨(by show (0:Int)<2147483647;decide),?_⟩⟩));have b:=md (a:=c*48271) (b:=2147483647) (by decide);exact q _ b.1 (by have:=b.2;lia)
end
def Ti (u:Int):Prop:=1<=u/\u<=10000000019
inductive JK  (vs:List V) (H:Hp) (Q:VK):Prop
 |mk (d u:Int) (z0:vs=[.int d,.int u]) (z1:0<=d) (z2:Ti u) (z3:∀ m:Int,0<=m->m<=120000000230->Q (.int m) H):JK  vs H Q
def BB:Sp:=λvs H Q _=>JK  vs H Q
inductive AI (K:zAb) (vs:List V) (H:Hp) (Q:VK):Prop
 |mk (a:_) (ns:_) (z0:vs=[.ref a]) (z1:WL K H a (List.map V.int ns)) (z2:ns.length<=63) (z3:∀ u H',WJ H H'->Ti u->Q (.int u) H'):AI K vs H Q
def W7 (K:zAb):Sp:=λvs H Q _=>AI K vs H Q
def e10:(10:Int)^(10:Int).toNat=10000000000:=by ac_nf
section
seal L2.PS L2.PSs L2.PE L2.PA
variable {P:Program} {w:World} {K:zAb} {mg:Str->Option Value} {base:Heap}
def Vo:Bc ["_law_digit","_law_unit_here"] ["_law_digit","_law_unit_here"] (Av Jt):=by injections
def Vs {f:Addr} {fd:zCh} (F:WV K "_law_amount" "_law_amount" Jt f fd) (T:Txt K mg):WN P w K mg base Do 1 f fd ["_law_digit","_law_unit_here"] BB:=by
 have sc:=Vo;bv_omega
 .obtain⟨_,_,rfl,_⟩:=h
  rfl
 obtain⟨d,u,rfl,d0,⟨u1,u2⟩,q⟩:=h;refine⟨_,(Aj (Bh (Be Da (Be Ho (Be Cn (pv 0) Ar) (pv 1)) (Be Cn (Be Cm (pv 0) Ar) Ar)))),?_⟩;refine (vE rfl (vF rfl rfl ⟨(by show (0:Int)<13;decide),_,rfl,vF rfl rfl ⟨.inr ⟨by lia,by lia⟩,vE rfl (vF rfl rfl ⟨⟨by decide,by decide⟩,_,_,rfl,rfl,(by show (0:Int)<3;decide),_,_,rfl,rfl,?_⟩)⟩⟩));have m1:=md (a:=d) (b:=13) (by decide);have m2:=md (a:=d/13) (b:=3) (by decide);have p0:0<=d%13*u:=Int.mul_nonneg m1.1 (by lia);have p1:d%13*u<=12*10000000019:=Int.mul_le_mul (by lia) u2 (by lia) (by decide);exact q _ (by lia) (by lia)
def F9:Bc ["_law_script"] ["_law_script"] (Av Mv):=by injections
def M0 {f:Addr} {fd:zCh} (F:WV K "_law_unit" "_law_unit" Mv f fd) (T:Txt K mg) (C_law_cell:Cy P w K mg base 1 "_law_cell" ["_law_script","_law_k"] (Te K)) (C_law_spread:Cy P w K mg base 1 "_law_spread" ["_law_cell_here"] Kk):WN P w K mg base Do 2 f fd ["_law_script"] (W7 K):=by
 have sc:=F9;bv_omega
 .obtain⟨_,_,rfl,_⟩:=h
  rfl
 obtain⟨a,ns,rfl,ha,l63,q⟩:=h;refine⟨_,(Aj (Bh (Cc Bt (Cb (Aa Ar (Aa Ar (Aa Ar (Aa Ar (Aa (Be Da (Be PR Ar Ar) Ar) Ag)))))) (Be Cn (Az C_law_spread (hr.mono (by decide)) rfl (Aa (Az C_law_cell (hr.mono (by decide)) rfl (Aa (pv 0) (Aa Ar Ag))) Ag)) Ar) (λ_ _=>rfl)))),?_⟩;refine (vF rfl rfl ⟨⟨by decide,by decide,by decide⟩,_,_,rfl,rfl,Gv (by show 5<=1000;decide),λl nl=>?_⟩);have s1:=Ap nl (.lst [V.int 1,.int 1,.int 97,.int 1000,.int ((10:Int)^(10:Int).toNat+19)]);refine (vE rfl ⟨a,ns,0,rfl,s1.seq ha,by lia,l63,_,rfl,λr r0 r1=>(vF rfl rfl ⟨(by show (0:Int)<5;decide),?_⟩)⟩);have m:=md (a:=r) (b:=5) (by decide);have five:r%5=0\/r%5=1\/r%5=2\/r%5=3\/r%5=4:=by lia
 obtain⟨u,hu,uo⟩:∃ u:Int,Nx [V.int 1,.int 1,.int 97,.int 1000,.int ((10:Int)^(10:Int).toNat+19)] (r%5)=some (.int u)/\Ti u:=by
  rcases five with e|e|e|e|e <;> rw[e]
  .exact⟨1,rfl,by decide,by decide⟩
  .exact⟨1,rfl,by decide,by decide⟩
  .exact⟨97,rfl,by decide,by decide⟩
  .exact⟨1000,rfl,by decide,by decide⟩
  .exact⟨(10:Int)^(10:Int).toNat+19,rfl,by rw[e10];decide,by rw[e10];decide⟩
 exact (vI rfl rfl (WL.of Ac) hu (q u _ s1 uo))
end
abbrev SQ:=Str×Str×Int×Int
def SH (r:SQ):List V:=[.str r.1,.str r.2.1,.int r.2.2.1,.int r.2.2.2]
def UN (r:SQ):Prop:=(r.1="own" \/ r.1="layer" \/ r.1="limit")/\Ma r.2.1/\(0<=r.2.2.1/\r.2.2.1<=120000000230)/\(r.1="layer"->r.2.2.1<r.2.2.2/\r.2.2.2<=240000000461)
def BP (r:SQ):Cl:=if r.1="own" then .own r.2.1 r.2.2.1 else if r.1="layer" then .lay r.2.1 r.2.2.1 r.2.2.2 else .lim r.2.1 r.2.2.1
inductive MO  (vs:List V) (H:Hp) (Q:VK):Prop
 |mk (c u:Int) (z0:vs=[.int c,.int u]) (z1:0<=c) (z2:Ti u) (z3:∀ t r H',WJ H H'->H t=none->H' t=some (.tup (SH r))->UN r->Q (.ref t) H'):MO  vs H Q
def NV:Sp:=λvs H Q _=>MO  vs H Q
section
seal L2.PS L2.PSs L2.PE L2.PA
variable {P:Program} {w:World} {K:zAb} {mg:Str->Option Value} {base:Heap}
def Nl:Bc ["_law_cell_here","_law_unit_here","_law_by","_law_low","_law_way"] ["_law_cell_here","_law_unit_here"] (Av Fp):=by injections
def Ni {f:Addr} {fd:zCh} (F:WV K "_law_drawn_clause" "_law_drawn_clause" Fp f fd) (T:Txt K mg) (C_law_amount:Cy P w K mg base 1 "_law_amount" ["_law_digit","_law_unit_here"] BB):WN P w K mg base Do 2 f fd ["_law_cell_here","_law_unit_here"] NV:=by
 have sc:=Nl;bv_omega
 .obtain⟨_,_,rfl,_⟩:=h
  rfl
 obtain⟨c,u,rfl,c0,uo,q⟩:=h;refine⟨_,(Ai (Bn (i:=2) sc.nd rfl (Or.inl rfl) (Cc Bt (Cb (Aa Bg (Aa Bg (Aa Bg (Aa Bg Ag))))) (Be Cn (pv 0) Ar) (λ_ _=>rfl)))
   (Ai (Bn (i:=3) sc.nd rfl (Or.inl rfl) (Az C_law_amount (hr.mono (by decide)) rfl (Aa (Be Cn (Be Cm (pv 0) Ar) Ar) (Aa (pv 1) Ag))))
   (Ai (Bn (i:=4) sc.nd rfl (Or.inl rfl) (Be Cn (Be Cm (pv 0) Ar) Ar))
   (Ai (Bu (Bf Mb (pv 4) Ar (Bk _))
    (Aj (Bh (Cw (Aa Bg (Aa (pv 2) (Aa (Be Cm (pv 3) Ar) (Aa Ar Ag)))))))
    Bj)
   (Ai (Bu (Bf Db (pv 4) Ar (Bk _))
    (Aj (Bh (Cw (Aa Bg (Aa (pv 2) (Aa (pv 3) (Aa (Be Da (Be Da (pv 3) Ar) (Az C_law_amount (hr.mono (by decide)) rfl (Aa (Be Cn (Be Cm (pv 0) Ar) Ar) (Aa (pv 1) Ag)))) Ag)))))))
    Bj)
   (Aj (Bh (Cw (Aa Bg (Aa (pv 2) (Aa (pv 3) (Aa Ar Ag)))))))))))),?_⟩
 have four:4<=sizeLine:=by rw[zCf];decide
 refine⟨four,λl nl=>?_⟩;have m4:=md (a:=c) (b:=4) (by decide);have f4:c%4=0\/c%4=1\/c%4=2\/c%4=3:=by lia
 obtain⟨y,hy,wy⟩:∃ y:Str,Nx [V.str "event",.str "thing",.str "year",.str "loss"] (c%4)=some (.str y)/\Ma y:=by
  rcases f4 with e|e|e|e <;> rw[e]
  .exact (vE rfl (.inl rfl))
  .exact (vE rfl (.inr (.inl rfl)))
  .exact (vE rfl (.inr (.inr (.inl rfl))))
  .exact (vE rfl (.inr (.inr (.inr rfl))))
 refine (vE rfl (vF rfl rfl ⟨(by show (0:Int)<4;decide),vI rfl rfl (WL.of Ac) hy ?_⟩));have s1:=Ap nl (.lst [V.str "event",.str "thing",.str "year",.str "loss"]);refine Hu [some (.int c),some (.int u),some (.str y),none,none] rfl ?_;have d20:=md (a:=c/20) (b:=39) (by decide);refine (vE rfl (vF rfl rfl ⟨⟨by decide,by decide⟩,_,_,rfl,rfl,(by show (0:Int)<39;decide),_,rfl,_,u,rfl,d20.1,uo,λm m0 m1=>?_⟩));refine Hu [some (.int c),some (.int u),some (.str y),some (.int m),none] rfl ?_;refine (vE rfl (vF rfl rfl ⟨⟨by decide,by decide⟩,_,_,rfl,rfl,(by show (0:Int)<5;decide),?_⟩));refine Xa 0 4 (md (by decide)) λway w0 w4=>?_;refine (vE rfl (vF rfl rfl (vE rfl ?_)));by_cases c1:way<2
 .refine dT c1 (vE rfl (vE rfl (vF rfl rfl ⟨⟨by decide,by decide⟩,four,λt nt=>?_⟩)))
  exact q t ("own",y,m/2,0) _ (s1.trans (Ap nt _)) (s1.free nt) Ac ⟨.inl rfl,wy,⟨by show 0<=m/2;lia,by show m/2<=_;lia⟩,λz=>absurd (show Str.ofString "own"=Str.ofString "layer" from z) (by ac_nf)⟩
 refine dF c1 (vE rfl ⟨rfl,vE rfl ?_⟩);by_cases c2:way=2
 .have d78:=md (a:=c/780) (b:=39) (by decide)
  refine dT (congrArg V.int c2) (vE rfl (vE rfl (vE rfl (vF rfl rfl (vE rfl (vF rfl rfl ⟨⟨by decide,by decide⟩,_,_,rfl,rfl,(by show (0:Int)<39;decide),_,rfl,_,u,rfl,d78.1,uo,λm' m0' m1'=>(vF rfl rfl ⟨four,λt nt=>?_⟩)⟩))))));exact q t ("layer",y,m,m+1+m') _ (s1.trans (Ap nt _)) (s1.free nt) Ac ⟨.inr (.inl rfl),wy,⟨m0,m1⟩,λ_=>⟨by show m<m+1+m';lia,by show m+1+m'<=_;lia⟩⟩
 .refine dF (λe=>c2 (V.int.inj e)) (vE rfl (vE rfl ⟨four,λt nt=>?_⟩))
  exact q t ("limit",y,m,0) _ (s1.trans (Ap nt _)) (s1.free nt) Ac ⟨.inr (.inr rfl),wy,⟨m0,m1⟩,λz=>absurd (show Str.ofString "limit"=Str.ofString "layer" from z) (by ac_nf)⟩
end
def Ju {t:Dw} (h:Eo Em t) (h1:Ef t<=60) (h2:Cq t<=6) (h3:Ki t<66):Vt (.when t):=by
 refine⟨h,?_,h2,h3⟩;have:=Of (wc:=Bi) (λc _=>Xf c) t h
 lia
inductive BA  (vs:List V) (H:Hp) (Q:VK):Prop
 |mk (c u:Int) (th:_) (ca:_) (B C:List Str) (z0:vs=[.int c,.ref th,.ref ca,.int u]) (z1:0<=c) (z2:Ti u) (z3:H th=some (.lst (B.map V.str))) (z4:H ca=some (.lst (C.map V.str))) (z5:B.length=3) (z6:C.length=3) (z7:(∀ z∈B,X0 z)) (z8:(∀ z∈C,X0 z)) (z9:∀ v t H',WJ H H'->WP (Nw H H') v t->Vt (.when t)->Ki t<5->Q v H'):BA  vs H Q
def AF:Sp:=λvs H Q _=>BA  vs H Q
def IV {ns:List Str} {i:Int} (h0:0<=i) (h:i<ns.length):∃ z,z∈ns/\Nx (ns.map V.str) i=some (.str z):=by
 obtain⟨j,rfl⟩:=Int.eq_ofNat_of_zero_le h0;have hj:j<ns.length:=by lia
 refine⟨ns[j],zBn _,Fd ?_⟩;rw[zAx,zAg hj];rfl
def TK {H:Hp} {v:V} {t:Dw} (h:WP H v t):TrsAt H [v] [t]:=by unfold TrsAt;exact⟨h,by unfold TrsAt;trivial⟩
def AC {H:Hp} {v u:V} {t s:Dw} (h:WP H v t) (g:WP H u s):TrsAt H [v,u] [t,s]:=by unfold TrsAt;exact⟨h,TK g⟩
def TL {H:Hp} {v u x:V} {t s r:Dw} (h:WP H v t) (g:WP H u s) (k:WP H x r):TrsAt H [v,u,x] [t,s,r]:=by unfold TrsAt;exact⟨h,AC g k⟩
def K5 {t:Dw} (h:Eo Em t):Eo Em (.no t):=by unfold Eo;exact h
def Vl {t s:Dw} (h:Eo Em t) (g:Eo Em s):Eo Em (.al [t,s]):=by unfold Eo;exact⟨by simp,by simp,B3 λx hx=>by simp at hx;rcases hx with rfl|rfl <;> assumption⟩
def BQ {t s:Dw} (h:Eo Em t) (g:Eo Em s):Eo Em (.so [t,s]):=by unfold Eo;exact⟨by simp,by simp,B3 λx hx=>by simp at hx;rcases hx with rfl|rfl <;> assumption⟩
def LG {t s r:Dw} (h:Eo Em t) (g:Eo Em s) (k:Eo Em r):Eo Em (.so [t,s,r]):=by unfold Eo;exact⟨by simp,by simp,B3 λx hx=>by simp at hx;rcases hx with rfl|rfl|rfl <;> assumption⟩
section
seal L2.PS L2.PSs L2.PE L2.PA
variable {P:Program} {w:World} {K:zAb} {mg:Str->Option Value} {base:Heap}
def M7:Bc ["_law_cell_here","_law_things","_law_causes","_law_unit_here","_law_cause","_law_thing","_law_over","_law_first","_law_days","_law_some"] ["_law_cell_here","_law_things","_law_causes","_law_unit_here"] (Av Mi):=by injections
def D8 {f:Addr} {fd:zCh} (F:WV K "_law_cond" "_law_cond" Mi f fd) (T:Txt K mg) (C_law_amount:Cy P w K mg base 1 "_law_amount" ["_law_digit","_law_unit_here"] BB):WN P w K mg base Do 2 f fd ["_law_cell_here","_law_things","_law_causes","_law_unit_here"] AF:=by
 have sc:=M7;bv_omega
 .obtain⟨_,_,_,_,_,_,rfl,_⟩:=h
  rfl
 obtain⟨c,u,th,ca,B,C,rfl,c0,uo,hth,hca,lB,lC,nB,nC,q⟩:=h;refine⟨_,(Ai (Bn (i:=4) sc.nd rfl (Or.inl rfl) (Cw (Aa Bg (Aa (Cc Bt (pv 2) (Be Cn (Be Cm (pv 0) Ar) Ar) (λ_ _=>rfl)) Ag))))
   (Ai (Bn (i:=5) sc.nd rfl (Or.inl rfl) (Cw (Aa Bg (Aa (Cc Bt (pv 1) (Be Cn (Be Cm (pv 0) Ar) Ar) (λ_ _=>rfl)) Ag))))
   (Ai (Bn (i:=6) sc.nd rfl (Or.inl rfl) (Cw (Aa Bg (Aa (Az C_law_amount (hr.mono (by decide)) rfl (Aa (Be Cn (Be Cm (pv 0) Ar) Ar) (Aa (pv 3) Ag))) Ag))))
   (Ai (Bn (i:=7) sc.nd rfl (Or.inl rfl) (Be Da (Be Ho Ar (Be Cn (Be Cm (pv 0) Ar) Ar)) (Be Cn (Be Cm (pv 0) Ar) Ar)))
   (Ai (Bn (i:=8) sc.nd rfl (Or.inl rfl) (Cw (Aa Bg (Aa (pv 7) (Aa (Be Da (pv 7) (Be Cn (Be Cm (pv 0) Ar) Ar)) Ag)))))
   (Ai (Bn (i:=9) sc.nd rfl (Or.inl rfl) (Cb (Aa (pv 4) (Aa (pv 5) (Aa (pv 6) (Aa (pv 8) (Aa (Cw (Aa Bg (Aa (pv 4) Ag))) (Aa (Cw (Aa Bg (Aa (Cb (Aa (Cw (Aa Bg (Aa (pv 6) Ag))) (Aa (pv 5) Ag))) Ag))) (Aa (Cw (Aa Bg (Aa (Cb (Aa (pv 4) (Aa (pv 5) (Aa (pv 6) Ag)))) Ag))) Ag)))))))))
   (Ai (Bz (Dy PySem.F.plainAttrs_list PySem.F.slot_list_append PySem.F.type_list_append Cj (pv 9) (Aa (Cw (Aa Bg (Aa (Cb (Aa (Cw (Aa Bg (Aa (Cb (Aa (pv 4) (Aa (pv 5) Ag))) Ag))) (Aa (Cw (Aa Bg (Aa (Cw (Aa Bg (Aa (Cb (Aa (pv 6) (Aa (pv 5) Ag))) Ag))) Ag))) Ag))) Ag))) Ag)))
   (Ai (Bz (Dy PySem.F.plainAttrs_list PySem.F.slot_list_append PySem.F.type_list_append Cj (pv 9) (Aa (Cw (Aa Bg (Aa (Cw (Aa Bg (Aa (Cb (Aa (pv 8) (Aa (Cw (Aa Bg (Aa (Cb (Aa (pv 4) (Aa (pv 5) Ag))) Ag))) Ag))) Ag))) Ag))) Ag)))
   (Ai (Bu (Bf Uk (Be Cn (pv 0) Ar) Ar (Bk _))
    (Aj (Bh (Cc Bt (pv 9) (Be A5 (Be Cn (pv 0) Ar) Ar) (λ_ _=>rfl))))
    Bj)
   (Aj (Bh (Cw (Aa Bg Ag))))))))))))),?_⟩
 refine W0 λN eN=>?_;have two:2<=sizeLine:=by rw[zCf];decide
 have three:3<=sizeLine:=by rw[zCf];decide
 have seven:7<=sizeLine:=by rw[zCf];decide
 have one:1<=sizeLine:=by rw[zCf];decide
 obtain⟨n1,i1,x1⟩:=IV (ns:=C) (i:=c/12%3) (by lia) (by lia);obtain⟨n2,i2,x2⟩:=IV (ns:=B) (i:=c/36%3) (by lia) (by lia);have o1:=nC n1 i1;have o2:=nB n2 i2;have a0:WJ H H:=WJ.refl _;refine (vE rfl (vE rfl (vF rfl rfl ⟨⟨by decide,by decide⟩,_,_,rfl,rfl,(by show (0:Int)<3;decide),vI rfl rfl (WL.of hca) x1 ⟨two,λt1 kt1=>?_⟩⟩)));have s1:=Ap kt1 (.tup [V.str "cause",.str n1]);have ht1:upd H t1 (.tup [V.str "cause",.str n1]) t1=some (.tup [V.str "cause",.str n1]):=Ac;have ft1:H t1=none:=a0.free kt1;have a1:=a0.trans s1;generalize upd H t1 (.tup [V.str "cause",.str n1])=H1 at s1 ht1 a1;refine AX eN [some (.int c),some (.ref th),some (.ref ca),some (.int u),some (.ref t1),none,none,none,none,none] rfl λN eN=>?_;refine (vE rfl (vE rfl (vF rfl rfl ⟨⟨by decide,by decide⟩,_,_,rfl,rfl,(by show (0:Int)<3;decide),vI rfl rfl (WL.of (a1 _ _ hth)) x2 ⟨two,λt2 kt2=>?_⟩⟩)));have s2:=Ap kt2 (.tup [V.str "thing",.str n2]);have ht2:upd H1 t2 (.tup [V.str "thing",.str n2]) t2=some (.tup [V.str "thing",.str n2]):=Ac;have ft2:H t2=none:=a1.free kt2;have a2:=a1.trans s2;generalize upd H1 t2 (.tup [V.str "thing",.str n2])=H2 at s2 ht2 a2;refine AX eN [some (.int c),some (.ref th),some (.ref ca),some (.int u),some (.ref t1),some (.ref t2),none,none,none,none] rfl λN eN=>?_;have d90:=md (a:=c/108) (b:=39) (by decide);refine (vE rfl (vF rfl rfl ⟨⟨by decide,by decide⟩,_,_,rfl,rfl,(by show (0:Int)<39;decide),_,rfl,_,u,rfl,d90.1,uo,λm m0 m1=>⟨two,λt3 kt3=>?_⟩⟩));have s3:=Ap kt3 (.tup [V.str "over",.int m])
 have ht3:upd H2 t3 (.tup [V.str "over",.int m]) t3=some (.tup [V.str "over",.int m]):=Ac;have ft3:H t3=none:=a2.free kt3;have a3:=a2.trans s3;generalize upd H2 t3 (.tup [V.str "over",.int m])=H3 at s3 ht3 a3;refine AX eN [some (.int c),some (.ref th),some (.ref ca),some (.int u),some (.ref t1),some (.ref t2),some (.ref t3),none,none,none] rfl λN eN=>?_;refine (vE rfl (vF rfl rfl ⟨⟨by decide,by decide⟩,_,_,rfl,rfl,(by show (0:Int)<3;decide),_,_,rfl,rfl,.inl ⟨by decide,by decide⟩,vE rfl (vF rfl rfl ⟨⟨by decide,by decide⟩,_,_,rfl,rfl,(by show (0:Int)<4;decide),_,_,rfl,rfl,?_⟩)⟩));refine Xa 0 733 ⟨by lia,by lia⟩ λfi f0 f1=>?_;have d42:=md (a:=c/50544) (b:=400) (by decide);refine AX eN [some (.int c),some (.ref th),some (.ref ca),some (.int u),some (.ref t1),some (.ref t2),some (.ref t3),some (.int fi),none,none] rfl λN eN=>?_;refine (vE rfl (vE rfl (vE rfl (vF rfl rfl ⟨⟨by decide,by decide⟩,_,_,rfl,rfl,(by show (0:Int)<400;decide),_,_,rfl,rfl,three,λt4 kt4=>?_⟩))));generalize c/50544%400=e4 at d42 kt4;have s4:=Ap kt4 (.tup [V.str "days",.int fi,.int (fi+e4)]);have ht4:upd H3 t4 (.tup [V.str "days",.int fi,.int (fi+e4)]) t4=some (.tup [V.str "days",.int fi,.int (fi+e4)]):=Ac;have ft4:H t4=none:=a3.free kt4;have a4:=a3.trans s4;generalize upd H3 t4 (.tup [V.str "days",.int fi,.int (fi+e4)])=H4 at s4 ht4 a4;refine AX eN [some (.int c),some (.ref th),some (.ref ca),some (.int u),some (.ref t1),some (.ref t2),some (.ref t3),some (.int fi),some (.ref t4),none] rfl λN eN=>?_
 refine⟨_,rfl,_,rfl,_,rfl,_,rfl,_,rfl,two,λt5 kt5=>?_⟩;have s5:=Ap kt5 (.tup [V.str "not",.ref t1]);have ht5:upd H4 t5 (.tup [V.str "not",.ref t1]) t5=some (.tup [V.str "not",.ref t1]):=Ac;have ft5:H t5=none:=a4.free kt5;have a5:=a4.trans s5;generalize upd H4 t5 (.tup [V.str "not",.ref t1])=H5 at s5 ht5 a5;refine⟨_,rfl,two,λt6 kt6=>?_⟩;have s6:=Ap kt6 (.tup [V.str "not",.ref t3]);have ht6:upd H5 t6 (.tup [V.str "not",.ref t3]) t6=some (.tup [V.str "not",.ref t3]):=Ac;have ft6:H t6=none:=a5.free kt6;have a6:=a5.trans s6;generalize upd H5 t6 (.tup [V.str "not",.ref t3])=H6 at s6 ht6 a6;refine⟨_,rfl,two,λl2 kl2=>?_⟩;have s7:=Ap kl2 (.lst [V.ref t6,.ref t2]);have hl2:upd H6 l2 (.lst [V.ref t6,.ref t2]) l2=some (.lst [V.ref t6,.ref t2]):=Ac;have fl2:H l2=none:=a6.free kl2;have a7:=a6.trans s7;generalize upd H6 l2 (.lst [V.ref t6,.ref t2])=H7 at s7 hl2 a7;refine⟨two,λt7 kt7=>?_⟩;have s8:=Ap kt7 (.tup [V.str "all",.ref l2]);have ht7:upd H7 t7 (.tup [V.str "all",.ref l2]) t7=some (.tup [V.str "all",.ref l2]):=Ac;have ft7:H t7=none:=a7.free kt7;have a8:=a7.trans s8;generalize upd H7 t7 (.tup [V.str "all",.ref l2])=H8 at s8 ht7 a8;refine⟨_,rfl,_,rfl,_,rfl,three,λl3 kl3=>?_⟩;have s9:=Ap kl3 (.lst [V.ref t1,.ref t2,.ref t3]);have hl3:upd H8 l3 (.lst [V.ref t1,.ref t2,.ref t3]) l3=some (.lst [V.ref t1,.ref t2,.ref t3]):=Ac;have fl3:H l3=none:=a8.free kl3;have a9:=a8.trans s9;generalize upd H8 l3 (.lst [V.ref t1,.ref t2,.ref t3])=H9 at s9 hl3 a9;refine⟨two,λt8 kt8=>?_⟩
 have s10:=Ap kt8 (.tup [V.str "some",.ref l3]);have ht8:upd H9 t8 (.tup [V.str "some",.ref l3]) t8=some (.tup [V.str "some",.ref l3]):=Ac;have ft8:H t8=none:=a9.free kt8;have a10:=a9.trans s10;generalize upd H9 t8 (.tup [V.str "some",.ref l3])=H10 at s10 ht8 a10;refine⟨seven,λl1 kl1=>?_⟩;have s11:=Ap kl1 (.lst [V.ref t1,.ref t2,.ref t3,.ref t4,.ref t5,.ref t7,.ref t8]);have hl1:upd H10 l1 (.lst [V.ref t1,.ref t2,.ref t3,.ref t4,.ref t5,.ref t7,.ref t8]) l1=some (.lst [V.ref t1,.ref t2,.ref t3,.ref t4,.ref t5,.ref t7,.ref t8]):=Ac;have fl1:H l1=none:=a10.free kl1;have a11:=a10.trans s11;generalize upd H10 l1 (.lst [V.ref t1,.ref t2,.ref t3,.ref t4,.ref t5,.ref t7,.ref t8])=H11 at s11 hl1 a11;refine AX eN [some (.int c),some (.ref th),some (.ref ca),some (.int u),some (.ref t1),some (.ref t2),some (.ref t3),some (.int fi),some (.ref t4),some (.ref l1)] rfl λN eN=>?_;refine⟨_,rfl,.inl ⟨rfl,_,WL.of hl1⟩,_,rfl,_,rfl,two,λl4 kl4=>?_⟩;have pl4:=hl1;have s12:=Ap kl4 (.lst [V.ref t1,.ref t2]);have hl4:upd H11 l4 (.lst [V.ref t1,.ref t2]) l4=some (.lst [V.ref t1,.ref t2]):=Ac;have fl4:H l4=none:=a11.free kl4;have a12:=a11.trans s12;generalize upd H11 l4 (.lst [V.ref t1,.ref t2])=H12 at s12 hl4 a12;replace hl1:=s12 _ _ hl1;refine⟨two,λt9 kt9=>?_⟩;have pt9:=hl1;have s13:=Ap kt9 (.tup [V.str "some",.ref l4]);have ht9:upd H12 t9 (.tup [V.str "some",.ref l4]) t9=some (.tup [V.str "some",.ref l4]):=Ac;have ft9:H t9=none:=a12.free kt9;have a13:=a12.trans s13
 generalize upd H12 t9 (.tup [V.str "some",.ref l4])=H13 at s13 ht9 a13;replace hl1:=s13 _ _ hl1;refine⟨_,rfl,_,rfl,two,λl5 kl5=>?_⟩;have pl5:=hl1;have s14:=Ap kl5 (.lst [V.ref t3,.ref t2]);have hl5:upd H13 l5 (.lst [V.ref t3,.ref t2]) l5=some (.lst [V.ref t3,.ref t2]):=Ac;have fl5:H l5=none:=a13.free kl5;have a14:=a13.trans s14;generalize upd H13 l5 (.lst [V.ref t3,.ref t2])=H14 at s14 hl5 a14;replace hl1:=s14 _ _ hl1;refine⟨two,λt10 kt10=>?_⟩;have pt10:=hl1;have s15:=Ap kt10 (.tup [V.str "all",.ref l5]);have ht10:upd H14 t10 (.tup [V.str "all",.ref l5]) t10=some (.tup [V.str "all",.ref l5]):=Ac;have ft10:H t10=none:=a14.free kt10;have a15:=a14.trans s15;generalize upd H14 t10 (.tup [V.str "all",.ref l5])=H15 at s15 ht10 a15;replace hl1:=s15 _ _ hl1;refine⟨two,λt11 kt11=>?_⟩;have pt11:=hl1;have s16:=Ap kt11 (.tup [V.str "not",.ref t10]);have ht11:upd H15 t11 (.tup [V.str "not",.ref t10]) t11=some (.tup [V.str "not",.ref t10]):=Ac;have ft11:H t11=none:=a15.free kt11;have a16:=a15.trans s16;generalize upd H15 t11 (.tup [V.str "not",.ref t10])=H16 at s16 ht11 a16;replace hl1:=s16 _ _ hl1;refine⟨two,λl6 kl6=>?_⟩;have pl6:=hl1;have s17:=Ap kl6 (.lst [V.ref t9,.ref t11]);have hl6:upd H16 l6 (.lst [V.ref t9,.ref t11]) l6=some (.lst [V.ref t9,.ref t11]):=Ac;have fl6:H l6=none:=a16.free kl6;have a17:=a16.trans s17;generalize upd H16 l6 (.lst [V.ref t9,.ref t11])=H17 at s17 hl6 a17;replace hl1:=s17 _ _ hl1;refine⟨two,λt12 kt12=>?_⟩;have pt12:=hl1
 have s18:=Ap kt12 (.tup [V.str "all",.ref l6]);have ht12:upd H17 t12 (.tup [V.str "all",.ref l6]) t12=some (.tup [V.str "all",.ref l6]):=Ac;have ft12:H t12=none:=a17.free kt12;have a18:=a17.trans s18;generalize upd H17 t12 (.tup [V.str "all",.ref l6])=H18 at s18 ht12 a18;replace hl1:=s18 _ _ hl1;refine⟨l1,_,_,rfl,rfl,hl1,Gv (by show 8<=1000;decide),?_⟩;have u19:Kb l1 H18 (upd H18 l1 (.lst [V.ref t1,.ref t2,.ref t3,.ref t4,.ref t5,.ref t7,.ref t8,.ref t12])):=Kb.upd;have hl1':upd H18 l1 (.lst [V.ref t1,.ref t2,.ref t3,.ref t4,.ref t5,.ref t7,.ref t8,.ref t12]) l1=some (.lst [V.ref t1,.ref t2,.ref t3,.ref t4,.ref t5,.ref t7,.ref t8,.ref t12]):=Ac;have a19:WJ H (upd H18 l1 (.lst [V.ref t1,.ref t2,.ref t3,.ref t4,.ref t5,.ref t7,.ref t8,.ref t12])):=λb o e=>by rw[Au (Ak e fl1)];exact a18 _ _ e
 show N _ (upd H18 l1 (.lst [V.ref t1,.ref t2,.ref t3,.ref t4,.ref t5,.ref t7,.ref t8,.ref t12]));generalize upd H18 l1 (.lst [V.ref t1,.ref t2,.ref t3,.ref t4,.ref t5,.ref t7,.ref t8,.ref t12])=H19 at u19 hl1' a19;clear hl1;have hl1:=hl1';clear hl1';refine A3 eN λN eN=>?_;refine⟨_,rfl,.inl ⟨rfl,_,WL.of hl1⟩,_,rfl,_,rfl,_,rfl,two,λl7 kl7=>?_⟩;have pl7:=hl1;have s20:=Ap kl7 (.lst [V.ref t1,.ref t2]);have hl7:upd H19 l7 (.lst [V.ref t1,.ref t2]) l7=some (.lst [V.ref t1,.ref t2]):=Ac;have fl7:H l7=none:=a19.free kl7;have a20:=a19.trans s20;generalize upd H19 l7 (.lst [V.ref t1,.ref t2])=H20 at s20 hl7 a20;replace hl1:=s20 _ _ hl1;refine⟨two,λt13 kt13=>?_⟩;have pt13:=hl1;have s21:=Ap kt13 (.tup [V.str "all",.ref l7]);have ht13:upd H20 t13 (.tup [V.str "all",.ref l7]) t13=some (.tup [V.str "all",.ref l7]):=Ac;have ft13:H t13=none:=a20.free kt13;have a21:=a20.trans s21;generalize upd H20 t13 (.tup [V.str "all",.ref l7])=H21 at s21 ht13 a21;replace hl1:=s21 _ _ hl1;refine⟨two,λl8 kl8=>?_⟩;have pl8:=hl1;have s22:=Ap kl8 (.lst [V.ref t4,.ref t13]);have hl8:upd H21 l8 (.lst [V.ref t4,.ref t13]) l8=some (.lst [V.ref t4,.ref t13]):=Ac;have fl8:H l8=none:=a21.free kl8;have a22:=a21.trans s22;generalize upd H21 l8 (.lst [V.ref t4,.ref t13])=H22 at s22 hl8 a22;replace hl1:=s22 _ _ hl1;refine⟨two,λt14 kt14=>?_⟩;have pt14:=hl1;have s23:=Ap kt14 (.tup [V.str "some",.ref l8]);have ht14:upd H22 t14 (.tup [V.str "some",.ref l8]) t14=some (.tup [V.str "some",.ref l8]):=Ac
 have ft14:H t14=none:=a22.free kt14;have a23:=a22.trans s23;generalize upd H22 t14 (.tup [V.str "some",.ref l8])=H23 at s23 ht14 a23;replace hl1:=s23 _ _ hl1;refine⟨two,λt15 kt15=>?_⟩;have pt15:=hl1;have s24:=Ap kt15 (.tup [V.str "not",.ref t14]);have ht15:upd H23 t15 (.tup [V.str "not",.ref t14]) t15=some (.tup [V.str "not",.ref t14]):=Ac;have ft15:H t15=none:=a23.free kt15;have a24:=a23.trans s24;generalize upd H23 t15 (.tup [V.str "not",.ref t14])=H24 at s24 ht15 a24;replace hl1:=s24 _ _ hl1;refine⟨l1,_,_,rfl,rfl,hl1,Gv (by show 9<=1000;decide),?_⟩;have u25:Kb l1 H24 (upd H24 l1 (.lst [V.ref t1,.ref t2,.ref t3,.ref t4,.ref t5,.ref t7,.ref t8,.ref t12,.ref t15])):=Kb.upd;have hl1':upd H24 l1 (.lst [V.ref t1,.ref t2,.ref t3,.ref t4,.ref t5,.ref t7,.ref t8,.ref t12,.ref t15]) l1=some (.lst [V.ref t1,.ref t2,.ref t3,.ref t4,.ref t5,.ref t7,.ref t8,.ref t12,.ref t15]):=Ac;have a25:WJ H (upd H24 l1 (.lst [V.ref t1,.ref t2,.ref t3,.ref t4,.ref t5,.ref t7,.ref t8,.ref t12,.ref t15])):=λb o e=>by rw[Au (Ak e fl1)];exact a24 _ _ e
 show N _ (upd H24 l1 (.lst [V.ref t1,.ref t2,.ref t3,.ref t4,.ref t5,.ref t7,.ref t8,.ref t12,.ref t15]));generalize upd H24 l1 (.lst [V.ref t1,.ref t2,.ref t3,.ref t4,.ref t5,.ref t7,.ref t8,.ref t12,.ref t15])=H25 at u25 hl1' a25;clear hl1;have hl1:=hl1';clear hl1';refine A3 eN λN eN=>?_;have c25:Kb l1 H25 H25:=Kb.refl _ _;have c24:Kb l1 H24 H25:=u25.trans c25;have c23:Kb l1 H23 H25:=(Kb.of s24).trans c24;have c22:Kb l1 H22 H25:=(Kb.of s23).trans c23;have c21:Kb l1 H21 H25:=(Kb.of s22).trans c22;have c20:Kb l1 H20 H25:=(Kb.of s21).trans c21;have c19:Kb l1 H19 H25:=(Kb.of s20).trans c20;have c18:Kb l1 H18 H25:=u19.trans c19;have c17:Kb l1 H17 H25:=(Kb.of s18).trans c18;have c16:Kb l1 H16 H25:=(Kb.of s17).trans c17;have c15:Kb l1 H15 H25:=(Kb.of s16).trans c16;have c14:Kb l1 H14 H25:=(Kb.of s15).trans c15;have c13:Kb l1 H13 H25:=(Kb.of s14).trans c14;have c12:Kb l1 H12 H25:=(Kb.of s13).trans c13;have c11:Kb l1 H11 H25:=(Kb.of s12).trans c12;have c10:Kb l1 H10 H25:=(Kb.of s11).trans c11;have c9:Kb l1 H9 H25:=(Kb.of s10).trans c10;have c8:Kb l1 H8 H25:=(Kb.of s9).trans c9;have c7:Kb l1 H7 H25:=(Kb.of s8).trans c8;have c6:Kb l1 H6 H25:=(Kb.of s7).trans c7;have c5:Kb l1 H5 H25:=(Kb.of s6).trans c6;have c4:Kb l1 H4 H25:=(Kb.of s5).trans c5;have c3:Kb l1 H3 H25:=(Kb.of s4).trans c4;have c2:Kb l1 H2 H25:=(Kb.of s3).trans c3;have c1:Kb l1 H1 H25:=(Kb.of s2).trans c2;have c0:Kb l1 H H25:=(Kb.of s1).trans c1;have zt1:Nw H H25 t1=some (.tup [V.str "cause",.str n1]):=Nw.of ft1 (c1 _ _ ht1 (Ak (s10 _ _ (s9 _ _ (s8 _ _ (s7 _ _ (s6 _ _ (s5 _ _ (s4 _ _ (s3 _ _ (s2 _ _ ht1))))))))) kl1))
 have zt2:Nw H H25 t2=some (.tup [V.str "thing",.str n2]):=Nw.of ft2 (c2 _ _ ht2 (Ak (s10 _ _ (s9 _ _ (s8 _ _ (s7 _ _ (s6 _ _ (s5 _ _ (s4 _ _ (s3 _ _ ht2)))))))) kl1));have zt3:Nw H H25 t3=some (.tup [V.str "over",.int m]):=Nw.of ft3 (c3 _ _ ht3 (Ak (s10 _ _ (s9 _ _ (s8 _ _ (s7 _ _ (s6 _ _ (s5 _ _ (s4 _ _ ht3))))))) kl1));have zt4:Nw H H25 t4=some (.tup [V.str "days",.int fi,.int (fi+e4)]):=Nw.of ft4 (c4 _ _ ht4 (Ak (s10 _ _ (s9 _ _ (s8 _ _ (s7 _ _ (s6 _ _ (s5 _ _ ht4)))))) kl1));have zt5:Nw H H25 t5=some (.tup [V.str "not",.ref t1]):=Nw.of ft5 (c5 _ _ ht5 (Ak (s10 _ _ (s9 _ _ (s8 _ _ (s7 _ _ (s6 _ _ ht5))))) kl1));have zt6:Nw H H25 t6=some (.tup [V.str "not",.ref t3]):=Nw.of ft6 (c6 _ _ ht6 (Ak (s10 _ _ (s9 _ _ (s8 _ _ (s7 _ _ ht6)))) kl1));have zl2:Nw H H25 l2=some (.lst [V.ref t6,.ref t2]):=Nw.of fl2 (c7 _ _ hl2 (Ak (s10 _ _ (s9 _ _ (s8 _ _ hl2))) kl1));have zt7:Nw H H25 t7=some (.tup [V.str "all",.ref l2]):=Nw.of ft7 (c8 _ _ ht7 (Ak (s10 _ _ (s9 _ _ ht7)) kl1));have zl3:Nw H H25 l3=some (.lst [V.ref t1,.ref t2,.ref t3]):=Nw.of fl3 (c9 _ _ hl3 (Ak (s10 _ _ hl3) kl1));have zt8:Nw H H25 t8=some (.tup [V.str "some",.ref l3]):=Nw.of ft8 (c10 _ _ ht8 (Ak ht8 kl1));have nl4:l4≠l1:=λz=>by rw[z] at kl4;exact absurd kl4 (λy=>by rw[pl4] at y;cases y)
 have zl4:Nw H H25 l4=some (.lst [V.ref t1,.ref t2]):=Nw.of fl4 (c12 _ _ hl4 (λz=>nl4 z));have nt9:t9≠l1:=λz=>by rw[z] at kt9;exact absurd kt9 (λy=>by rw[pt9] at y;cases y)
 have zt9:Nw H H25 t9=some (.tup [V.str "some",.ref l4]):=Nw.of ft9 (c13 _ _ ht9 (λz=>nt9 z));have nl5:l5≠l1:=λz=>by rw[z] at kl5;exact absurd kl5 (λy=>by rw[pl5] at y;cases y)
 have zl5:Nw H H25 l5=some (.lst [V.ref t3,.ref t2]):=Nw.of fl5 (c14 _ _ hl5 (λz=>nl5 z));have nt10:t10≠l1:=λz=>by rw[z] at kt10;exact absurd kt10 (λy=>by rw[pt10] at y;cases y)
 have zt10:Nw H H25 t10=some (.tup [V.str "all",.ref l5]):=Nw.of ft10 (c15 _ _ ht10 (λz=>nt10 z));have nt11:t11≠l1:=λz=>by rw[z] at kt11;exact absurd kt11 (λy=>by rw[pt11] at y;cases y)
 have zt11:Nw H H25 t11=some (.tup [V.str "not",.ref t10]):=Nw.of ft11 (c16 _ _ ht11 (λz=>nt11 z));have nl6:l6≠l1:=λz=>by rw[z] at kl6;exact absurd kl6 (λy=>by rw[pl6] at y;cases y)
 have zl6:Nw H H25 l6=some (.lst [V.ref t9,.ref t11]):=Nw.of fl6 (c17 _ _ hl6 (λz=>nl6 z));have nt12:t12≠l1:=λz=>by rw[z] at kt12;exact absurd kt12 (λy=>by rw[pt12] at y;cases y)
 have zt12:Nw H H25 t12=some (.tup [V.str "all",.ref l6]):=Nw.of ft12 (c18 _ _ ht12 (λz=>nt12 z));have nl7:l7≠l1:=λz=>by rw[z] at kl7;exact absurd kl7 (λy=>by rw[pl7] at y;cases y)
 have zl7:Nw H H25 l7=some (.lst [V.ref t1,.ref t2]):=Nw.of fl7 (c20 _ _ hl7 (λz=>nl7 z));have nt13:t13≠l1:=λz=>by rw[z] at kt13;exact absurd kt13 (λy=>by rw[pt13] at y;cases y)
 have zt13:Nw H H25 t13=some (.tup [V.str "all",.ref l7]):=Nw.of ft13 (c21 _ _ ht13 (λz=>nt13 z));have nl8:l8≠l1:=λz=>by rw[z] at kl8;exact absurd kl8 (λy=>by rw[pl8] at y;cases y)
 have zl8:Nw H H25 l8=some (.lst [V.ref t4,.ref t13]):=Nw.of fl8 (c22 _ _ hl8 (λz=>nl8 z));have nt14:t14≠l1:=λz=>by rw[z] at kt14;exact absurd kt14 (λy=>by rw[pt14] at y;cases y)
 have zt14:Nw H H25 t14=some (.tup [V.str "some",.ref l8]):=Nw.of ft14 (c23 _ _ ht14 (λz=>nt14 z));have nt15:t15≠l1:=λz=>by rw[z] at kt15;exact absurd kt15 (λy=>by rw[pt15] at y;cases y)
 have zt15:Nw H H25 t15=some (.tup [V.str "not",.ref t14]):=Nw.of ft15 (c24 _ _ ht15 (λz=>nt15 z));have Tt1:WP (Nw H H25) (.ref t1) (.at (.cau n1)):=by unfold WP;exact⟨t1,rfl,zt1⟩
 have Tt2:WP (Nw H H25) (.ref t2) (.at (.thi n2)):=by unfold WP;exact⟨t2,rfl,zt2⟩
 have Tt3:WP (Nw H H25) (.ref t3) (.at (.ovr m)):=by unfold WP;exact⟨t3,rfl,zt3⟩
 have Tt4:WP (Nw H H25) (.ref t4) (.at (.day fi (fi+e4))):=by unfold WP;exact⟨t4,rfl,zt4⟩
 have Tt5:WP (Nw H H25) (.ref t5) (.no (.at (.cau n1))):=by unfold WP;exact⟨t5,_,rfl,zt5,Tt1⟩
 have Tt6:WP (Nw H H25) (.ref t6) (.no (.at (.ovr m))):=by unfold WP;exact⟨t6,_,rfl,zt6,Tt3⟩
 have Tt7:WP (Nw H H25) (.ref t7) (.al [.no (.at (.ovr m)),.at (.thi n2)]):=by unfold WP;exact⟨t7,l2,_,rfl,zt7,zl2,AC Tt6 Tt2⟩
 have Tt8:WP (Nw H H25) (.ref t8) (.so [.at (.cau n1),.at (.thi n2),.at (.ovr m)]):=by unfold WP;exact⟨t8,l3,_,rfl,zt8,zl3,TL Tt1 Tt2 Tt3⟩
 have Tt9:WP (Nw H H25) (.ref t9) (.so [.at (.cau n1),.at (.thi n2)]):=by unfold WP;exact⟨t9,l4,_,rfl,zt9,zl4,AC Tt1 Tt2⟩
 have Tt10:WP (Nw H H25) (.ref t10) (.al [.at (.ovr m),.at (.thi n2)]):=by unfold WP;exact⟨t10,l5,_,rfl,zt10,zl5,AC Tt3 Tt2⟩
 have Tt11:WP (Nw H H25) (.ref t11) (.no (.al [.at (.ovr m),.at (.thi n2)])):=by unfold WP;exact⟨t11,_,rfl,zt11,Tt10⟩
 have Tt12:WP (Nw H H25) (.ref t12) (.al [.so [.at (.cau n1),.at (.thi n2)],.no (.al [.at (.ovr m),.at (.thi n2)])]):=by unfold WP;exact⟨t12,l6,_,rfl,zt12,zl6,AC Tt9 Tt11⟩
 have Tt13:WP (Nw H H25) (.ref t13) (.al [.at (.cau n1),.at (.thi n2)]):=by unfold WP;exact⟨t13,l7,_,rfl,zt13,zl7,AC Tt1 Tt2⟩
 have Tt14:WP (Nw H H25) (.ref t14) (.so [.at (.day fi (fi+e4)),.al [.at (.cau n1),.at (.thi n2)]]):=by unfold WP;exact⟨t14,l8,_,rfl,zt14,zl8,AC Tt4 Tt13⟩
 have Tt15:WP (Nw H H25) (.ref t15) (.no (.so [.at (.day fi (fi+e4)),.al [.at (.cau n1),.at (.thi n2)]])):=by unfold WP;exact⟨t15,_,rfl,zt15,Tt14⟩
 have om:0<=m/\m<=999999999999:=⟨m0,by lia⟩;have od:0<=fi/\fi<=fi+e4/\fi+e4<=1000000:=⟨f0,by lia,by lia⟩;have K1:Eo Em (.at (.cau n1)):=by unfold Eo;exact o1
 have K2:Eo Em (.at (.thi n2)):=by unfold Eo;exact o2
 have K3:Eo Em (.at (.ovr m)):=by unfold Eo;exact om
 have K4:Eo Em (.at (.day fi (fi+e4))):=by unfold Eo;exact od
 refine (vE rfl (vF rfl rfl ⟨(by show (0:Int)<12;decide),_,_,rfl,rfl,_,rfl,?_⟩));have m12:=md (a:=c) (b:=12) (by decide);by_cases c2:c%12>2
 .refine dT c2 ⟨_,rfl,_,rfl,_,_,rfl,rfl,(by show (0:Int)<12;decide),_,_,rfl,rfl,?_⟩
  have cs:c%12-3=0\/c%12-3=1\/c%12-3=2\/c%12-3=3\/c%12-3=4\/c%12-3=5\/c%12-3=6\/c%12-3=7\/c%12-3=8:=by lia
  rcases cs with e|e|e|e|e|e|e|e|e
  .refine⟨l1,_,_,.ref t1,rfl,rfl,WL.of hl1,(show Nx _ (c%12-3)=_ by rw[e];rfl),q _ _ _ a25 Tt1 (Ju K1 (by simp [Ef,sizesT,Dz]) (by first|(simp [Cq,deepsT,Dz];done)|(simp [Cq,deepsT,Dz];decide)) (by simp [Ki,hgts])) (by simp [Ki,hgts])⟩
  .refine⟨l1,_,_,.ref t2,rfl,rfl,WL.of hl1,(show Nx _ (c%12-3)=_ by rw[e];rfl),q _ _ _ a25 Tt2 (Ju K2 (by simp [Ef,sizesT,Dz]) (by first|(simp [Cq,deepsT,Dz];done)|(simp [Cq,deepsT,Dz];decide)) (by simp [Ki,hgts])) (by simp [Ki,hgts])⟩
  .refine⟨l1,_,_,.ref t3,rfl,rfl,WL.of hl1,(show Nx _ (c%12-3)=_ by rw[e];rfl),q _ _ _ a25 Tt3 (Ju K3 (by simp [Ef,sizesT,Dz]) (by first|(simp [Cq,deepsT,Dz];done)|(simp [Cq,deepsT,Dz];decide)) (by simp [Ki,hgts])) (by simp [Ki,hgts])⟩
  .refine⟨l1,_,_,.ref t4,rfl,rfl,WL.of hl1,(show Nx _ (c%12-3)=_ by rw[e];rfl),q _ _ _ a25 Tt4 (Ju K4 (by simp [Ef,sizesT,Dz]) (by first|(simp [Cq,deepsT,Dz];done)|(simp [Cq,deepsT,Dz];decide)) (by simp [Ki,hgts])) (by simp [Ki,hgts])⟩
  .refine⟨l1,_,_,.ref t5,rfl,rfl,WL.of hl1,(show Nx _ (c%12-3)=_ by rw[e];rfl),q _ _ _ a25 Tt5 (Ju (K5 K1) (by simp [Ef,sizesT,Dz]) (by first|(simp [Cq,deepsT,Dz];done)|(simp [Cq,deepsT,Dz];decide)) (by simp [Ki,hgts])) (by simp [Ki,hgts])⟩
  .refine⟨l1,_,_,.ref t7,rfl,rfl,WL.of hl1,(show Nx _ (c%12-3)=_ by rw[e];rfl),q _ _ _ a25 Tt7 (Ju (Vl (K5 K3) K2) (by simp [Ef,sizesT,Dz]) (by first|(simp [Cq,deepsT,Dz];done)|(simp [Cq,deepsT,Dz];decide)) (by simp [Ki,hgts])) (by simp [Ki,hgts])⟩
  .refine⟨l1,_,_,.ref t8,rfl,rfl,WL.of hl1,(show Nx _ (c%12-3)=_ by rw[e];rfl),q _ _ _ a25 Tt8 (Ju (LG K1 K2 K3) (by simp [Ef,sizesT,Dz]) (by first|(simp [Cq,deepsT,Dz];done)|(simp [Cq,deepsT,Dz];decide)) (by simp [Ki,hgts])) (by simp [Ki,hgts])⟩
  .refine⟨l1,_,_,.ref t12,rfl,rfl,WL.of hl1,(show Nx _ (c%12-3)=_ by rw[e];rfl),q _ _ _ a25 Tt12 (Ju (Vl (BQ K1 K2) (K5 (Vl K3 K2))) (by simp [Ef,sizesT,Dz]) (by first|(simp [Cq,deepsT,Dz];done)|(simp [Cq,deepsT,Dz];decide)) (by simp [Ki,hgts])) (by simp [Ki,hgts])⟩
  .refine⟨l1,_,_,.ref t15,rfl,rfl,WL.of hl1,(show Nx _ (c%12-3)=_ by rw[e];rfl),q _ _ _ a25 Tt15 (Ju (K5 (BQ K4 (Vl K1 K2))) (by simp [Ef,sizesT,Dz]) (by first|(simp [Cq,deepsT,Dz];done)|(simp [Cq,deepsT,Dz];decide)) (by simp [Ki,hgts])) (by simp [Ki,hgts])⟩
 .subst eN
  refine dF c2 ⟨one,λt nt=>?_⟩;refine q _ (.at .alw) _ (a25.trans (Ap nt _)) (by unfold WP;exact⟨t,rfl,Nw.of (a25.free nt) Ac⟩) (Ju (by unfold Eo;trivial) (by simp [Ef,sizesT,Dz]) (by first|(simp [Cq,deepsT,Dz];done)|(simp [Cq,deepsT,Dz];decide)) (by simp [Ki,hgts])) (by simp [Ki])
end
theorem Sb (z:Str):∀ {a b:List Str},a≠[]->b≠[]->Str.join z (a++b)=Str.join z a++z++Str.join z b
 |[],_,h,_=>absurd rfl h
 |[x],b,_,h=>Kp z x h
 |x::y::a,b,_,h=>by
  show Str.join z (x::y::(a++b))=_;rw[Km z x y (a++b),Km z x y a];have ih:=Sb z (a:=y::a) (b:=b) (by simp) h;rw[zAZ] at ih;rw[ih,<- Ex,<- Ex]
theorem Ze (b:Str):∀ {wss:List (List Str)} {ws:List Str},ws≠[]->(∀ x∈wss,x≠[])->Str.join (Str.ofString " "++b++Str.ofString " ") (Str.join (Str.ofString " ") ws::wss.map (Str.join (Str.ofString " ")))=Str.join (Str.ofString " ") (ws++Cr b wss)
 |[],ws,_,_=>by
  show Str.join (Str.ofString " ") ws=Str.join (Str.ofString " ") (ws++[]);rw[zAI]
 |v::wss,ws,h,hs=>by
  have ih:=Ze b (wss:=wss) (ws:=v) (hs v (by simp)) λx hx=>hs x (by simp [hx]);rw[zAv,Km,ih,Cr];rw[Sb _ h (by simp),Kp _ b (λz=>by have:=hs v (by simp);simp [this] at z)];simp only [<- Ex]
def FZ (b:Str) {wss:List (List Str)} (h:wss≠[]) (hs:∀ x∈wss,x≠[]):Str.join (Str.ofString " "++b++Str.ofString " ") (wss.map (Str.join (Str.ofString " ")))=Str.join (Str.ofString " ") (Dd b wss):=by
 cases wss with
 |nil=>exact absurd rfl h
 |cons w ws=>
  rw[zAv,Ze b (hs w (by simp)) λx hx=>hs x (by simp [hx]),Dd]
def L9 {t:Dw} {k:Int} (h:Eo Em t):∀ w∈Jn Bi k t,BH w:=by
 intro w hw;unfold Jn at hw
 split at hw
 .rcases zAj.mp hw with rfl|hw
  .exact⟨by ac_nf,by ac_nf⟩
  rcases zAF.mp hw with hw|hw
  .exact Lx h w hw
  .rw[zAp.mp hw];exact⟨by ac_nf,by ac_nf⟩
 .exact Lx h w hw
def Kn {ws:List Str} (h:∀ w∈ws,BH w) (l:ws.length<=60):(Str.join (Str.ofString " ") ws).length<=6060:=by
 have jl:=Iu (z:=Str.ofString " ") (B:=100) (ps:=ws) λy hy=>(h y hy).2;have e1:(Str.ofString " ").length=1:=by ac_nf
 rw[e1] at jl;have jl2:ws.length*(100+1)<=60*(100+1):=zBt _ l
 lia
def F3 {ws:List Str} (h:1<=ws.length):ws≠[]:=λz=>by rw[z] at h;simp at h
def Df (a b:Str):(a++b).length=a.length+b.length:=by
 show (a.cps++b.cps).size=_;rw[Array.size_append];rfl
inductive NO (m:Nat) (vs:List V) (H:Hp) (Q:VK):Prop
 |mk (v:_) (t:_) (z0:vs=[v]) (z1:WP H v t) (z2:Ki t<m) (z3:Eo Em t) (z4:(Bo Bi t).length<=60) (z5:∀ H',WJ H H'->Q (.str (Str.join (Str.ofString " ") (Bo Bi t))) H'):NO m vs H Q
def Z5 (m:Nat):Sp:=λvs H Q _=>NO m vs H Q
inductive MR (m:Nat) (vs:List V) (H:Hp) (Q:VK):Prop
 |mk (v:_) (t:_) (k:Int) (z0:vs=[v,.int k]) (z1:WP H v t) (z2:Ki t<m) (z3:Eo Em t) (z4:(Jn Bi k t).length<=60) (z5:∀ H',WJ H H'->Q (.str (Str.join (Str.ofString " ") (Jn Bi k t))) H'):MR m vs H Q
def NT (m:Nat):Sp:=λvs H Q _=>MR m vs H Q
def QT {vs:List V} {H:Hp} {Q:VK} {E:XK} (h:Z5 0 vs H Q E):False:=by
 obtain⟨_,_,_,_,h,_⟩:=h;exact absurd h (zBA _)
def DC (t:Dw):(Vv (Qf [] [(Sum.inr "some",V.int 1),(Sum.inr "all",V.int 2)]) (Sum.inr (OV t))).getD (V.int 3)=.int (Dz t):=by
 cases t with
 |«at» c=>cases c <;> rfl
 |_=>rfl
section
seal L2.PS L2.PSs L2.PE L2.PA
variable {P:Program} {w:World} {K:zAb} {mg:Str->Option Value} {base:Heap}
def Yc:Bc ["_law_cents_here"] ["_law_cents_here"] (Av Lk):=by injections
def Yk {f:Addr} {fd:zCh} (F:WV K "_law_money" "_law_money" Lk f fd) (T:Txt K mg):WN P w K mg base Do 1 f fd ["_law_cents_here"] Jx:=by
 have sc:=Yc;bv_omega
 .obtain⟨_,rfl,_⟩:=h
  rfl
 obtain⟨n,rfl,hn,q⟩:=h;refine⟨_,(Aj (Bh (Be Bw (Be Bw (Be Bw (Ck Dh rfl T.n_str (show zCg _=some (.type "str") from rfl) (Aa (Be Cm (pv 0) Ar) Ag)) Bg) (Ck Dh rfl T.n_str (show zCg _=some (.type "str") from rfl) (Aa (Be Cn (Be Cm (pv 0) Ar) Ar) Ag))) (Ck Dh rfl T.n_str (show zCg _=some (.type "str") from rfl) (Aa (Be Cn (pv 0) Ar) Ag))))),?_⟩;have e1:(n:Int)/100=((n/100:Nat):Int):=by lia
 have e2:(n:Int)/10%10=((n/10%10:Nat):Int):=by lia
 have e3:(n:Int)%10=((n%10:Nat):Int):=by lia
 have ed:(Str.ofString ".")=tx [46]:=by ac_nf
 have ew:((toString ((n:Int)/100):String):Str)=tx (Ce (n/100)):=by rw[e1,Fl]
 have ex:((toString ((n:Int)/10%10):String):Str)=tx [48+n/10%10]:=by rw[e2,Oa (zBm _ (by decide))]
 have ey:((toString ((n:Int)%10):String):Str)=tx [48+n%10]:=by rw[e3,Oa (zBm _ (by decide))]
 have lw:(Ce (n/100)).length<=60:=Dk (by decide) (by lia);have hl:=zCf;refine⟨_,rfl,_,_,rfl,rfl,⟨by decide,by decide⟩,_,rfl,Eb (by lia) (by lia),_,_,rfl,rfl,?_,?_⟩
 .rw[ew,ed,Ci,Ci];show _+1<=_;lia
 refine⟨_,rfl,_,_,rfl,rfl,⟨by decide,by decide⟩,_,_,rfl,rfl,(by show (0:Int)<10;decide),_,rfl,Eb (by lia) (by lia),_,_,rfl,rfl,?_,?_⟩
 .rw[ew,ed,ex,Fc,Ci,Ci,zAc];show _+1+1<=_;lia
 refine⟨_,rfl,_,_,rfl,rfl,(by show (0:Int)<10;decide),_,rfl,Eb (by lia) (by lia),_,_,rfl,rfl,?_,?_⟩
 .rw[ew,ed,ex,ey,Fc,Fc,Ci,Ci,zAc,zAc];show _+1+1+1<=_;lia
 .show Q _ H
  rw[ew,ed,ex,ey,Fc,Fc,Fc,zAA,zAA];exact q
def Rg:Bc ["_law_cond_here","_law_least"] ["_law_cond_here","_law_least"] (Av Hq):=by injections
def Rc {f:Addr} {fd:zCh} (F:WV K "_law_bracketed" "_law_bracketed" Hq f fd) {m:Nat} (C_law_text:Cy P w K mg base (2*m+1) "_law_text" ["_law_cond_here"] (Z5 m)):WN P w K mg base Do (2*m+1+1) f fd ["_law_cond_here","_law_least"] (NT m):=by
 have sc:=Rg;bv_omega
 .obtain⟨_,_,_,rfl,_⟩:=h
  rfl
 obtain⟨v,t,k,rfl,ht,hg,ok,hm,q⟩:=h;have hu2:=SN hr;obtain⟨p,xs,rfl,hp⟩:=ht.tag;refine⟨_,(Ai (Bu (Bf Mb (GT hu2 (KQ (N9 Bg Ar (N9 Bg Ar KO)) rfl rfl (by simp) (by decide)) (Cc Gz (pv 0) Ar (λ_ _=>rfl)) Ar ⟨rfl,rfl,rfl,rfl⟩) (pv 1) (Bk _))
    (Aj (Bh (Be Bw (Be Bw Bg (Az C_law_text (hr.mono (by lia)) rfl (Aa (pv 0) Ag))) Bg)))
    Bj)
   (Aj (Bh (Az C_law_text (hr.mono (by lia)) rfl (Aa (pv 0) Ag))))),?_⟩
 refine λd hd=>?_;refine⟨Ac,[(Sum.inr "some",V.int 1),(Sum.inr "all",V.int 2)],rfl,by decide,d,rfl,.inl ⟨_,.inl Ac⟩,?_⟩;have s2:WJ H (upd (upd H d (.dK [])) d (.dK (Qf [] [(Sum.inr "some",V.int 1),(Sum.inr "all",V.int 2)]))):=λb o e=>by
  have n:=Ak e hd;rw[Au n,Au n];exact e
 have hq:∀ {Hx:Hp},WJ H Hx->WP Hx (.ref p) t:=λs=>WP.same s t ht;refine⟨_,rfl,p,_,_,_,rfl,rfl,WX.of (s2 _ _ hp),at0 _ _,_,YE.k (k:=Sum.inr (OV t)) Ac,?_⟩;rw[DC t];have lw:=Lx ok;refine⟨_,rfl,_,_,rfl,rfl,_,rfl,DX (λc=>?_) (λc=>?_)⟩
 .have c:=of_decide_eq_true c
  have ei:Jn Bi k t=Str.ofString "(" :: (Bo Bi t++[Str.ofString ")"]):=if_pos c;rw[ei] at q hm;have hm':(Bo Bi t).length+2<=60:=by rw[zAe,zAc,zAX] at hm;lia
  refine⟨_,rfl,.ref p,t,rfl,hq s2,hg,ok,by lia,λH2 s3=>?_⟩;have l2:=Kn lw (by lia:(Bo Bi t).length<=60);have e2:(Str.ofString "( ").length=2:=by ac_nf
  have e3:(Str.ofString " )").length=2:=by ac_nf
  refine⟨_,_,rfl,rfl,by rw[e2,zCf];lia,_,_,rfl,rfl,?_,?_⟩
  .rw[Df,e2,e3,zCf];lia
  .have e4:Str.ofString "( "=Str.ofString "("++Str.ofString " ":=by ac_nf
   have e5:Str.ofString " )"=Str.ofString " "++Str.ofString ")":=by ac_nf
   have l1:=Jj ok;have ej:Str.join (Str.ofString " ") (Str.ofString "(" :: (Bo Bi t++[Str.ofString ")"]))=Str.ofString "( "++Str.join (Str.ofString " ") (Bo Bi t)++Str.ofString " )":=by
    rw[Kp _ _ (by simp),Sb _ (F3 l1) (by simp),e4,e5,<- Ex,<- Ex,<- Ex];rfl
   rw[<- ej];exact q _ (s2.trans s3)
 .have c:=λz=>c (decide_eq_true z)
  have ei:Jn Bi k t=Bo Bi t:=if_neg c;rw[ei] at q hm;exact⟨_,rfl,.ref p,t,rfl,hq s2,hg,ok,hm,λH2 s3=>q _ (s2.trans s3)⟩
def JR (a b:Nat):Str.ofString "days "++tx (Ce a)++Str.ofString " "++tx (Ce b)=Str.join (Str.ofString " ") [Str.ofString "days",tx (Ce a),tx (Ce b)]:=by
 have e:Str.ofString "days "=Str.ofString "days"++Str.ofString " ":=by ac_nf
 rw[Km,Km,e,<- Ex];simp only [<- Ex];rfl
def Z9 {k1:Str} (k:Str) (e:k1=k++Str.ofString " ") {ws:List Str} (h:ws≠[]):k1++Str.join (Str.ofString " ") ws=Str.join (Str.ofString " ") (k::ws):=by rw[Kp _ _ h,e]
def N2:Bc ["_law_cond_here"] ["_law_cond_here"] (Av Mg):=by injections
def L7 {f:Addr} {fd:zCh} (F:WV K "_law_text" "_law_text" Mg f fd) (T:Txt K mg) {m:Nat} (C_law_money:Cy P w K mg base 1 "_law_money" ["_law_cents_here"] Jx) (C_law_bracketed:Cy P w K mg base (2*m+1+1) "_law_bracketed" ["_law_cond_here","_law_least"] (NT m)):WN P w K mg base Do (2*m+1+1+1) f fd ["_law_cond_here"] (Z5 (m+1)):=by
 have sc:=N2;bv_omega
 .obtain⟨_,_,rfl,_⟩:=h
  rfl
 obtain⟨v,t,rfl,ht,hg,ok,l60,q⟩:=h;refine⟨_,(Ai (Bu (Bf Db (Cc Gz (pv 0) Ar (λ_ _=>rfl)) Bg (Bk _))
    (Aj (Bh (Be Bw Bg (Az C_law_money (hr.mono (by lia)) rfl (Aa (Cc Gz (pv 0) Ar (λ_ _=>rfl)) Ag)))))
    Bj)
   (Ai (Bu (Bf Db (Cc Gz (pv 0) Ar (λ_ _=>rfl)) Bg (Bk _))
    (Aj (Bh (Be Bw (Be Bw (Be Bw Bg (Ck Dh rfl T.n_str (show zCg _=some (.type "str") from rfl) (Aa (Cc Gz (pv 0) Ar (λ_ _=>rfl)) Ag))) Bg) (Ck Dh rfl T.n_str (show zCg _=some (.type "str") from rfl) (Aa (Cc Gz (pv 0) Ar (λ_ _=>rfl)) Ag)))))
    Bj)
   (Ai (Bu (Bf Db (Cc Gz (pv 0) Ar (λ_ _=>rfl)) Bg (Bk _))
    (Aj (Bh (Be Bw Bg (Az C_law_bracketed (hr.mono (by lia)) rfl (Aa (Cc Gz (pv 0) Ar (λ_ _=>rfl)) (Aa Ar Ag))))))
    Bj)
   (Ai (Bu (Bf Db (Cc Gz (pv 0) Ar (λ_ _=>rfl)) Bg (Bk _))
    (Aj (Bh (Ka (K:=K) rfl PySem.F.plainAttrs_str PySem.F.slot_str_join PySem.F.type_str_join (Xm (K:=K) rfl) Bg (Aa (Eh (NC:=["_law_part"]) (own:=["_law_part"]) (cs:=[]) (ix:=[]) rfl (WO.of rfl) rfl trivial (Dg (Cc Gz (pv 0) Ar (λ_ _=>rfl))) (λ_ _ _=>(Bl (i:=0) (show (["_law_part"]:List Str).Nodup from by ac_nf) rfl (Or.inl rfl))) (λ_ _ _=>Dq) (λ_ _ _=>(Az C_law_bracketed (hr.mono (by lia)) rfl (Aa (pv 0) (Aa Ar Ag))))) Ag))))
    Bj)
   (Ai (Bu (Bf Db (Cc Gz (pv 0) Ar (λ_ _=>rfl)) Bg (Bk _))
    (Aj (Bh (Ka (K:=K) rfl PySem.F.plainAttrs_str PySem.F.slot_str_join PySem.F.type_str_join (Xm (K:=K) rfl) Bg (Aa (Eh (NC:=["_law_part"]) (own:=["_law_part"]) (cs:=[]) (ix:=[]) rfl (WO.of rfl) rfl trivial (Dg (Cc Gz (pv 0) Ar (λ_ _=>rfl))) (λ_ _ _=>(Bl (i:=0) (show (["_law_part"]:List Str).Nodup from by ac_nf) rfl (Or.inl rfl))) (λ_ _ _=>Dq) (λ_ _ _=>(Az C_law_bracketed (hr.mono (by lia)) rfl (Aa (pv 0) (Aa Ar Ag))))) Ag))))
    Bj)
   (Aj (Bh (Ka (K:=K) rfl PySem.F.plainAttrs_str PySem.F.slot_str_join PySem.F.type_str_join (Xm (K:=K) rfl) Bg (Aa (pv 0) Ag))))))))),?_⟩
 have sne:∀ {y z:Str},y≠z->¬ V.str y=V.str z:=λh e=>h (V.str.inj e);have l1:=Jj ok;have lw:=Lx ok;cases t with
 |«at» c=>
  rw[Gi] at q l60 l1 lw;cases c with
  |alw=>
   unfold WP at ht;obtain⟨p,rfl,hp⟩:=ht;refine⟨_,rfl,p,_,_,_,rfl,rfl,WX.of hp,at0 _ _,rfl,_,rfl,dF (sne (by ac_nf)) ?_⟩;refine⟨_,rfl,p,_,_,_,rfl,rfl,WX.of hp,at0 _ _,rfl,_,rfl,dF (sne (by ac_nf)) ?_⟩;refine⟨_,rfl,p,_,_,_,rfl,rfl,WX.of hp,at0 _ _,rfl,_,rfl,dF (sne (by ac_nf)) ?_⟩;refine⟨_,rfl,p,_,_,_,rfl,rfl,WX.of hp,at0 _ _,rfl,_,rfl,dF (sne (by ac_nf)) ?_⟩;refine⟨_,rfl,p,_,_,_,rfl,rfl,WX.of hp,at0 _ _,rfl,_,rfl,dF (sne (by ac_nf)) ?_⟩;exact⟨rfl,_,rfl,_,p,Bi .alw,rfl,rfl,.inr (WX.of hp),l1,by lia,by ac_nf,λy hy=>by have:=(lw y hy).2;lia,q _ (WJ.refl _)⟩
  |cau n=>
   unfold WP at ht;obtain⟨p,rfl,hp⟩:=ht;refine⟨_,rfl,p,_,_,_,rfl,rfl,WX.of hp,at0 _ _,rfl,_,rfl,dF (sne (by ac_nf)) ?_⟩;refine⟨_,rfl,p,_,_,_,rfl,rfl,WX.of hp,at0 _ _,rfl,_,rfl,dF (sne (by ac_nf)) ?_⟩;refine⟨_,rfl,p,_,_,_,rfl,rfl,WX.of hp,at0 _ _,rfl,_,rfl,dF (sne (by ac_nf)) ?_⟩;refine⟨_,rfl,p,_,_,_,rfl,rfl,WX.of hp,at0 _ _,rfl,_,rfl,dF (sne (by ac_nf)) ?_⟩;refine⟨_,rfl,p,_,_,_,rfl,rfl,WX.of hp,at0 _ _,rfl,_,rfl,dF (sne (by ac_nf)) ?_⟩;exact⟨rfl,_,rfl,_,p,Bi (.cau n),rfl,rfl,.inr (WX.of hp),l1,by lia,by ac_nf,λy hy=>by have:=(lw y hy).2;lia,q _ (WJ.refl _)⟩
  |thi n=>
   unfold WP at ht;obtain⟨p,rfl,hp⟩:=ht;refine⟨_,rfl,p,_,_,_,rfl,rfl,WX.of hp,at0 _ _,rfl,_,rfl,dF (sne (by ac_nf)) ?_⟩;refine⟨_,rfl,p,_,_,_,rfl,rfl,WX.of hp,at0 _ _,rfl,_,rfl,dF (sne (by ac_nf)) ?_⟩;refine⟨_,rfl,p,_,_,_,rfl,rfl,WX.of hp,at0 _ _,rfl,_,rfl,dF (sne (by ac_nf)) ?_⟩;refine⟨_,rfl,p,_,_,_,rfl,rfl,WX.of hp,at0 _ _,rfl,_,rfl,dF (sne (by ac_nf)) ?_⟩;refine⟨_,rfl,p,_,_,_,rfl,rfl,WX.of hp,at0 _ _,rfl,_,rfl,dF (sne (by ac_nf)) ?_⟩;exact⟨rfl,_,rfl,_,p,Bi (.thi n),rfl,rfl,.inr (WX.of hp),l1,by lia,by ac_nf,λy hy=>by have:=(lw y hy).2;lia,q _ (WJ.refl _)⟩
  |day a b=>
   unfold WP at ht;obtain⟨p,rfl,hp⟩:=ht;unfold Eo at ok;obtain⟨a0,ab,b1⟩:=ok;have ea:((toString a:String):Str)=tx (Ce a.toNat):=by rw[<- Fl];congr 2;lia
   have eb:((toString b:String):Str)=tx (Ce b.toNat):=by rw[<- Fl];congr 2;lia
   have la:(Ce a.toNat).length<=7:=Dk (by decide) (by lia);have lb:(Ce b.toNat).length<=7:=Dk (by decide) (by lia);have e5:(Str.ofString "days ").length=5:=by ac_nf
   have e6:(Str.ofString " ").length=1:=by ac_nf
   refine⟨_,rfl,p,_,_,_,rfl,rfl,WX.of hp,at0 _ _,rfl,_,rfl,dF (sne (by ac_nf)) ?_⟩;refine⟨_,rfl,p,_,_,_,rfl,rfl,WX.of hp,at0 _ _,rfl,_,rfl,dT rfl ?_⟩;refine⟨_,rfl,p,_,_,_,rfl,rfl,WX.of hp,rfl,_,rfl,Eb a0 (by lia),_,_,rfl,rfl,?_,_,_,rfl,rfl,?_,?_⟩
   .rw[ea,e5,Ci,zCf];lia
   .rw[ea,Df,e5,e6,Ci,zCf];lia
   refine⟨_,rfl,p,_,_,_,rfl,rfl,WX.of hp,rfl,_,rfl,Eb (by lia) (by lia),_,_,rfl,rfl,?_,?_⟩
   .rw[ea,eb,Df,Df,e5,e6,Ci,Ci,zCf];lia
   rw[ea,eb,JR];exact q _ (WJ.refl _)
  |ovr n=>
   unfold WP at ht;obtain⟨p,rfl,hp⟩:=ht;unfold Eo at ok;obtain⟨m0,m1⟩:=ok;have e5:(Str.ofString "over ").length=5:=by ac_nf
   refine⟨_,rfl,p,_,_,_,rfl,rfl,WX.of hp,at0 _ _,rfl,_,rfl,dT rfl ?_⟩;have en:[V.int n]=[.int (n.toNat:Nat)]:=by congr 2;lia
   have nb:n.toNat<10^60:=zAE (show n.toNat<10^13 by lia) (zBN (by decide) (by decide));have l10:(Ce (n.toNat/100)).length<=10:=Dk (by decide) (by lia);refine⟨_,rfl,p,_,_,_,rfl,rfl,WX.of hp,rfl,n.toNat,en,nb,_,_,rfl,rfl,?_,?_⟩
   .rw[e5,Ci,Ko,zCf];lia
   .have:=Z9 (Str.ofString "over") (k1:=Str.ofString "over ") (by ac_nf) (ws:=[tx (Dn n.toNat)]) (by simp)
    have e1:Str.join (Str.ofString " ") [tx (Dn n.toNat)]=tx (Dn n.toNat):=rfl;rw[e1] at this;rw[this];exact q _ (WJ.refl _)
 |no t=>
  rw[Tl] at q l60;unfold WP at ht;obtain⟨p,u,rfl,hp,hu⟩:=ht;unfold Eo at ok;unfold Ki at hg;have e4:(Str.ofString "not ").length=4:=by ac_nf
  have l59:(Jn Bi 3 t).length<=60:=by rw[zAe] at l60;lia
  refine⟨_,rfl,p,_,_,_,rfl,rfl,WX.of hp,at0 _ _,rfl,_,rfl,dF (sne (by ac_nf)) ?_⟩;refine⟨_,rfl,p,_,_,_,rfl,rfl,WX.of hp,at0 _ _,rfl,_,rfl,dF (sne (by ac_nf)) ?_⟩;refine⟨_,rfl,p,_,_,_,rfl,rfl,WX.of hp,at0 _ _,rfl,_,rfl,dT rfl ?_⟩;refine⟨_,rfl,p,_,_,_,rfl,rfl,WX.of hp,rfl,u,t,3,rfl,hu,by lia,ok,l59,λH2 s2=>?_⟩;have le:=Kn (L9 (k:=3) ok) l59;refine⟨_,_,rfl,rfl,by rw[e4,zCf];lia,?_⟩;rw[Z9 (Str.ofString "not") (by ac_nf) (F3 (Po ok 3))];exact q _ s2
 |al ts=>
  rw[Tt] at q l60;unfold WP at ht;obtain⟨p,l,us,rfl,hp,hl,hu⟩:=ht;unfold Eo at ok;unfold Ki at hg;obtain⟨k2,k8,okts⟩:=ok;have hlen:=hu.len;refine⟨_,rfl,p,_,_,_,rfl,rfl,WX.of hp,at0 _ _,rfl,_,rfl,dF (sne (by ac_nf)) ?_⟩;refine⟨_,rfl,p,_,_,_,rfl,rfl,WX.of hp,at0 _ _,rfl,_,rfl,dF (sne (by ac_nf)) ?_⟩;refine⟨_,rfl,p,_,_,_,rfl,rfl,WX.of hp,at0 _ _,rfl,_,rfl,dF (sne (by ac_nf)) ?_⟩;refine⟨_,rfl,p,_,_,_,rfl,rfl,WX.of hp,at0 _ _,rfl,_,rfl,dT rfl ?_⟩;refine⟨rfl,_,rfl,p,_,_,_,rfl,rfl,WX.of hp,rfl,l,rfl,⟨_,WL.of hl⟩,λb nb=>?_⟩;refine De (K:=K) (a:=l) (xs:=us) (λi ys H3=>ys=((ts.take i).map (λt=>Str.join (Str.ofString " ") (Jn Bi 3 t))).map V.str/\H3 b=some (.lst ys)/\WJ H H3) ⟨rfl,Ac,Ap nb _⟩
   (λi ys H3 _ ⟨e,h1,s3⟩=>⟨h1,by rw[e,zAa,zAa,zAw];lia,WL.of (s3 _ _ hl)⟩) (by rw[hlen,zCf];lia) (λi x ys H3 hi ⟨e,h1,s3⟩=>?_) (λys H3 ⟨e,h1,s3⟩=>?_)
  .obtain⟨t,et,tr⟩:=hu.get hi
   have mt:t∈ts:=zAs et;have l59:(Jn Bi 3 t).length<=60:=zAD (Gu (Str.ofString "and") (zAz.mpr ⟨t,mt,rfl⟩)) l60;refine⟨_,rfl,x,t,3,rfl,WP.same s3 t tr,C3 (by lia) i et,Hc okts t mt,l59,λH4 s4=>⟨s4 _ _ h1,rfl,?_,Ac,λc o z=>?_⟩⟩
   .rw[Bv et,zAf,zAf,e]
    rfl
   .rw[Au (Ak z nb)]
    exact s4 _ _ (s3 _ _ z)
  rw[hlen,zAt] at e;subst e;have ea:Str.ofString " and "=Str.ofString " "++Str.ofString "and"++Str.ofString " ":=by ac_nf
  have ej:=FZ (Str.ofString "and") (wss:=ts.map (Jn Bi 3)) (λz=>by rw[List.map_eq_nil_iff] at z;rw[z] at k2;simp at k2) (λx hx=>by obtain⟨t,mt,rfl⟩:=zAz.mp hx;exact F3 (Po (Hc okts t mt) 3));rw[zBk] at ej;refine⟨_,b,ts.map (λt=>Str.join (Str.ofString " ") (Jn Bi 3 t)),rfl,rfl,.inl (WL.of h1),by rw[zAa];lia,by rw[zAa];lia,by ac_nf,λy hy=>?_,?_⟩
  .obtain⟨t,mt,rfl⟩:=zAz.mp hy
   have l59:(Jn Bi 3 t).length<=60:=zAD (Gu (Str.ofString "and") (zAz.mpr ⟨t,mt,rfl⟩)) l60;have:=Kn (L9 (k:=3) (Hc okts t mt)) l59
   lia
  .have:Str.join (Str.ofString " and ") (ts.map (λt=>Str.join (Str.ofString " ") (Jn Bi 3 t)))=Str.join (Str.ofString " ") (Dd (Str.ofString "and") (ts.map (Jn Bi 3))):=by rw[ea];exact ej
   rw[this];exact q _ s3
 |so ts=>
  rw[Tu] at q l60;unfold WP at ht;obtain⟨p,l,us,rfl,hp,hl,hu⟩:=ht;unfold Eo at ok;unfold Ki at hg;obtain⟨k2,k8,okts⟩:=ok;have hlen:=hu.len;refine⟨_,rfl,p,_,_,_,rfl,rfl,WX.of hp,at0 _ _,rfl,_,rfl,dF (sne (by ac_nf)) ?_⟩;refine⟨_,rfl,p,_,_,_,rfl,rfl,WX.of hp,at0 _ _,rfl,_,rfl,dF (sne (by ac_nf)) ?_⟩;refine⟨_,rfl,p,_,_,_,rfl,rfl,WX.of hp,at0 _ _,rfl,_,rfl,dF (sne (by ac_nf)) ?_⟩;refine⟨_,rfl,p,_,_,_,rfl,rfl,WX.of hp,at0 _ _,rfl,_,rfl,dF (sne (by ac_nf)) ?_⟩;refine⟨_,rfl,p,_,_,_,rfl,rfl,WX.of hp,at0 _ _,rfl,_,rfl,dT rfl ?_⟩;refine⟨rfl,_,rfl,p,_,_,_,rfl,rfl,WX.of hp,rfl,l,rfl,⟨_,WL.of hl⟩,λb nb=>?_⟩;refine De (K:=K) (a:=l) (xs:=us) (λi ys H3=>ys=((ts.take i).map (λt=>Str.join (Str.ofString " ") (Jn Bi 2 t))).map V.str/\H3 b=some (.lst ys)/\WJ H H3) ⟨rfl,Ac,Ap nb _⟩
   (λi ys H3 _ ⟨e,h1,s3⟩=>⟨h1,by rw[e,zAa,zAa,zAw];lia,WL.of (s3 _ _ hl)⟩) (by rw[hlen,zCf];lia) (λi x ys H3 hi ⟨e,h1,s3⟩=>?_) (λys H3 ⟨e,h1,s3⟩=>?_)
  .obtain⟨t,et,tr⟩:=hu.get hi
   have mt:t∈ts:=zAs et;have l59:(Jn Bi 2 t).length<=60:=zAD (Gu (Str.ofString "or") (zAz.mpr ⟨t,mt,rfl⟩)) l60;refine⟨_,rfl,x,t,2,rfl,WP.same s3 t tr,C3 (by lia) i et,Hc okts t mt,l59,λH4 s4=>⟨s4 _ _ h1,rfl,?_,Ac,λc o z=>?_⟩⟩
   .rw[Bv et,zAf,zAf,e]
    rfl
   .rw[Au (Ak z nb)]
    exact s4 _ _ (s3 _ _ z)
  rw[hlen,zAt] at e;subst e;have ea:Str.ofString " or "=Str.ofString " "++Str.ofString "or"++Str.ofString " ":=by ac_nf
  have ej:=FZ (Str.ofString "or") (wss:=ts.map (Jn Bi 2)) (λz=>by rw[List.map_eq_nil_iff] at z;rw[z] at k2;simp at k2) (λx hx=>by obtain⟨t,mt,rfl⟩:=zAz.mp hx;exact F3 (Po (Hc okts t mt) 2));rw[zBk] at ej;refine⟨_,b,ts.map (λt=>Str.join (Str.ofString " ") (Jn Bi 2 t)),rfl,rfl,.inl (WL.of h1),by rw[zAa];lia,by rw[zAa];lia,by ac_nf,λy hy=>?_,?_⟩
  .obtain⟨t,mt,rfl⟩:=zAz.mp hy
   have l59:(Jn Bi 2 t).length<=60:=zAD (Gu (Str.ofString "or") (zAz.mpr ⟨t,mt,rfl⟩)) l60;have:=Kn (L9 (k:=2) (Hc okts t mt)) l59
   lia
  .have:Str.join (Str.ofString " or ") (ts.map (λt=>Str.join (Str.ofString " ") (Jn Bi 2 t)))=Str.join (Str.ofString " ") (Dd (Str.ofString "or") (ts.map (Jn Bi 2))):=by rw[ea];exact ej
   rw[this];exact q _ s3
end
def RS {nx:St->Hp->Prop} {σ:St} {H:Hp} (σ':St) (e:σ=σ') (h:nx σ' H):nx σ H:=e▸h
def YK (G:Hp) (v:V) (c:Cl):Prop:=∃ t r,v=.ref t/\G t=some (.tup (SH r))/\BP r=c/\UN r
def YK.same {G G':Hp} {v:V} {c:Cl} (h:YK G v c) (s:WJ G G'):YK G' v c:=by
 obtain⟨t,r,e,h,k⟩:=h;exact⟨t,r,e,s _ _ h,k⟩
def OX {r:SQ} (h:UN r):R7 (BP r):=by
 obtain⟨wd,y,lo,hi⟩:=r;obtain⟨hw,wy,⟨m0,m1⟩,lay⟩:=h;have m0:0<=lo:=m0;have m1:lo<=120000000230:=m1;unfold BP;rcases hw with e|e|e
 .have e:wd="own":=e
  subst e;exact⟨wy,m0,by lia⟩
 .have e:wd="layer":=e
  subst e;obtain⟨l1,l2⟩:=lay rfl;have l1:lo<hi:=l1;have l2:hi<=240000000461:=l2;exact⟨wy,⟨m0,by lia⟩,⟨by lia,by lia⟩,l1⟩
 .have e:wd="limit":=e
  subst e;exact⟨wy,m0,by lia⟩
structure XO (G:Hp) (v:V) (d:LC):Prop where
 ex:∃ a tv cl hl cs xs,v=.ref a/\G a=some (.tup [.str d.nm,tv,.ref cl,.ref hl,.bl d.wt])/\WP G tv d.t/\G cl=some (.lst cs)/\XC (YK G) cs d.cl/\G hl=some (.lst xs)/\XF G xs (Sz d.hs)
def XO.same {G G':Hp} {v:V} {d:LC} (h:XO G v d) (s:WJ G G'):XO G' v d:=by
 obtain⟨a,tv,cl,hl,cs,xs,e,h1,h2,h3,h4,h5,h6⟩:=h;exact⟨a,tv,cl,hl,cs,xs,e,s _ _ h1,WP.same s _ h2,s _ _ h3,h4.imp λv c k=>k.same s,s _ _ h5,h6.mono (Fu s)⟩
structure S2 (d:LC):Prop where
 ok:QG d
 hg:Ki d.t<5
mutual
def So:Dw->List D
 |.at .alw=>[.at (.str "always")]
 |.at (.cau n)=>[.at (.str "cause"),.at (.str n)]
 |.at (.thi n)=>[.at (.str "thing"),.at (.str n)]
 |.at (.day a b)=>[.at (.str "days"),.at (.int a),.at (.int b)]
 |.at (.ovr m)=>[.at (.str "over"),.at (.int m)]
 |.no t=>[.at (.str "not"),.seq true (So t)]
 |.al ts=>[.at (.str "all"),.seq false (trLs ts)]
 |.so ts=>[.at (.str "some"),.seq false (trLs ts)]
def trLs:List Dw->List D
 |[]=>[]
 |t::ts=>.seq true (So t)::trLs ts
end
def WZ {K:zAb} {H:Hp} {v:V} (h:Ff v=true):Vj K H (.at v) v:=by unfold Vj;exact⟨rfl,h⟩
def En {K:zAb} {H:Hp}:Reps K H [] []:=by unfold Reps;rfl
def Cp {K:zAb} {H:Hp} {d:D} {v:V} {ds:List D} {vs:List V} (h:Vj K H d v) (g:Reps K H ds vs):Reps K H (d::ds) (v::vs):=by unfold Reps;exact⟨v,vs,rfl,h,g⟩
def Gy {K:zAb} {H:Hp} {a:Addr} {ds:List D} {xs:List V} (h:H a=some (.tup xs)) (g:Reps K H ds xs):Vj K H (.seq true ds) (.ref a):=by unfold Vj;exact⟨a,xs,rfl,λ_=>WX.of h,λz=>(by cases z),g⟩
def Ny {K:zAb} {H:Hp} {a:Addr} {ds:List D} {xs:List V} (h:H a=some (.lst xs)) (g:Reps K H ds xs):Vj K H (.seq false ds) (.ref a):=by unfold Vj;exact⟨a,xs,rfl,λz=>(by cases z),λ_=>WL.of h,g⟩
mutual
theorem E7 {K:zAb} {H:Hp}:∀ {v:V} (t:Dw),WP H v t->Vj K H (.seq true (So t)) v
 |v,.at .alw,h=>by unfold WP at h;obtain⟨p,rfl,h⟩:=h;unfold So;exact Gy h (Cp (WZ rfl) En)
 |v,.at (.cau n),h=>by unfold WP at h;obtain⟨p,rfl,h⟩:=h;unfold So;exact Gy h (Cp (WZ rfl) (Cp (WZ rfl) En))
 |v,.at (.thi n),h=>by unfold WP at h;obtain⟨p,rfl,h⟩:=h;unfold So;exact Gy h (Cp (WZ rfl) (Cp (WZ rfl) En))
 |v,.at (.day a b),h=>by unfold WP at h;obtain⟨p,rfl,h⟩:=h;unfold So;exact Gy h (Cp (WZ rfl) (Cp (WZ rfl) (Cp (WZ rfl) En)))
 |v,.at (.ovr m),h=>by unfold WP at h;obtain⟨p,rfl,h⟩:=h;unfold So;exact Gy h (Cp (WZ rfl) (Cp (WZ rfl) En))
 |v,.no t,h=>by unfold WP at h;obtain⟨p,u,rfl,h,g⟩:=h;unfold So;exact Gy h (Cp (WZ rfl) (Cp (E7 t g) En))
 |v,.al ts,h=>by unfold WP at h;obtain⟨p,l,us,rfl,h,g,k⟩:=h;unfold So;exact Gy h (Cp (WZ rfl) (Cp (Ny g (tr_reps ts k)) En))
 |v,.so ts,h=>by unfold WP at h;obtain⟨p,l,us,rfl,h,g,k⟩:=h;unfold So;exact Gy h (Cp (WZ rfl) (Cp (Ny g (tr_reps ts k)) En))
theorem tr_reps {K:zAb} {H:Hp}:∀ {vs:List V} (ts:List Dw),TrsAt H vs ts->Reps K H (trLs ts) vs
 |[],[],_=>by unfold trLs;exact En
 |v::vs,t::ts,h=>by unfold TrsAt at h;unfold trLs;exact Cp (E7 t h.1) (tr_reps ts h.2)
 |[],_::_,h=>by unfold TrsAt at h;exact h.elim
 |_::_,[],h=>by unfold TrsAt at h;exact h.elim
end
mutual
theorem L8:∀ t:Dw,deps (So t)<=2*Ki t
 |.at .alw=>by unfold So;simp [deps,V7]
 |.at (.cau n)=>by unfold So;simp [deps,V7]
 |.at (.thi n)=>by unfold So;simp [deps,V7]
 |.at (.day a b)=>by unfold So;simp [deps,V7]
 |.at (.ovr m)=>by unfold So;simp [deps,V7]
 |.no t=>by have:=L8 t;unfold So Ki;simp [deps,V7];lia
 |.al ts=>by have:=tr_deps ts;unfold So Ki;simp [deps,V7];lia
 |.so ts=>by have:=tr_deps ts;unfold So Ki;simp [deps,V7];lia
theorem tr_deps:∀ ts:List Dw,deps (trLs ts)<=2*hgts ts+1
 |[]=>by unfold trLs;simp [deps]
 |t::ts=>by have h1:=L8 t;have h2:=tr_deps ts;unfold trLs hgts;simp [deps,V7];lia
end
def GX (t:Dw):eqDs (So t) [.at (.str "always")]=Lz t:=by
 cases t with
 |«at» c=>
  cases c with
  |alw=>unfold So eqDs;unfold eqDs;simp [AQ,Sq,Lz]
  |_=>rw[Kq (by unfold So;simp)];rfl
 |_=>rw[Kq (by unfold So;simp)];rfl
def T2 (l:List (Str×Int)):List D:=l.map λx=>.seq true [.at (.str x.1),.at (.int x.2)]
theorem Rl {K:zAb} {H:Hp}:∀ {xs:List V} (l:List (Str×Int)),XF H xs (Sz l)->Reps K H (T2 l) xs
 |[],[],_=>En
 |[],_::_,h=>h.elim
 |_::_,[],h=>h.elim
 |x::xs,p::ps,⟨⟨t,e,h⟩,r⟩=>by subst e;exact Cp (Gy h (Cp (WZ rfl) (Cp (WZ rfl) En))) (Rl ps r)
def Vf (l:List (Str×Int)):deps (T2 l)<=1:=by
 induction l with
 |nil=>unfold T2;simp [deps]
 |cons a l ih=>show deps (.seq true [.at (.str a.1),.at (.int a.2)]::T2 l)<=1;unfold deps;simp [V7,deps];lia
def EZ (nm:Str) (l:List (Str×Int)):eqDs (T2 l) (T2 [(nm,1)])=decide (l=[(nm,1)]):=by
 match l with
 |[]=>unfold T2;simp [eqDs]
 |[(a,b)]=>
  unfold T2;simp only [zAv,zBy];unfold eqDs;unfold eqDs;unfold AQ;unfold eqDs;unfold AQ;unfold eqDs;unfold AQ;unfold eqDs;by_cases e1:a=nm <;> by_cases e2:b=1 <;> simp [Sq,e1,e2]
 |a::b::l=>rw[Kq (by unfold T2;simp)];simp
theorem Zx (z:Str):∀ {wss:List (List Str)},wss≠[]->(∀ x∈wss,x≠[])->Str.join z (wss.map (Str.join z))=Str.join z wss.flatten
 |[],h,_=>absurd rfl h
 |[w],_,_=>by simp [Str.join]
 |w::v::wss,_,h=>by
  have ih:=Zx z (wss:=v::wss) (by simp) λx hx=>h x (by simp [hx]);rw[zAv,zAv,Km,<- zAv,ih,zBv (L:=v::wss),Sb z (h w (by simp))];have:=h v (by simp);intro e;rw[zBv] at e;exact this (List.append_eq_nil_iff.mp e).1
def EV (x:Str×Int):Str:=x.1++Str.ofString " "++tx (Ce x.2.toNat)
def B6 {l:List (Str×Int)} (h:l≠[]):Str.ofString "share "++Str.join (Str.ofString " ") (l.map EV)=(WU.shr l).row:=by
 have e:l.map EV=(l.map λx=>[x.1,tx (Ce x.2.toNat)]).map (Str.join (Str.ofString " ")):=by rw[zBk];rfl
 rw[e,Zx _ (λz=>h (List.map_eq_nil_iff.mp z)) (λx hx=>by obtain⟨y,_,rfl⟩:=zAz.mp hx;simp)];have e2:(l.map λx=>[x.1,tx (Ce x.2.toNat)]).flatten=N5 l:=by unfold N5;rw[List.flatMap_def]
 rw[e2,Z9 (Str.ofString "share") (by ac_nf)]
 .rfl
 .intro z
  have:=Si l;rw[z] at this;exact h (List.length_eq_zero_iff.mp (by simp at this;lia))
def Sk {x:Str×Int} (h:Ew (.str x.1)=true) (h1:1<=x.2) (h2:x.2<=100):(EV x).length<=20:=by
 have a:=Fw h;have b:(Ce x.2.toNat).length<=3:=Dk (by decide) (by lia);have e1:(Str.ofString " ").length=1:=by ac_nf
 unfold EV;rw[Df,Df,e1,Ci]
 lia
inductive HP  (vs:List V) (H:Hp) (Q:VK):Prop
 |mk (v:_) (c:_) (z0:vs=[v]) (z1:YK H v c) (z2:Q (Br (.cls c)) H):HP  vs H Q
def N6:Sp:=λvs H Q _=>HP  vs H Q
inductive HC  (vs:List V) (H:Hp) (Q:VK):Prop
 |mk (v:_) (d:_) (z0:vs=[v]) (z1:XO H v d) (z2:S2 d) (z3:∀ l H',WJ H H'->H l=none->H' l=some (.lst ((Dm d).map Br))->Q (.ref l) H'):HC  vs H Q
def IH:Sp:=λvs H Q _=>HC  vs H Q
inductive HX  (vs:List V) (H:Hp) (Q:VK):Prop
 |mk (a:_) (xs:_) (ls:_) (z0:vs=[.ref a]) (z1:H a=some (.lst xs)) (z2:XC (XO H) xs ls) (z3:ls.length<=8) (z4:(∀ d∈ls,S2 d)) (z5:∀ l H',WJ H H'->H l=none->H' l=some (.lst ((ls.flatMap Dm).map Br))->Q (.ref l) H'):HX  vs H Q
def IP:Sp:=λvs H Q _=>HX  vs H Q
section
seal L2.PS L2.PSs L2.PE L2.PA
variable {P:Program} {w:World} {K:zAb} {mg:Str->Option Value} {base:Heap}
def Qk:Bc ["_law_clause","_law_word","_law_by","_law_low","_law_high","_law_row"] ["_law_clause"] (Av Go):=by injections
def Qc {f:Addr} {fd:zCh} (F:WV K "_law_clause_row" "_law_clause_row" Go f fd) (T:Txt K mg) (C_law_money:Cy P w K mg base 1 "_law_money" ["_law_cents_here"] Jx):WN P w K mg base Do 2 f fd ["_law_clause"] N6:=by
 have sc:=Qk;bv_omega
 .obtain⟨_,_,rfl,_⟩:=h
  rfl
 obtain⟨v,c,rfl,⟨t,⟨wd,y,lo,hi⟩,rfl,ht,ec,ok⟩,q⟩:=h;refine⟨_,(Ai (Wa (pv 0) (Js (n:=4) rfl (By (Bl (i:=1) sc.nd rfl (Or.inl rfl)) (By (Bl (i:=2) sc.nd rfl (Or.inl rfl)) (By (Bl (i:=3) sc.nd rfl (Or.inl rfl)) (By (Bl (i:=4) sc.nd rfl (Or.inl rfl)) Fz))))))
   (Ai (Bn (i:=5) sc.nd rfl (Or.inl rfl) (Be Bw (Be Bw (Be Bw (Be Bw (pv 1) Bg) (pv 2)) Bg) (Az C_law_money (hr.mono (by decide)) rfl (Aa (pv 3) Ag))))
   (Ai (Bu (Bf Db (pv 1) Bg (Bk _))
    (Aj (Bn (i:=5) sc.nd rfl (Or.inl rfl) (Be Bw (Be Bw (pv 5) Bg) (Az C_law_money (hr.mono (by decide)) rfl (Aa (pv 4) Ag)))))
    Bj)
   (Aj (Bh (pv 5)))))),?_⟩
 obtain⟨hw,wy,⟨m0,m1⟩,lay⟩:=ok;have m0:0<=lo:=m0;have m1:lo<=120000000230:=m1;have wy:Ma y:=wy;refine⟨_,rfl,t,_,rfl,WX.of ht,rfl,vC rfl (vC rfl (vC rfl (vC rfl ⟨rfl,?_⟩)))⟩;have ly:y.length<=5:=by rcases wy with rfl|rfl|rfl|rfl <;> decide +kernel
 have lw:wd.length<=5:=by rcases hw with e|e|e <;> (have e:wd=_:=e;rw[e];decide +kernel)
 have e1:(Str.ofString " ").length=1:=by ac_nf
 have en:[V.int lo]=[.int (lo.toNat:Nat)]:=by congr 2;lia
 have big:∀ {n:Int},n<=999999999999->n.toNat<10^60:=λh=>zAE (show _<10^13 by lia) (zBN (by decide) (by decide));have l10:∀ {n:Int},n<=999999999999->(Dn n.toNat).length<=13:=λ{n} h=>by
  rw[Ko];have:(Ce (n.toNat/100)).length<=10:=Dk (by decide) (by lia)
  lia
 have l1:=l10 (show lo<=999999999999 by lia);refine RS [some (.ref t),some (.str wd),some (.str y),some (.int lo),some (.int hi),none] rfl ?_;refine⟨_,rfl,_,_,rfl,rfl,by rw[e1,zCf];lia,_,rfl,_,_,rfl,rfl,by rw[Df,e1,zCf];lia,_,_,rfl,rfl,by rw[Df,Df,e1,zCf];lia,_,rfl,lo.toNat,en,big (by lia),_,_,rfl,rfl,?_,?_⟩
 .rw[Df,Df,Df,e1,Ci,zCf];lia
 refine Hu [some (.ref t),some (.str wd),some (.str y),some (.int lo),some (.int hi),some (.str (wd++Str.ofString " "++y++Str.ofString " "++tx (Dn lo.toNat)))] rfl ?_;have sne:∀ {y z:Str},y≠z->¬ V.str y=V.str z:=λh e=>h (V.str.inj e);have ej:∀ a b c:Str,a++Str.ofString " "++b++Str.ofString " "++c=Str.join (Str.ofString " ") [a,b,c]:=λa b c=>by
  rw[Km,Km];simp only [<- Ex];rfl
 rcases hw with e|e|e
 .have e:wd="own":=e
  subst e;refine⟨_,rfl,rfl,_,rfl,dF (sne (by ac_nf)) ⟨_,rfl,?_⟩⟩;rw[ej];rw[<- ec] at q;exact q
 .have e:wd="layer":=e
  subst e;obtain⟨a1,a2⟩:=lay rfl;have a1:lo<hi:=a1;have a2:hi<=240000000461:=a2;have l2:=l10 (show hi<=999999999999 by lia);have eh:[V.int hi]=[.int (hi.toNat:Nat)]:=by congr 2;lia
  refine⟨_,rfl,rfl,_,rfl,dT rfl ?_⟩;refine⟨_,rfl,_,_,rfl,rfl,?_,_,rfl,hi.toNat,eh,big (by lia),_,_,rfl,rfl,?_,?_⟩
  .rw[Df,Df,Df,Df,e1,Ci,zCf];lia
  .rw[Df,Df,Df,Df,Df,e1,Ci,Ci,zCf];lia
  refine⟨_,rfl,?_⟩;have e4:(("layer" : Str)++Str.ofString " "++y++Str.ofString " "++tx (Dn lo.toNat)++Str.ofString " "++tx (Dn hi.toNat))=(WU.cls (.lay y lo hi)).row:=by
   show _=Str.join (Str.ofString " ") [Str.ofString "layer",y,tx (Dn lo.toNat),tx (Dn hi.toNat)];rw[Km,Km,Km];simp only [<- Ex];rfl
  have q':Q (Br (.cls (.lay y lo hi))) H:=by rw[<- ec] at q;exact q
  unfold Br at q';rw[<- e4] at q';exact q'
 .have e:wd="limit":=e
  subst e;refine⟨_,rfl,rfl,_,rfl,dF (sne (by ac_nf)) ⟨_,rfl,?_⟩⟩;rw[ej];rw[<- ec] at q;exact q
def Pt:Bc ["_law_cover","_law_name","_law_cond_here","_law_clauses","_law_houses_here","_law_waits","_law_rows_here"] ["_law_cover"] (Av Gx):=by injections
def Qg {f:Addr} {fd:zCh} (F:WV K "_law_cover_rows" "_law_cover_rows" Gx f fd) (T:Txt K mg) (C_law_text:Cy P w K mg base 11 "_law_text" ["_law_cond_here"] (Z5 5)) (C_law_clause_row:Cy P w K mg base 2 "_law_clause_row" ["_law_clause"] N6):WN P w K mg base Do 12 f fd ["_law_cover"] IH:=by
 have sc:=Pt;bv_omega
 .obtain⟨_,_,rfl,_⟩:=h
  rfl
 obtain⟨v,d,rfl,⟨a,tv,cl,hl,cs,xs,rfl,h1,h2,h3,h4,h5,h6⟩,⟨ok,hg⟩,q⟩:=h;have hu64:=BG hr;refine⟨_,(Ai (Wa (pv 0) (Js (n:=5) rfl (By (Bl (i:=1) sc.nd rfl (Or.inl rfl)) (By (Bl (i:=2) sc.nd rfl (Or.inl rfl)) (By (Bl (i:=3) sc.nd rfl (Or.inl rfl)) (By (Bl (i:=4) sc.nd rfl (Or.inl rfl)) (By (Bl (i:=5) sc.nd rfl (Or.inl rfl)) Fz)))))))
   (Ai (Bn (i:=6) sc.nd rfl (Or.inl rfl) (Cb (Aa (Be Bw Bg (pv 1)) Ag)))
   (Ai (Bu (Bf (C4 (K:=K) hu64) (pv 2) (Cw (Aa Bg Ag)) (Bk _))
    (Aj (Bz (Dy PySem.F.plainAttrs_list PySem.F.slot_list_append PySem.F.type_list_append Cj (pv 6) (Aa (Be Bw Bg (Az C_law_text (hr.mono (by decide)) rfl (Aa (pv 2) Ag))) Ag))))
    Bj)
   (Ai (Bn (i:=6) sc.nd rfl (Or.inl rfl) (Be Jc (pv 6) (Eh (NC:=["_law_one"]) (own:=["_law_one"]) (cs:=[]) (ix:=[]) rfl (WO.of rfl) rfl trivial (Dg (pv 3)) (λ_ _ _=>(Bl (i:=0) (show (["_law_one"]:List Str).Nodup from by ac_nf) rfl (Or.inl rfl))) (λ_ _ _=>Dq) (λ_ _ _=>(Az C_law_clause_row (hr.mono (by decide)) rfl (Aa (pv 0) Ag))))))
   (Ai (Bu (Bf (C4 (K:=K) hu64) (pv 4) (Cb (Aa (Cw (Aa (pv 1) (Aa Ar Ag))) Ag)) (Bk _))
    (Aj (Bz (Dy PySem.F.plainAttrs_list PySem.F.slot_list_append PySem.F.type_list_append Cj (pv 6) (Aa (Be Bw Bg (Ka (K:=K) rfl PySem.F.plainAttrs_str PySem.F.slot_str_join PySem.F.type_str_join (Ix (K:=K) rfl) Bg (Aa (Eh (NC:=["_law_house","_law_weight"]) (own:=["_law_house","_law_weight"]) (cs:=[]) (ix:=[]) rfl (WO.of rfl) rfl trivial (Dg (pv 4)) (λ_ _ _=>(A2 (K:=K) (n:=2) rfl rfl (By (Bl (i:=0) (show (["_law_house","_law_weight"]:List Str).Nodup from by ac_nf) rfl (Or.inl rfl)) (By (Bl (i:=1) (show (["_law_house","_law_weight"]:List Str).Nodup from by ac_nf) rfl (Or.inl rfl)) Fz)))) (λ_ _ _=>Dq) (λ_ _ _=>(Be Bw (Be Bw (pv 0) Bg) (Ck Dh rfl T.n_str (show zCg _=some (.type "str") from rfl) (Aa (pv 1) Ag))))) Ag))) Ag))))
    Bj)
   (Ai (Bu (Dc (pv 5))
    (Aj (Bz (Dy PySem.F.plainAttrs_list PySem.F.slot_list_append PySem.F.type_list_append Cj (pv 6) (Aa Bg Ag))))
    Bj)
   (Aj (Bh (pv 6))))))))),?_⟩
 have one:1<=sizeLine:=by rw[zCf];decide
 have two:2<=sizeLine:=by rw[zCf];decide
 have nl8:=Fw ok.nm.1;obtain⟨okt,l60,d6,h66⟩:=ok.t;obtain⟨sl1,sl2,sl3⟩:=Qn d;have cl8:=ok.cl.1;have hlen:=h4.len;refine W0 λN eN=>?_;refine⟨_,rfl,a,_,rfl,WX.of h1,rfl,vC rfl (vC rfl (vC rfl (vC rfl (vC rfl ⟨rfl,?_⟩))))⟩;refine RS [some (.ref a),some (.str d.nm),some tv,some (.ref cl),some (.ref hl),some (.bl d.wt),none] rfl (A3 eN λN eN=>?_);refine⟨_,rfl,_,_,rfl,rfl,?_,one,λm nm=>?_⟩
 .have e6:(Str.ofString "cover ").length=6:=by ac_nf
  rw[e6,zCf];lia
 rw[F8];have s1:=Ap nm (.lst [Br (.cov d.nm)]);have hm1:upd H m (.lst [Br (.cov d.nm)]) m=some (.lst [Br (.cov d.nm)]):=Ac;refine AX eN [some (.ref a),some (.str d.nm),some tv,some (.ref cl),some (.ref hl),some (.bl d.wt),some (.ref m)] rfl λN eN=>?_;have fin:∀ H',WJ H H'->H' m=some (.lst ([Br (.cov d.nm)]++(Ft d).map Br))->N [some (.ref a),some (.str d.nm),some tv,some (.ref cl),some (.ref hl),some (.bl d.wt),some (.ref m)] H':=by
  clear hm1 s1;intro H2 s2 hm2;refine A3 eN λN eN=>?_;refine⟨_,rfl,_,rfl,cl,rfl,⟨_,WL.of (s2 _ _ h3)⟩,λb nb=>?_⟩;refine De (K:=K) (a:=cl) (xs:=cs) (λi ys H3=>ys=(d.cl.take i).map (λc=>Br (.cls c))/\H3 b=some (.lst ys)/\WJ H2 H3) ⟨rfl,Ac,Ap nb _⟩
   (λi ys H3 _ ⟨e,h1,s3⟩=>⟨h1,by rw[e,zAa,zAw];lia,WL.of (s3 _ _ (s2 _ _ h3))⟩) (by rw[hlen,zCf];lia) (λi x ys H3 hi ⟨e,h1,s3⟩=>?_) (λys H3 ⟨e,hb3,s3⟩=>?_)
  .obtain⟨c,ec,ct⟩:=h4.get hi
   refine⟨_,rfl,x,c,rfl,(ct.same s2).same s3,h1,rfl,?_,Ac,λb' o z=>?_⟩
   .rw[Bv ec,zAf,e]
    rfl
   .rw[Au (Ak z nb)]
    exact s3 _ _ z
  rw[hlen,zAt] at e;subst e;have hm3:=s3 _ _ hm2;refine⟨m,b,_,_,rfl,rfl,hm3,hb3,?_,λr nr=>?_⟩
  .rw[zAc,zAa,zAa,zCf];show 1+_+_<=_;lia
  have s4:WJ H (upd H3 r (.lst ([Br (.cov d.nm)]++(Ft d).map Br++d.cl.map (λc=>Br (.cls c))))):=s2.trans (s3.trans (Ap nr _));have hm4:upd H3 r (.lst ([Br (.cov d.nm)]++(Ft d).map Br++d.cl.map (λc=>Br (.cls c)))) r=some (.lst ([Br (.cov d.nm)]++(Ft d).map Br++d.cl.map (λc=>Br (.cls c)))):=Ac;have fr:H r=none:=(s2.trans s3).free nr;generalize upd H3 r (.lst ([Br (.cov d.nm)]++(Ft d).map Br++d.cl.map (λc=>Br (.cls c))))=H4 at s4 hm4;clear hb3 hm3 s3 nb hm2 s2;refine AX eN [some (.ref a),some (.str d.nm),some tv,some (.ref cl),some (.ref hl),some (.bl d.wt),some (.ref r)] rfl λN eN=>?_;have fin:∀ H',WJ H H'->H' r=some (.lst ([Br (.cov d.nm)]++(Ft d).map Br++d.cl.map (λc=>Br (.cls c))++(Ky d).map Br))->N [some (.ref a),some (.str d.nm),some tv,some (.ref cl),some (.ref hl),some (.bl d.wt),some (.ref r)] H':=by
   clear hm4 s4;intro H5 s5 hm5;refine A3 eN λN eN=>?_;have fin:∀ H',WJ H H'->H' r=some (.lst ([Br (.cov d.nm)]++(Ft d).map Br++d.cl.map (λc=>Br (.cls c))++(Ky d).map Br++(Gg d).map Br))->N [some (.ref a),some (.str d.nm),some tv,some (.ref cl),some (.ref hl),some (.bl d.wt),some (.ref r)] H':=by
    intro H6 s6 hm6;subst eN;rw[<- Tf] at hm6;exact⟨_,rfl,q r H6 s6 fr hm6⟩
   refine⟨_,rfl,_,rfl,?_⟩;cases ew:d.wt with
   |false=>
    rw[ew] at fin;refine Ep (fin H5 s5 ?_);rw[hm5];unfold Gg;rw[ew];simp
   |true=>
    rw[ew] at fin;refine Kt ⟨_,rfl,.inl ⟨rfl,_,WL.of hm5⟩,r,_,_,rfl,rfl,hm5,?_,fin _ (λc o e=>by rw[Au (Ak e fr)];exact s5 _ _ e) ?_⟩
    .rw[zAc,zAc,zAc,zAa,zAa,zAa,zCf];show 1+_+_+_<_;lia
    .rw[Ac];unfold Gg;rw[ew];rfl
  have lsz:([Br (.cov d.nm)]++(Ft d).map Br++d.cl.map (λc=>Br (.cls c))).length<sizeLine:=by
   rw[zAc,zAc,zAa,zAa,zCf];show 1+_+_<_;lia
  refine⟨_,rfl,_,rfl,two,λt2 n2=>⟨one,λl2 n3=>?_⟩⟩;have t1:=Ap n2 (.tup [.str d.nm,.int 1]);have t3:=Ap n3 (.lst [.ref t2]);have ht2:upd (upd H4 t2 (.tup [.str d.nm,.int 1])) l2 (.lst [.ref t2]) t2=some (.tup [.str d.nm,.int 1]):=t3 _ _ Ac;have hl2:upd (upd H4 t2 (.tup [.str d.nm,.int 1])) l2 (.lst [.ref t2]) l2=some (.lst [.ref t2]):=Ac;have s5:=s4.trans (t1.trans t3);have hm5:=t3 _ _ (t1 _ _ hm4);generalize upd (upd H4 t2 (.tup [.str d.nm,.int 1])) l2 (.lst [.ref t2])=H5 at ht2 hl2 s5 hm5;have rp:XF H5 [.ref t2] (Sz [(d.nm,1)]):=⟨⟨t2,rfl,ht2⟩,trivial⟩;have dp1:=Vf d.hs;have dp2:=Vf [(d.nm,1)];refine⟨false,T2 d.hs,T2 [(d.nm,1)],Ny (s5 _ _ h5) (Rl _ (h6.mono (Fu s5))),Ny hl2 (Rl _ rp),by lia,_,rfl,?_⟩;show if (!eqDs (T2 d.hs) (T2 [(d.nm,1)]))=true then _ else _;rw[EZ];by_cases c1:d.hs=[(d.nm,1)]
  .refine nF c1 (fin _ s5 ?_)
   rw[hm5];unfold Ky;rw[if_pos c1];simp
  .refine nT c1 ?_
   have okh:=ok.hs;refine⟨_,rfl,.inl ⟨rfl,_,WL.of hm5⟩,rfl,_,rfl,hl,rfl,⟨_,WL.of (s5 _ _ h5)⟩,λb nb=>?_⟩;have lxs:xs.length=d.hs.length:=by rw[h6.len];unfold Sz;rw[zAa]
   have l3:=okh.2.1;have ge1:=okh.1;refine Pw (K:=K) (a:=hl) (xs:=xs) (λi ys H6=>ys=((d.hs.take i).map EV).map V.str/\H6 b=some (.lst ys)/\WJ H5 H6) ⟨rfl,Ac,Ap nb _⟩
    (λi ys H6 _ ⟨e,g1,s6⟩=>⟨g1,by rw[e,zAa,zAa,zAw];lia,WL.of (s6 _ _ (s5 _ _ h5))⟩) (by rw[lxs,zCf];lia) (λi x ys H6 hi ⟨e,g1,s6⟩=>?_) (λys H6 ⟨e,g1,s6⟩=>?_)
   .obtain⟨t,p,ep,rfl,htp⟩:=h6.get hi
    unfold Sz at ep;rw[zAx] at ep;obtain⟨y,ey,rfl⟩:=zAH.mp ep;obtain⟨y1,y2,y3⟩:=okh.2.2 y (zAs ey);have e1:(Str.ofString " ").length=1:=by ac_nf
    have ef:((toString y.2:String):Str)=tx (Ce y.2.toNat):=by rw[<- Fl];congr 2;lia
    have a8:=Fw y1;have b3:(Ce y.2.toNat).length<=3:=Dk (by decide) (by lia);refine⟨t,_,_,rfl,WX.of (s6 _ _ (s5 _ _ htp)),_,rfl,_,_,rfl,rfl,by rw[e1,zCf];lia,_,rfl,_,rfl,Eb (by lia) (by lia),_,_,rfl,rfl,?_,g1,rfl,?_,Ac,λc o z=>?_⟩
    .rw[ef,Df,e1,Ci,zCf];lia
    .rw[ef,Bv ey,zAf,zAf,e]
     rfl
    .rw[Au (Ak z nb)]
     exact s6 _ _ z
   rw[lxs,zAt] at e;subst e;refine⟨_,b,d.hs.map EV,rfl,rfl,.inl (WL.of g1),by rw[zAa];lia,by rw[zAa];lia,by ac_nf,λy hy=>?_,?_⟩
   .obtain⟨z,hz,rfl⟩:=zAz.mp hy
    obtain⟨y1,y2,y3⟩:=okh.2.2 z hz;have:=Sk y1 y2 y3
    lia
   have e6:(Str.ofString "share ").length=6:=by ac_nf
   have jl:=Iu (z:=Str.ofString " ") (B:=20) (ps:=d.hs.map EV) λy hy=>by
    obtain⟨z,hz,rfl⟩:=zAz.mp hy;obtain⟨y1,y2,y3⟩:=okh.2.2 z hz;exact Sk y1 y2 y3
   have e1:(Str.ofString " ").length=1:=by ac_nf
   rw[e1,zAa] at jl;refine⟨_,_,rfl,rfl,by rw[e6,zCf];lia,?_⟩;rw[B6 (λz=>by rw[z] at ge1;simp at ge1)];refine⟨r,_,_,rfl,rfl,s6 _ _ hm5,lsz,fin _ (λc o e=>by rw[Au (Ak e fr)];exact s6 _ _ (s5 _ _ e)) ?_⟩;rw[Ac];unfold Ky;rw[if_neg c1];rfl
 refine⟨_,rfl,one,λtt nt=>?_⟩;have t1:=Ap nt (.tup [.str (Str.ofString "always")]);have s2:=s1.trans t1;have hm2:=t1 _ _ hm1;have dp:=L8 d.t;refine⟨true,So d.t,[.at (.str "always")],E7 _ (WP.same s2 _ h2),Gy Ac (Cp (WZ rfl) En),by simp [deps,V7];lia,_,rfl,?_⟩;show if (!eqDs (So d.t) [.at (.str "always")])=true then _ else _;rw[GX];cases c:Lz d.t with
 |true=>
  refine Ep (fin _ s2 ?_);rw[hm2];unfold Ft;rw[c];rfl
 |false=>
  refine Kt ⟨_,rfl,.inl ⟨rfl,_,WL.of hm2⟩,_,rfl,tv,d.t,rfl,WP.same s2 _ h2,hg,okt,l60,λH3 s3=>?_⟩;have le:=Kn (Lx okt) l60;have e5:(Str.ofString "when ").length=5:=by ac_nf
  refine⟨_,_,rfl,rfl,by rw[e5,zCf];lia,?_⟩;rw[Se okt];refine⟨m,_,_,rfl,rfl,s3 _ _ hm2,by show 1<sizeLine;rw[zCf];decide,fin _ (λc o e=>by rw[Au (Ak e nm)];exact s3 _ _ (s2 _ _ e)) ?_⟩;rw[Ac];unfold Ft;rw[c];rfl
def G5:Bc ["_law_covers_here","_law_rows_here","_law_cover"] ["_law_covers_here"] (Av Nh):=by injections
def C2 {f:Addr} {fd:zCh} (F:WV K "_law_rows" "_law_rows" Nh f fd) (T:Txt K mg) (C_law_cover_rows:Cy P w K mg base 12 "_law_cover_rows" ["_law_cover"] IH):WN P w K mg base Do 13 f fd ["_law_covers_here"] IP:=by
 have sc:=G5;bv_omega
 .obtain⟨_,_,_,rfl,_⟩:=h
  rfl
 obtain⟨a,xs,ls,rfl,ha,al,l8,ok,q⟩:=h;refine⟨_,(Ai (Bn (i:=1) sc.nd rfl (Or.inl rfl) (Cb Ag))
   (Ai (El PassesOwn.never rfl (Dg (pv 0)) (Bl (i:=2) sc.nd rfl (Or.inl rfl))
    (Aj (Bn (i:=1) sc.nd rfl (Or.inl rfl) (Be Jc (pv 1) (Az C_law_cover_rows (hr.mono (by decide)) rfl (Aa (pv 2) Ag))))))
   (Aj (Bh (pv 1))))),?_⟩
 refine⟨zAB _,λm0 nm0=>?_⟩;refine Hu [some (.ref a),some (.ref m0),none] rfl ?_;have s1:=Ap nm0 (.lst []);have lm:=al.len;refine⟨_,rfl,a,rfl,⟨_,WL.of (s1 _ _ ha)⟩,?_⟩;refine Nd (K:=K) (a:=a) (xs:=xs) (λi σ H2=>∃ m o,σ=[some (.ref a),some (.ref m),o]/\WJ H H2/\H m=none/\H2 m=some (.lst (((ls.take i).flatMap Dm).map Br))) ⟨m0,none,rfl,s1,nm0,Ac⟩ (λi σ H2 _ ⟨_,_,_,s2,_⟩=>WL.of (s2 _ _ ha)) ?_ ?_
 .rintro i x σ H2 hi ⟨m,o,rfl,s2,nm,hm⟩
  obtain⟨d,ed,lc⟩:=al.get hi;have okd:=ok d (zAs ed);refine⟨_,rfl,_,rfl,x,d,rfl,lc.same s2,okd,λl H3 s3 nl hl=>?_⟩;have bnd:((ls.take i).flatMap Dm).length<=12*i:=by
   have:∀ l:List LC,(∀ d∈l,d.cl.length<=8)->(l.flatMap Dm).length<=12*l.length:=λl=>by
    induction l with
    |nil=>intro _;simp
    |cons a l ih=>
     intro h;have h1:=Iw (h a (by simp));have h2:=ih λd hd=>h d (by simp [hd]);rw[zBX,zAc,zAe]
     lia
   have h:=this (ls.take i) λd hd=>(ok d (List.mem_of_mem_take hd)).ok.cl.1;have:(ls.take i).length<=i:=List.length_take_le _ _
   lia
  have il:i<ls.length:=(zAu.mp ed).1;have cb:=Iw okd.ok.cl.1;refine⟨m,l,_,_,rfl,rfl,s3 _ _ hm,hl,?_,λr nr=>?_⟩
  .rw[zAa,zAa,zCf];lia
  refine⟨r,_,rfl,(s2.trans s3).trans (Ap nr _),(s2.trans s3).free nr,?_⟩;rw[Ac,Bv ed,List.flatMap_append,zAf];simp
 .rintro σ H2 ⟨m,o,rfl,s2,nm,hm⟩
  rw[lm,zAt] at hm;exact⟨_,rfl,q m H2 s2 nm hm⟩
end
structure LZ (hs:List (Str×Int)):Prop where
 sh:Vt (.shr hs)
 nd:(hs.map (·.1)).Nodup
 gw:CR.GW (hs.map (·.2))
structure LN (PL:List Str):Prop where
 l4:PL.length=4
 nd:PL.Nodup
 ok:∀ z∈PL,Ew (.str z)=true
inductive MV  (vs:List V) (H:Hp) (Q:VK):Prop
 |mk (c:Int) (pl:_) (PL:_) (z0:vs=[.int c,.ref pl]) (z1:0<=c) (z2:H pl=some (.lst (PL.map V.str))) (z3:LN PL) (z4:∀ r xs hs H',WJ H H'->Nw H H' r=some (.lst xs)->XF (Nw H H') xs (Sz hs)->LZ hs->Q (.ref r) H'):MV  vs H Q
def NR:Sp:=λvs H Q _=>MV  vs H Q
inductive S5 (K:zAb) (vs:List V) (H:Hp) (Q:VK):Prop
 |mk (a:_) (ns:_) (z0:vs=[.ref a]) (z1:WL K H a (List.map V.int ns)) (z2:ns.length<=63) (z3:∀ w ra rb rc rd rp,∀ B C D PL:List Str,∀ H',WJ H H'->H' w=some (.lst [.ref ra,.ref rb,.ref rc,.ref rd,.ref rp])->H' rb=some (.lst (B.map V.str))->H' rc=some (.lst (C.map V.str))->H' rd=some (.lst (D.map V.str))->H' rp=some (.lst (PL.map V.str))->EU B->EU C->EU D->B.length=3->C.length=3->D.length=3->LN PL->Q (.ref w) H'):S5 K vs H Q
def E6 (K:zAb):Sp:=λvs H Q _=>S5 K vs H Q
def KD {ns:List Str} (h:EU ns) (l:ns.length=3):LN (ns++[Str.ofString "self"]):=by
 refine⟨by rw[zAc,l];rfl,?_,λz hz=>?_⟩
 .rw[zBa]
  refine⟨h.nd,by simp,λa ha b hb e=>?_⟩;rw[zAp.mp hb] at e;exact (h.ok a ha).2.2 e
 .rcases zAF.mp hz with hz|hz
  .exact (h.ok z hz).1
  .rw[zAp.mp hz];decide +kernel
def IE {ns:List Str} (h:EU ns):∀ z∈ns,X0 z:=λz hz=>⟨z.cps.toList,(Uh z).symm,of_decide_eq_true (h.ok z hz).1⟩
section
seal L2.PS L2.PSs L2.PE L2.PA
variable {P:Program} {w:World} {K:zAb} {mg:Str->Option Value} {base:Heap}
def Wt:Bc ["_law_cell_here","_law_pool","_law_found","_law_j","_law_weight"] ["_law_cell_here","_law_pool"] (Av Jy):=by injections
def Wj {f:Addr} {fd:zCh} (F:WV K "_law_houses" "_law_houses" Jy f fd) (T:Txt K mg):WN P w K mg base Do 1 f fd ["_law_cell_here","_law_pool"] NR:=by
 have sc:=Wt;bv_omega
 .obtain⟨_,_,_,rfl,_⟩:=h
  rfl
 obtain⟨c,pl,PL,rfl,c0,hpl,⟨l4,nd,okp⟩,q⟩:=h;refine⟨_,(Ai (Bn (i:=2) sc.nd rfl (Or.inl rfl) (Cb Ag))
   (Ai (El PassesOwn.never rfl (Ea rfl T.n_range (Aa (Be Da Ar (Be Cn (pv 0) Ar)) Ag)) (Bl (i:=3) sc.nd rfl (Or.inl rfl))
    (Ai (Bn (i:=4) sc.nd rfl (Or.inl rfl) (Be Da Ar (Be Cn (Be Cm (pv 0) (Be Da Ar (Be Ho Ar (pv 3)))) Ar)))
   (Aj (Bz (Dy PySem.F.plainAttrs_list PySem.F.slot_list_append PySem.F.type_list_append Cj (pv 2) (Aa (Cw (Aa (Cc Bt (pv 1) (Be Cn (Be Da (Be Cm (pv 0) Ar) (pv 3)) (Bq Bp rfl T.n_len (show zCg _=some (.builtin "len") from rfl) (Aa (pv 1) Ag))) (λ_ _=>rfl)) (Aa (pv 4) Ag))) Ag))))))
   (Aj (Bh (pv 2))))),?_⟩
 have two:2<=sizeLine:=by rw[zCf];decide
 refine⟨zAB _,λr nr=>?_⟩;refine Hu [some (.int c),some (.ref pl),some (.ref r),none,none] rfl ?_;have s1:=Ap nr (.lst []);have m3:=md (a:=c) (b:=3) (by decide);refine⟨_,rfl,_,_,rfl,rfl,(by show (0:Int)<3;decide),_,_,rfl,rfl,_,rfl,by lia,by lia,?_⟩;have lp:(PL.map V.str).length=4:=by rw[zAa,l4]
 have nn:(1+c%3).toNat<=3/\1<=(1+c%3).toNat:=by lia
 generalize (1+c%3).toNat=n at nn;refine Ey (lo:=0) (n:=n) (λi σ H2=>(∃ o3 o4,σ=[some (.int c),some (.ref pl),some (.ref r),o3,o4])/\WJ H H2/\∃ xs hs,H2 r=some (.lst xs)/\XF (Nw H H2) xs (Sz hs)/\hs.length=i/\(hs.map (·.1)).Nodup/\(∀ x∈hs,Ew (.str x.1)=true/\1<=x.2/\x.2<=4/\∃ k:Nat,k<i/\PL[((c/3+(k:Int))%4).toNat]?=some x.1)/\(hs.map (·.2)).sum<=4*(i:Int))
  ⟨⟨none,none,rfl⟩,s1,[],[],Ac,trivial,rfl,by simp,(λ_ z=>nomatch z),by simp⟩ ?_ ?_
 .rintro i σ H2 hi ⟨⟨o3,o4,rfl⟩,s2,xs,hs,hr2,px,lh,ndh,okh,sm⟩
  have dv:(0:Int)<9+7*(0+(i:Int))/\9+7*(0+(i:Int))<1073741824:=by lia
  refine⟨_,rfl,_,rfl,_,_,rfl,rfl,.inl ⟨by decide,by decide⟩,_,_,rfl,rfl,_,_,rfl,rfl,dv,_,_,rfl,rfl,(by show (0:Int)<4;decide),_,_,rfl,rfl,?_⟩;have m4:=md (a:=c/(9+7*(0+(i:Int)))) (b:=4) (by decide);refine Xa 1 4 ⟨by lia,by lia⟩ λwt w1 w4=>?_;refine Hu [some (.int c),some (.ref pl),some (.ref r),some (.int (0+(i:Int))),some (.int wt)] rfl ?_;have mm:=md (a:=c/3+(0+(i:Int))) (b:=4) (by decide);have e0:(0+(i:Int))=(i:Int):=by lia
  rw[e0] at mm;obtain⟨j,ej⟩:=Int.eq_ofNat_of_zero_le mm.1;have jl:j<PL.length:=by lia
  have at':Nx (PL.map V.str) ((c/3+(0+(i:Int)))%((PL.map V.str).length:Int))=some (.str PL[j]):=by
   rw[lp,e0,show (((4:Nat):Int))=4 from rfl,ej];exact Fd (by rw[zAx,zAg jl];rfl)
  refine⟨_,rfl,.inl ⟨rfl,_,WL.of hr2⟩,_,rfl,_,rfl,_,_,rfl,rfl,⟨by decide,by decide⟩,_,rfl,_,_,rfl,rfl,_,rfl,pl,_,rfl,.inl (WL.of (s2 _ _ hpl)),_,_,rfl,rfl,(by show (0:Int)<((PL.map V.str).length:Int);rw[lp];decide),pl,_,_,_,rfl,rfl,WL.of (s2 _ _ hpl),at',_,rfl,two,λt nt=>?_⟩;have s3:=Ap nt (.tup [.str PL[j],.int wt]);have lx:xs.length=hs.length:=by rw[px.len];unfold Sz;rw[zAa]
  refine⟨r,_,_,rfl,rfl,s3 _ _ hr2,by rw[lx,lh,zCf];lia,⟨_,_,rfl⟩,λb o e=>?_,xs++[.ref t],hs++[(PL[j],wt)],Ac,?_,by rw[zAc,lh];rfl,?_,?_,?_⟩
  .rw[Au (Ak e nr)]
   exact s3 _ _ (s2 _ _ e)
  .have ntr:t≠r:=λz=>by rw[z,hr2] at nt;cases nt
   unfold Sz;rw[zAf];refine XF.app (px.mono λb zs e=>?_) (XF.one (t:=t) (Nw.of (s2.free nt) (by rw[Au ntr,Ac])));obtain⟨e0,e⟩:=Nw.at e;refine Nw.of e0 ?_;rw[Au (Eu e hr2 (by intro z;cases z))];exact s3 _ _ e
  .rw[zAf,zBa]
   refine⟨ndh,by simp,λa ha b hb e=>?_⟩;have hb:b=PL[j]:=by simpa using hb
   obtain⟨x,hx,rfl⟩:=zAz.mp ha;obtain⟨_,_,_,k,hk,ek⟩:=okh x hx;rw[e,hb] at ek;have m2:=md (a:=c/3+(k:Int)) (b:=4) (by decide);obtain⟨j2,ej2⟩:=Int.eq_ofNat_of_zero_le m2.1;rw[ej2] at ek;obtain⟨hj2,e3⟩:=zAu.mp ek;have:=(List.getElem_inj nd).mp e3;have e4:((j2:Nat):Int).toNat=j2:=by lia
   lia
  .intro x hx
   rcases zAF.mp hx with hx|hx
   .obtain⟨a1,a2,a3,k,hk,ek⟩:=okh x hx
    exact⟨a1,a2,a3,k,by lia,ek⟩
   .rw[zAp.mp hx]
    refine⟨okp _ (zBn _),w1,w4,i,by lia,?_⟩;rw[ej];exact zAg jl
  .rw[zAf,List.sum_append]
   show _+(wt+0)<=4*((i+1:Nat):Int)
   lia
 .rintro σ H2 ⟨⟨o3,o4,rfl⟩,s2,xs,hs,hr2,px,lh,ndh,okh,sm⟩
  refine⟨_,rfl,q r xs hs H2 s2 (Nw.of nr hr2) px ⟨⟨by lia,by lia,λx hx=>?_⟩,ndh,⟨?_,?_,?_,?_⟩⟩⟩
  .obtain⟨a1,a2,a3,_⟩:=okh x hx
   exact⟨a1,a2,by lia⟩
  .rw[zAa];lia
  .rw[zAa];lia
  .intro x hx
   obtain⟨y,hy,rfl⟩:=zAz.mp hx;exact (okh y hy).2.1
  .lia
def Xu:Bc ["_law_script","_law_cell_here","_law_pool"] ["_law_script"] (Av Lh):=by injections
def Ya {f:Addr} {fd:zCh} (F:WV K "_law_world" "_law_world" Lh f fd) (T:Txt K mg) (C_law_cell:Cy P w K mg base 1 "_law_cell" ["_law_script","_law_k"] (Te K)) (C_law_spread:Cy P w K mg base 1 "_law_spread" ["_law_cell_here"] Kk) (C_law_names:Cy P w K mg base 1 "_law_names" ["_law_cell_here","_law_many"] J2):WN P w K mg base Do 2 f fd ["_law_script"] (E6 K):=by
 have sc:=Xu;bv_omega
 .obtain⟨_,_,rfl,_⟩:=h
  rfl
 obtain⟨a,ns,rfl,ha,l63,q⟩:=h;refine⟨_,(Ai (Bn (i:=1) sc.nd rfl (Or.inl rfl) (Az C_law_spread (hr.mono (by decide)) rfl (Aa (Az C_law_cell (hr.mono (by decide)) rfl (Aa (pv 0) (Aa Ar Ag))) Ag)))
   (Ai (Bn (i:=2) sc.nd rfl (Or.inl rfl) (Be Jc (Az C_law_names (hr.mono (by decide)) rfl (Aa (Be Cm (pv 1) Ar) (Aa Ar Ag))) (Cb (Aa Bg Ag))))
   (Aj (Bh (Cb (Aa (Az C_law_names (hr.mono (by decide)) rfl (Aa (Be Cm (pv 1) Ar) (Aa Ar Ag))) (Aa (Az C_law_names (hr.mono (by decide)) rfl (Aa (Be Cm (pv 1) Ar) (Aa Ar Ag))) (Aa (Az C_law_names (hr.mono (by decide)) rfl (Aa (Be Cm (pv 1) Ar) (Aa Ar Ag))) (Aa (Az C_law_names (hr.mono (by decide)) rfl (Aa (pv 1) (Aa Ar Ag))) (Aa (pv 2) Ag)))))))))),?_⟩
 have one:1<=sizeLine:=by rw[zCf];decide
 have five:5<=sizeLine:=by rw[zCf];decide
 refine⟨_,rfl,a,ns,1,rfl,ha,by decide,l63,_,rfl,λr r0 r1=>?_⟩;refine Hu [some (.ref a),some (.int r),none] rfl ?_;have dv:∀ {k:Int},0<k->0<=r/k:=λh=>Int.ediv_nonneg r0 (by lia);refine⟨_,rfl,_,_,rfl,rfl,⟨by decide,by decide⟩,_,3,rfl,dv (by decide),by decide,by decide,λp0 P0 H1 s1 n1 h1 ok1 l1=>?_⟩;have l1:P0.length=3:=by lia
 refine⟨one,λp1 np1=>?_⟩;have s2:=Ap np1 (.lst [.str (Str.ofString "self")]);refine⟨p0,p1,_,_,rfl,rfl,s2 _ _ h1,Ac,by rw[zAa,l1,zCf];decide,λrp nrp=>?_⟩;have hrp:upd (upd H1 p1 (.lst [.str (Str.ofString "self")])) rp (.lst (P0.map V.str++[.str (Str.ofString "self")])) rp=some (.lst ((P0++[Str.ofString "self"]).map V.str)):=by rw[Ac,zAf];rfl
 have s3:=s1.trans (s2.trans (Ap nrp (.lst (P0.map V.str++[.str (Str.ofString "self")]))));generalize upd (upd H1 p1 (.lst [.str (Str.ofString "self")])) rp (.lst (P0.map V.str++[.str (Str.ofString "self")]))=H3 at hrp s3;refine Hu [some (.ref a),some (.int r),some (.ref rp)] rfl ?_;refine⟨_,rfl,_,_,rfl,rfl,⟨by decide,by decide⟩,_,3,rfl,dv (by decide),by decide,by decide,λra A4 H4 s4 n4 h4 ok4 l4=>?_⟩;refine⟨_,rfl,_,_,rfl,rfl,⟨by decide,by decide⟩,_,3,rfl,dv (by decide),by decide,by decide,λrb B5 H5 s5 n5 h5 ok5 l5=>?_⟩;refine⟨_,rfl,_,_,rfl,rfl,⟨by decide,by decide⟩,_,3,rfl,dv (by decide),by decide,by decide,λrc C6 H6 s6 n6 h6 ok6 l6=>?_⟩;refine⟨_,rfl,r,3,rfl,r0,by decide,by decide,λrd D7 H7 s7 n7 h7 ok7 l7=>?_⟩;refine⟨_,rfl,five,λwl nw=>?_⟩;have s8:=Ap nw (.lst [.ref ra,.ref rb,.ref rc,.ref rd,.ref rp]);exact q wl ra rb rc rd rp B5 C6 D7 (P0++[Str.ofString "self"]) _ (s3.trans (s4.trans (s5.trans (s6.trans (s7.trans s8))))) Ac (s8 _ _ (s7 _ _ (s6 _ _ h5))) (s8 _ _ (s7 _ _ h6)) (s8 _ _ h7) (s8 _ _ (s7 _ _ (s6 _ _ (s5 _ _ (s4 _ _ hrp))))) ok5 ok6 ok7 (by lia) (by lia) (by lia) (KD ok1 l1)
end
def YK.mono {G G':Hp} {v:V} {c:Cl} (h:YK G v c) (s:∀ t zs,G t=some (.tup zs)->G' t=some (.tup zs)):YK G' v c:=by
 obtain⟨t,r,e,h,k⟩:=h;exact⟨t,r,e,s _ _ h,k⟩
inductive AJ (K:zAb) (vs:List V) (H:Hp) (Q:VK):Prop
 |mk (a:_) (ns:_) (nl:_) (th:_) (ca:_) (pl:_) (u:Int) (D B C PL:List Str) (E0:List Addr) (z0:(∀ e∈E0,∃ o,H e=some o)) (z1:vs=[.ref a,.int 2,.ref nl,.ref th,.ref ca,.int u,.ref pl]) (z2:WL K H a (List.map V.int ns)) (z3:ns.length<=63) (z4:Ti u) (z5:H nl=some (.lst (D.map V.str))) (z6:H th=some (.lst (B.map V.str))) (z7:H ca=some (.lst (C.map V.str))) (z8:H pl=some (.lst (PL.map V.str))) (z9:EU B) (z10:EU C) (z11:EU D) (z12:B.length=3) (z13:C.length=3) (z14:D.length=3) (z15:LN PL) (z16:∀ r xs ls H',WJ H H'->H' r=some (.lst xs)->XC (XO (WK E0 H')) xs ls->ls.map (·.nm)=D->(∀ d∈ls,S2 d)->Q (.ref r) H'):AJ K vs H Q
def W5 (K:zAb):Sp:=λvs H Q _=>AJ K vs H Q
inductive AM (κ:A8) (CC CO CL CM C CD:Addr) (vs:List V) (H:Hp) (Q:VK):Prop
 |mk (p:_) (v:_) (d:_) (z0:vs=[.ref p,v]) (z1:XG κ CC CO CL CM C CD H p d) (z2:XO H v d) (z3:S2 d) (z4:∀ H',WJ H H'->Q (.bl true) H'):AM κ CC CO CL CM C CD vs H Q
def X8 (κ:A8) (CC CO CL CM C CD:Addr):Sp:=λvs H Q _=>AM κ CC CO CL CM C CD vs H Q
section
seal L2.PS L2.PSs L2.PE L2.PA
variable {P:Program} {w:World} {K:zAb} {mg:Str->Option Value} {base:Heap} {Ab Ae Ad Ah Ao Ax Ay Am Al Ba An Aq Bb As Bd Af Aw:Addr}
def Wv:Bc ["_law_script","_law_start","_law_names_here","_law_things","_law_causes","_law_unit_here","_law_pool","_law_covers_here","_law_c","_law_shape","_law_clauses","_law_k","_law_cond_here"] ["_law_script","_law_start","_law_names_here","_law_things","_law_causes","_law_unit_here","_law_pool"] (Av Jw):=by injections
def Ws {f:Addr} {fd:zCh} (F:WV K "_law_covers" "_law_covers" Jw f fd) (T:Txt K mg) (C_law_cell:Cy P w K mg base 1 "_law_cell" ["_law_script","_law_k"] (Te K)) (C_law_spread:Cy P w K mg base 1 "_law_spread" ["_law_cell_here"] Kk) (C_law_drawn_clause:Cy P w K mg base 2 "_law_drawn_clause" ["_law_cell_here","_law_unit_here"] NV) (C_law_cond:Cy P w K mg base 2 "_law_cond" ["_law_cell_here","_law_things","_law_causes","_law_unit_here"] AF) (C_law_houses:Cy P w K mg base 1 "_law_houses" ["_law_cell_here","_law_pool"] NR) :
  WN P w K mg base Do 3 f fd ["_law_script","_law_start","_law_names_here","_law_things","_law_causes","_law_unit_here","_law_pool"] (W5 K):=by
 have sc:=Wv;bv_omega
 .obtain⟨_,_,_,_,_,_,_,_,_,_,_,_,_,rfl,_⟩:=h
  rfl
 obtain⟨a,ns,nl,th,ca,pl,u,D,B,C,PL,E0,aE,rfl,ha,l63,uo,hnl,hth,hca,hpl,okB,okC',YL,lB,lC,lD,pool,q⟩:=h;refine⟨_,(Ai (Bn (i:=7) sc.nd rfl (Or.inl rfl) (Cb Ag))
   (Ai (El PassesOwn.never rfl (Ea rfl T.n_range (Aa (Bq Bp rfl T.n_len (show zCg _=some (.builtin "len") from rfl) (Aa (pv 2) Ag)) Ag)) (Bl (i:=8) sc.nd rfl (Or.inl rfl))
    (Ai (Bn (i:=9) sc.nd rfl (Or.inl rfl) (Az C_law_spread (hr.mono (by decide)) rfl (Aa (Az C_law_cell (hr.mono (by decide)) rfl (Aa (pv 0) (Aa (Be Da (pv 1) (Be Ho Ar (pv 8))) Ag))) Ag)))
   (Ai (Bn (i:=10) sc.nd rfl (Or.inl rfl) (Cb Ag))
   (Ai (El PassesOwn.never rfl (Ea rfl T.n_range (Aa (Be Cn (Be Cm (pv 9) Ar) Ar) Ag)) (Bl (i:=11) sc.nd rfl (Or.inl rfl))
    (Aj (Bz (Dy PySem.F.plainAttrs_list PySem.F.slot_list_append PySem.F.type_list_append Cj (pv 10) (Aa (Az C_law_drawn_clause (hr.mono (by decide)) rfl (Aa (Az C_law_spread (hr.mono (by decide)) rfl (Aa (Az C_law_cell (hr.mono (by decide)) rfl (Aa (pv 0) (Aa (Be Da (Be Da (Be Da (pv 1) Ar) (Be Ho Ar (pv 8))) (pv 11)) Ag))) Ag)) (Aa (pv 5) Ag))) Ag)))))
   (Ai (Bn (i:=12) sc.nd rfl (Or.inl rfl) (Az C_law_cond (hr.mono (by decide)) rfl (Aa (Be Cm (pv 9) Ar) (Aa (pv 3) (Aa (pv 4) (Aa (pv 5) Ag))))))
   (Aj (Bz (Dy PySem.F.plainAttrs_list PySem.F.slot_list_append PySem.F.type_list_append Cj (pv 7) (Aa (Cw (Aa (Cc Bt (pv 2) (pv 8) (λ_ _=>rfl)) (Aa (pv 12) (Aa (pv 10) (Aa (Az C_law_houses (hr.mono (by decide)) rfl (Aa (Be Cm (pv 9) Ar) (Aa (pv 6) Ag))) (Aa (Ku Db (Be Cn (pv 9) Ar) Ar (Bk _)) Ag)))))) Ag)))))))))
   (Aj (Bh (pv 7))))),?_⟩
 have five:5<=sizeLine:=by rw[zCf];decide
 refine⟨zAB _,λr nr=>?_⟩;refine Hu [some (.ref a),some (.int 2),some (.ref nl),some (.ref th),some (.ref ca),some (.int u),some (.ref pl),some (.ref r),none,none,none,none,none] rfl ?_;have s1:=Ap nr (.lst []);have ln:(D.map V.str).length=3:=by rw[zAa,lD]
 refine⟨_,rfl,nl,_,rfl,.inl (WL.of (s1 _ _ hnl)),_,rfl,by rw[ln];decide,by rw[ln];decide,?_⟩;rw[ln];refine Ey (lo:=0) (n:=3) (λi σ H2=>(∃ o8 o9 o10 o11 o12,σ=[some (.ref a),some (.int 2),some (.ref nl),some (.ref th),some (.ref ca),some (.int u),some (.ref pl),some (.ref r),o8,o9,o10,o11,o12])/\WJ H H2/\∃ xs ls,H2 r=some (.lst xs)/\XC (XO (WK (r::E0) H2)) xs ls/\ls.map (·.nm)=D.take i/\(∀ d∈ls,S2 d))
  ⟨⟨none,none,none,none,none,rfl⟩,s1,[],[],Ac,.nil,rfl,λ_ z=>nomatch z⟩ ?_ ?_
 .rintro i σ H2 hi ⟨⟨o8,o9,o10,o11,o12,rfl⟩,s2,xs,ls,hr2,al,en,okl⟩
  refine⟨_,rfl,_,rfl,_,rfl,_,_,rfl,rfl,.inl ⟨by decide,by decide⟩,_,_,rfl,rfl,a,ns,2+4*(0+(i:Int)),rfl,s2.seq ha,by lia,l63,_,rfl,λsh sh0 sh1=>?_⟩;refine Hu [some (.ref a),some (.int 2),some (.ref nl),some (.ref th),some (.ref ca),some (.int u),some (.ref pl),some (.ref r),some (.int (0+(i:Int))),some (.int sh),o10,o11,o12] rfl ?_;refine⟨zAB _,λcL ncl=>?_⟩;refine Hu [some (.ref a),some (.int 2),some (.ref nl),some (.ref th),some (.ref ca),some (.int u),some (.ref pl),some (.ref r),some (.int (0+(i:Int))),some (.int sh),some (.ref cL),o11,o12] rfl ?_;have inE:∀ {Hx:Hp} {ys:List V},WJ H Hx->Hx r=some (.lst ys)->∀ e∈r::E0,∃ o,Hx e=some o:=λs h e he=>by
   rcases zAj.mp he with rfl|he
   .exact⟨_,h⟩
   .obtain⟨o,z⟩:=aE e he;exact⟨o,s _ _ z⟩
  have s3:=Ap ncl (.lst []);have hcr:cL≠r:=λz=>by rw[z,hr2] at ncl;cases ncl
  have m4:=md (a:=sh/4) (b:=4) (by decide);refine⟨_,rfl,_,_,rfl,rfl,⟨by decide,by decide⟩,_,_,rfl,rfl,(by show (0:Int)<4;decide),_,rfl,by lia,by lia,?_⟩;have nn:(sh/4%4).toNat<=3:=by lia
  generalize (sh/4%4).toNat=n at nn;refine Ey (lo:=0) (n:=n) (λk σ H3=>(∃ o11,σ=[some (.ref a),some (.int 2),some (.ref nl),some (.ref th),some (.ref ca),some (.int u),some (.ref pl),some (.ref r),some (.int (0+(i:Int))),some (.int sh),some (.ref cL),o11,o12])/\WJ H2 H3/\∃ cs cls,H3 cL=some (.lst cs)/\XC (YK (WK (r::E0) H3)) cs cls/\cls.length=k) ⟨⟨o11,rfl⟩,s3,[],[],Ac,.nil,rfl⟩ ?_ ?_
  .rintro k σ H3 hk ⟨⟨o11',rfl⟩,s4,cs,cls,hcl,alc,lk⟩
   refine⟨_,rfl,.inl ⟨rfl,_,WL.of hcl⟩,_,rfl,_,rfl,_,_,rfl,rfl,_,rfl,_,_,rfl,rfl,.inl ⟨by decide,by decide⟩,_,_,rfl,rfl,_,rfl,_,_,rfl,rfl,a,ns,2+1+4*(0+(i:Int))+(0+(k:Int)),rfl,s4.seq (s2.seq ha),by lia,l63,_,rfl,λdc dc0 dc1=>?_⟩;refine⟨_,rfl,dc,u,rfl,dc0,uo,λt rw H4 s5 nt ht okr=>?_⟩;have lc:cs.length=k:=by rw[alc.len,lk]
   refine⟨cL,_,_,rfl,rfl,s5 _ _ hcl,by rw[lc,zCf];lia,⟨_,rfl⟩,λb o e=>?_,cs++[.ref t],cls++[BP rw],Ac,?_,by rw[zAc,lk];rfl⟩
   .rw[Au (Ak e ncl)]
    exact s5 _ _ (s4 _ _ e)
   .have st:∀ t9 zs,WK (r::E0) H4 t9=some (.tup zs)->WK (r::E0) (upd H4 cL (.lst (cs++[.ref t]))) t9=some (.tup zs):=λt9 zs e=>by
     obtain⟨e0,e⟩:=WK.at e;refine WK.of e0 ?_;rw[Au (Eu e (s5 _ _ hcl) (by intro z;cases z))];exact e
    have so:WJ (WK (r::E0) H3) (WK (r::E0) H4):=WK.mono (λb o e _=>s5 b o e) λx hx=>.inl hx;have nE:t∉r::E0:=λz=>by obtain⟨o,z⟩:=inE (s2.trans s4) (s4 _ _ hr2) _ z;rw[nt] at z;cases z
    exact (alc.imp λv c h=>(h.same so).mono st).app (.cons ⟨t,rw,rfl,st _ _ (WK.of nE ht),rfl,okr⟩ .nil)
  .rintro σ H3 ⟨⟨o11',rfl⟩,s4,cs,cls,hcl,alc,lk⟩
   have dv:0<=sh/16:=Int.ediv_nonneg sh0 (by decide);refine⟨_,rfl,_,_,rfl,rfl,⟨by decide,by decide⟩,_,rfl,_,rfl,_,rfl,sh/16,u,th,ca,B,C,rfl,dv,uo,s4 _ _ (s2 _ _ hth),s4 _ _ (s2 _ _ hca),lB,lC,IE okB,IE okC',λtv t H4 s5 tr okt hg=>?_⟩;refine Hu [some (.ref a),some (.int 2),some (.ref nl),some (.ref th),some (.ref ca),some (.int u),some (.ref pl),some (.ref r),some (.int (0+(i:Int))),some (.int sh),some (.ref cL),o11',some tv] rfl ?_;have hr4:=s5 _ _ (s4 _ _ hr2);have il:i<D.length:=by lia
   have e0:(0+(i:Int))=(i:Int):=by lia
   have at':Nx (D.map V.str) (0+(i:Int))=some (.str D[i]):=by
    rw[e0];exact Fd (by rw[zAx,zAg il];rfl)
   have dv2:0<=sh/11:=Int.ediv_nonneg sh0 (by decide);refine⟨_,rfl,.inl ⟨rfl,_,WL.of hr4⟩,_,rfl,_,rfl,nl,_,_,_,rfl,rfl,WL.of (s5 _ _ (s4 _ _ (s2 _ _ hnl))),at',_,rfl,_,rfl,_,rfl,_,_,rfl,rfl,⟨by decide,by decide⟩,_,rfl,sh/11,pl,PL,rfl,dv2,s5 _ _ (s4 _ _ (s2 _ _ hpl)),pool,λhl ys hs H5 s6 hhl px okh=>?_⟩;refine⟨_,rfl,_,_,rfl,rfl,(by show (0:Int)<4;decide),rfl,five,λtt ntt=>?_⟩;have s7:=Ap ntt (.tup [.str D[i],tv,.ref cL,.ref hl,.bl (decide (V.int (sh%4)=V.int 1))]);have htt:=Ac (H:=H5) (a:=tt) (o:=.tup [.str D[i],tv,.ref cL,.ref hl,.bl (decide (V.int (sh%4)=V.int 1))]);generalize upd H5 tt (.tup [.str D[i],tv,.ref cL,.ref hl,.bl (decide (V.int (sh%4)=V.int 1))])=H6 at s7 htt;generalize decide (V.int (sh%4)=V.int 1)=wt at htt;have s46:=s5.trans (s6.trans s7);have s26:=s4.trans s46;have hr6:=s26 _ _ hr2;have lxs:xs.length=i:=by
    rw[al.len];have:=congrArg List.length en;rw[zAa,zAw] at this
    lia
   refine⟨r,_,_,rfl,rfl,hr6,by rw[lxs,zCf];lia,⟨_,_,_,_,_,rfl⟩,λb o e=>?_,xs++[.ref tt],ls++[⟨D[i],t,cls,hs,wt⟩],Ac,?_,?_,?_⟩
   .rw[Au (Ak e nr)]
    exact s26 _ _ (s2 _ _ e)
   .have su:WJ (WK (r::E0) H6) (WK (r::E0) (upd H6 r (.lst (xs++[.ref tt])))):=λb o e=>by
     obtain⟨e0,e⟩:=WK.at e;exact WK.of e0 (by rw[Au (λz=>e0 (by rw[z];simp))];exact e)
    have so:WJ (WK (r::E0) H2) (WK (r::E0) H6):=WK.mono (λb o e _=>s26 b o e) λx hx=>.inl hx;have n3:WJ (Nw H3 H4) (WK (r::E0) H6):=(WK.new (inE (s2.trans s4) (s4 _ _ hr2))).trans (WK.mono (λb o e _=>s7 _ _ (s6 _ _ e)) λx hx=>.inl hx);have n4:WJ (Nw H4 H5) (WK (r::E0) H6):=(WK.new (inE (s2.trans (s4.trans s5)) hr4)).trans (WK.mono (λb o e _=>s7 _ _ e) λx hx=>.inl hx);have o36:WJ (WK (r::E0) H3) (WK (r::E0) H6):=WK.mono (λb o e _=>s46 b o e) λx hx=>.inl hx;have ntE:tt∉r::E0:=λz=>by obtain⟨o,z⟩:=inE (s2.trans (s4.trans (s5.trans s6))) (s6 _ _ hr4) _ z;rw[ntt] at z;cases z
    have ncE:cL∉r::E0:=λz=>by obtain⟨o,z⟩:=inE s2 hr2 _ z;rw[ncl] at z;cases z
    refine (al.imp λv d h=>h.same (so.trans su)).app (.cons (XO.same ⟨tt,tv,cL,hl,cs,ys,rfl,WK.of ntE htt,WP.same n3 _ tr,WK.of ncE (s46 _ _ hcl),alc.imp λv c h=>h.same o36,n4 _ _ hhl,px.mono (Fu n4)⟩ su) .nil)
   .rw[zAf,en,Bv (zAg il)]
    rfl
   .intro d hd
    rcases zAF.mp hd with hd|hd
    .exact okl d hd
    .rw[zAp.mp hd]
     have mD:=YL.ok _ (zBn il);refine⟨⟨⟨mD.1,mD.2.2⟩,okt,⟨by show cls.length<=8;lia,λc hc=>?_⟩,okh.sh,okh.nd,okh.gw⟩,hg⟩;obtain⟨j,hj,ej⟩:=zBc hc;have jc:j<cs.length:=by rw[alc.len];exact hj
     obtain⟨c',ec,ct⟩:=alc.get (zAg jc);rw[zAg hj] at ec;have:c'=c:=by rw[<- ej];exact (Option.some.inj ec).symm
     subst this;obtain⟨_,r',_,_,er,okr⟩:=ct;rw[<- er];exact OX okr
 .rintro σ H2 ⟨⟨o8,o9,o10,o11,o12,rfl⟩,s2,xs,ls,hr2,al,en,okl⟩
  refine⟨_,rfl,q r xs ls H2 s2 hr2 (al.imp λv d h=>h.same (λb o e=>by obtain⟨e0,e⟩:=WK.at e;exact WK.of (λz=>e0 (zAi _ z)) e)) ?_ okl⟩;rw[en,<- lD,zAt]
def J3:Bc ["_law_found","_law_cover","_law_name","_law_cond_here","_law_clauses","_law_houses_here","_law_waits"] ["_law_found","_law_cover"] (Av Mu):=by injections
def L0 {f:Addr} {fd:zCh} (F:WV K "_law_same" "_law_same" Mu f fd) (T:Txt K mg) (L:Kl K mg Ab Ae Ad Ah Ao Ax Ay Am Al Ba An Aq Bb As Bd Af Aw) (Cshow_condition:Cy P w K mg base 201 "show_condition" ["condition"] (CG (A8.mk Ab Ae Ad Ah Ao Ax Ay Am))) (C_law_text:Cy P w K mg base 11 "_law_text" ["_law_cond_here"] (Z5 5)) (Mwords:E5 P w K mg base 2 (KE Ba An Aq) "words" ["self"] (DK Al Ba An Aq)) (C_law_clause_row:Cy P w K mg base 2 "_law_clause_row" ["_law_clause"] N6) :
  WN P w K mg base Do 202 f fd ["_law_found","_law_cover"] (X8 (A8.mk Ab Ae Ad Ah Ao Ax Ay Am) Al Ba An Aq As Bb):=by
 have sc:=J3;bv_omega
 .obtain⟨_,_,_,rfl,_⟩:=h
  rfl
 obtain⟨p,v,d,rfl,co,⟨a,tv,lcl,lhl,lcs,lxs,rfl,h1,h2,h3,h4,h5,h6⟩,⟨ok,hg⟩,q⟩:=h;have hu:=Y8 hr;obtain⟨cl,hv,dd,wh,wt,cv,cs,⟨⟨dx,fs,hp,f1,f2,f3,f4,f5,f6,_⟩,hc,hh,⟨⟨dxd,hd⟩,_,ht⟩⟩,hcd,hcl⟩:=co;refine⟨_,(Ai (Wa (pv 1) (Js (n:=5) rfl (By (Bl (i:=2) sc.nd rfl (Or.inl rfl)) (By (Bl (i:=3) sc.nd rfl (Or.inl rfl)) (By (Bl (i:=4) sc.nd rfl (Or.inl rfl)) (By (Bl (i:=5) sc.nd rfl (Or.inl rfl)) (By (Bl (i:=6) sc.nd rfl (Or.inl rfl)) Fz)))))))
   (Ai (Bu (PW.pt (Fe (Bf Pf (Bx (pv 0) rfl) (pv 2) (Bk _)) (Fe (Bf Pf (Bx (pv 0) rfl) (pv 6) (Bk _)) (Et (Bf Pf (Az Cshow_condition (hr.mono (by decide)) rfl (Aa (Bx (pv 0) rfl) Ag)) (Az C_law_text (hr.mono (by decide)) rfl (Aa (pv 3) Ag)) (Bk _))))))
    (Aj (Bh Fn))
    Bj)
   (Ai (Bu (Bf (Mp hu) (Eh (NC:=["_law_one"]) (own:=["_law_one"]) (cs:=[]) (ix:=[]) rfl (WO.of rfl) rfl trivial (Dg (Bx (pv 0) rfl)) (λ_ _ _=>(Bl (i:=0) (show (["_law_one"]:List Str).Nodup from by ac_nf) rfl (Or.inl rfl))) (λ_ _ _=>Dq) (λ_ _ _=>(Ka (K:=K) rfl PySem.F.plainAttrs_str PySem.F.slot_str_join PySem.F.type_str_join (Ix (K:=K) rfl) Bg (Aa (Iv Mwords (hr.mono (by decide)) (pv 0)) Ag)))) (Eh (NC:=["_law_one"]) (own:=["_law_one"]) (cs:=[]) (ix:=[]) rfl (WO.of rfl) rfl trivial (Dg (pv 4)) (λ_ _ _=>(Bl (i:=0) (show (["_law_one"]:List Str).Nodup from by ac_nf) rfl (Or.inl rfl))) (λ_ _ _=>Dq) (λ_ _ _=>(Az C_law_clause_row (hr.mono (by decide)) rfl (Aa (pv 0) Ag)))) (Bk _))
    (Aj (Bh Fn))
    Bj)
   (Aj (Bh (Tq (Ku (IF hu) (Bx (pv 0) rfl) (Eh (NC:=["_law_pair"]) (own:=["_law_pair"]) (cs:=[]) (ix:=[]) rfl (WO.of rfl) rfl trivial (Dg (pv 5)) (λ_ _ _=>(Bl (i:=0) (show (["_law_pair"]:List Str).Nodup from by ac_nf) rfl (Or.inl rfl))) (λ_ _ _=>Dq) (λ_ _ _=>(Cc (Vm (K:=K) rfl) (pv 0) Ar (λ_ _=>rfl)))) (Bk _)) (Sy (Ku (IF hu) (Bx (Bx (pv 0) rfl) rfl) (Eh (NC:=["_law_pair"]) (own:=["_law_pair"]) (cs:=[]) (ix:=[]) rfl (WO.of rfl) rfl trivial (Dg (pv 5)) (λ_ _ _=>(Bl (i:=0) (show (["_law_pair"]:List Str).Nodup from by ac_nf) rfl (Or.inl rfl))) (λ_ _ _=>Dq) (λ_ _ _=>(Cc (Vm (K:=K) rfl) (pv 0) Ar (λ_ _=>rfl)))) (Bk _))))))))),?_⟩
 obtain⟨okt,l60,d6,h66⟩:=ok.t;have cl8:=ok.cl.1;refine⟨_,rfl,a,_,rfl,WX.of h1,rfl,vC rfl (vC rfl (vC rfl (vC rfl (vC rfl ⟨rfl,?_⟩))))⟩;refine RS [some (.ref p),some (.ref a),some (.str d.nm),some tv,some (.ref lcl),some (.ref lhl),some (.bl d.wt)] rfl ?_;refine⟨_,rfl,p,_,dx,fs,_,rfl,hp,L.cl_Cover,L.na_Cover_name,f1,_,rfl,rfl,_,rfl,nF rfl ?_⟩;refine⟨_,rfl,p,_,dx,fs,_,rfl,hp,L.cl_Cover,L.na_Cover_waits,f6,_,rfl,rfl,_,rfl,nF rfl ?_⟩;refine⟨_,rfl,p,_,dx,fs,_,rfl,hp,L.cl_Cover,L.na_Cover_condition,f2,cv,d.t,rfl,hcd,h66,okt,l60,λH1 s1=>?_⟩;refine⟨_,rfl,tv,d.t,rfl,WP.same s1 _ h2,hg,okt,l60,λH2 s2=>?_⟩;refine⟨rfl,_,rfl,nF rfl ?_⟩;have t2:=s1.trans s2;refine⟨_,rfl,p,_,dx,fs,_,rfl,t2 _ _ hp,L.cl_Cover,L.na_Cover_clauses,f3,cl,rfl,⟨_,WL.of (t2 _ _ hc)⟩,λb nb=>?_⟩;refine De (K:=K) (a:=cl) (xs:=cs) (λi ys H3=>ys=((d.cl.take i).map (λc=>(WU.cls c).row)).map V.str/\H3 b=some (.lst ys)/\WJ H2 H3) ⟨rfl,Ac,Ap nb _⟩
  (λi ys H3 _ ⟨e,g1,s3⟩=>⟨g1,by rw[e,zAa,zAa,zAw];lia,WL.of (s3 _ _ (t2 _ _ hc))⟩) (by rw[hcl.len,zCf];lia) (λi x ys H3 hi ⟨e,g1,s3⟩=>?_) (λys H3 ⟨e,hb3,s3⟩=>?_)
 .obtain⟨c,ec,pu,rfl,⟨dc,hpu⟩⟩:=hcl.get hi
  have okc:=ok.cl.2 c (zAs ec);have hpu3:=s3 _ _ (t2 _ _ hpu);refine⟨rfl,_,rfl,pu,_,dc,Jm c,rfl,hpu3,AY okc,MM c,pu,c,rfl,⟨dc,hpu3⟩,rfl,CP okc,λl H4 s4 nl hl=>?_⟩;rw[IX] at hl;have wk:=Rz (r:=.cls c) okc;have w1:1<=(V9 c).length:=wk.2.1;have w2:=L5 c;refine⟨_,l,V9 c,rfl,rfl,.inl (WL.of hl),w1,by lia,by ac_nf,λy hy=>by have:=(wk.1 y hy).2;lia,s4 _ _ g1,rfl,?_,Ac,λb' o z=>?_⟩
  .rw[Bv ec,zAf,zAf,e]
   rfl
  .rw[Au (Ak z nb)]
   exact s4 _ _ (s3 _ _ z)
 rw[hcl.len,zAt] at e;subst e;have t3:=t2.trans s3;refine⟨_,rfl,lcl,rfl,⟨_,WL.of (t3 _ _ h3)⟩,λb2 nb2=>?_⟩;refine De (K:=K) (a:=lcl) (xs:=lcs) (λi ys H4=>ys=((d.cl.take i).map (λc=>(WU.cls c).row)).map V.str/\H4 b2=some (.lst ys)/\WJ H3 H4) ⟨rfl,Ac,Ap nb2 _⟩
  (λi ys H4 _ ⟨e,g1,s4⟩=>⟨g1,by rw[e,zAa,zAa,zAw];lia,WL.of (s4 _ _ (t3 _ _ h3))⟩) (by rw[h4.len,zCf];lia) (λi x ys H4 hi ⟨e,g1,s4⟩=>?_) (λys H4 ⟨e,hb4,s4⟩=>?_)
 .obtain⟨c,ec,ct⟩:=h4.get hi
  refine⟨_,rfl,x,c,rfl,(ct.same t3).same s4,g1,rfl,?_,Ac,λb' o z=>?_⟩
  .rw[Bv ec,zAf,zAf,e]
   rfl
  .rw[Au (Ak z nb2)]
   exact s4 _ _ z
 rw[h4.len,zAt] at e;subst e;have t4:=t3.trans s4;refine⟨b,b2,_,_,rfl,rfl,WL.of (s4 _ _ hb3),WL.of hb4,Fm _,Fm _,_,rfl,?_⟩;show if (!Uf (((d.cl.map (λc=>(WU.cls c).row))).map V.str) (((d.cl.map (λc=>(WU.cls c).row))).map V.str))=true then _ else _;rw[Qq];refine nF rfl ?_;have lxs':lxs.length=d.hs.length:=by rw[h6.len];unfold Sz;rw[zAa]
 have l3:=ok.hs.2.1;refine⟨_,rfl,p,_,dx,fs,_,rfl,t4 _ _ hp,L.cl_Cover,L.na_Cover_houses,f4,_,rfl,lhl,rfl,⟨_,WL.of (t4 _ _ h5)⟩,λb3 nb3=>?_⟩;refine De (K:=K) (a:=lhl) (xs:=lxs) (λi ys H5=>ys=((d.hs.take i).map (·.1)).map V.str/\H5 b3=some (.lst ys)/\WJ H4 H5) ⟨rfl,Ac,Ap nb3 _⟩
  (λi ys H5 _ ⟨e,g1,s5⟩=>⟨g1,by rw[e,zAa,zAa,zAw];lia,WL.of (s5 _ _ (t4 _ _ h5))⟩) (by rw[lxs',zCf];lia) (λi x ys H5 hi ⟨e,g1,s5⟩=>?_) (λys H5 ⟨e,hb5,s5⟩=>?_)
 .obtain⟨t,pr,ep,rfl,htp⟩:=h6.get hi
  unfold Sz at ep;rw[zAx] at ep;obtain⟨y,ey,rfl⟩:=zAH.mp ep;refine⟨_,rfl,t,_,_,_,rfl,rfl,WX.of (s5 _ _ (t4 _ _ htp)),rfl,g1,rfl,?_,Ac,λb' o z=>?_⟩
  .rw[Bv ey,zAf,zAf,e]
   rfl
  .rw[Au (Ak z nb3)]
   exact s5 _ _ z
 rw[lxs',zAt] at e;subst e;have t5:=t4.trans s5;refine⟨hv,b3,_,_,rfl,rfl,WL.of (t5 _ _ hh),WL.of hb5,Fm _,Fm _,?_⟩;show ∃ b,V.bl (Uf ((d.hs.map (·.1)).map V.str) ((d.hs.map (·.1)).map V.str))=V.bl b/\_;rw[Qq];refine⟨true,by simp,?_⟩;refine⟨_,rfl,p,_,dx,fs,_,rfl,t5 _ _ hp,L.cl_Cover,L.na_Cover_deal,f5,dd,_,dxd,_,_,rfl,t5 _ _ hd,L.cl_Deal,L.na_Deal_weights,Jz _ _,_,rfl,lhl,rfl,⟨_,WL.of (t5 _ _ h5)⟩,λb4 nb4=>?_⟩;refine De (K:=K) (a:=lhl) (xs:=lxs) (λi ys H6=>ys=((d.hs.take i).map (·.2)).map V.int/\H6 b4=some (.lst ys)/\WJ H5 H6) ⟨rfl,Ac,Ap nb4 _⟩
  (λi ys H6 _ ⟨e,g1,s6⟩=>⟨g1,by rw[e,zAa,zAa,zAw];lia,WL.of (s6 _ _ (t5 _ _ h5))⟩) (by rw[lxs',zCf];lia) (λi x ys H6 hi ⟨e,g1,s6⟩=>?_) (λys H6 ⟨e,hb6,s6⟩=>?_)
 .obtain⟨t,pr,ep,rfl,htp⟩:=h6.get hi
  unfold Sz at ep;rw[zAx] at ep;obtain⟨y,ey,rfl⟩:=zAH.mp ep;refine⟨_,rfl,t,_,_,_,rfl,rfl,WX.of (s6 _ _ (t5 _ _ htp)),rfl,g1,rfl,?_,Ac,λb' o z=>?_⟩
  .rw[Bv ey,zAf,zAf,e]
   rfl
  .rw[Au (Ak z nb4)]
   exact s6 _ _ z
 rw[lxs',zAt] at e;subst e;have t6:=t5.trans s6;refine⟨wt,b4,_,_,rfl,rfl,WL.of (t6 _ _ ht),WL.of hb6,Og _,Og _,?_⟩;show Q (.bl (Uf ((d.hs.map (·.2)).map V.int) ((d.hs.map (·.2)).map V.int))) H6;rw[M6,decide_eq_true rfl];exact q _ t6
end
def TV:WU->Option Dw
 |.when t=>some t
 |_=>none
def F0:WU->Option Cl
 |.cls c=>some c
 |_=>none
def Pe:WU->Bool
 |.when _=>true
 |_=>false
def Pc:WU->Bool
 |.shr _=>true
 |_=>false
def Pd:WU->Bool
 |.wts=>true
 |_=>false
def Pb:WU->Bool
 |.cls _=>true
 |_=>false
def MW:WU->Bool
 |.cov _=>true
 |_=>false
def LH (b:Bool):Nat:=if b=true then 1 else 0
def KC (rs:List WU):∀ d:Dr,(rs.foldl Dr.put d).nm=d.nm:=by
 induction rs with
 |nil=>intro d;rfl
 |cons r rs ih=>intro d;rw[zBe,ih];cases r <;> rfl
def KL (rs:List WU):∀ d:Dr,(rs.foldl Dr.put d).cl=d.cl++rs.filterMap F0:=by
 induction rs with
 |nil=>intro d;simp
 |cons r rs ih=>intro d;rw[zBe,ih];cases r <;> simp [Dr.put,F0,zBb]
def LO {t:Dw} (rs:List WU):∀ d:Dr,(∀ t',WU.when t'∈rs->t'=t)->((WU.when t∈rs\/d.cd=some t)->(rs.foldl Dr.put d).cd=some t)/\((∀ t',WU.when t'∉rs)->(rs.foldl Dr.put d).cd=d.cd):=by
 induction rs with
 |nil=>intro d _;exact⟨λh=>h.elim (λz=>nomatch z) id,λ_=>rfl⟩
 |cons r rs ih=>
  intro d h;obtain⟨i1,i2⟩:=ih (d.put r) λt' m=>h t' (zAi _ m);refine⟨λz=>?_,λz=>?_⟩
  .rw[zBe]
   refine i1 ?_;rcases z with z|z
   .rcases zAj.mp z with z|z
    .subst z;exact .inr rfl
    .exact .inl z
   .cases r with
    |when t'=>have:=h t' zAk;subst this;exact .inr rfl
    |_=>exact .inr z
  .rw[zBe,i2 λt' m=>z t' (zAi _ m)]
   cases r with
   |when t'=>exact absurd zAk (z t')
   |_=>rfl
def KZ {l:List (Str×Int)} (rs:List WU):∀ d:Dr,(∀ l',WU.shr l'∈rs->l'=l)->((WU.shr l∈rs\/d.sh=some l)->(rs.foldl Dr.put d).sh=some l)/\((∀ l',WU.shr l'∉rs)->(rs.foldl Dr.put d).sh=d.sh):=by
 induction rs with
 |nil=>intro d _;exact⟨λh=>h.elim (λz=>nomatch z) id,λ_=>rfl⟩
 |cons r rs ih=>
  intro d h;obtain⟨i1,i2⟩:=ih (d.put r) λt' m=>h t' (zAi _ m);refine⟨λz=>?_,λz=>?_⟩
  .rw[zBe]
   refine i1 ?_;rcases z with z|z
   .rcases zAj.mp z with z|z
    .subst z;exact .inr rfl
    .exact .inl z
   .cases r with
    |shr t'=>have:=h t' zAk;subst this;exact .inr rfl
    |_=>exact .inr z
  .rw[zBe,i2 λt' m=>z t' (zAi _ m)]
   cases r with
   |shr t'=>exact absurd zAk (z t')
   |_=>rfl
def KS (rs:List WU):∀ d:Dr,((WU.wts∈rs\/d.wt=true)->(rs.foldl Dr.put d).wt=true)/\(WU.wts∉rs->(rs.foldl Dr.put d).wt=d.wt):=by
 induction rs with
 |nil=>intro d;exact⟨λh=>h.elim (λz=>nomatch z) id,λ_=>rfl⟩
 |cons r rs ih=>
  intro d;obtain⟨i1,i2⟩:=ih (d.put r);refine⟨λz=>?_,λz=>?_⟩
  .rw[zBe]
   refine i1 ?_;rcases z with z|z
   .rcases zAj.mp z with z|z
    .subst z;exact .inr rfl
    .exact .inl z
   .cases r with
    |wts=>exact .inr rfl
    |_=>exact .inr z
  .rw[zBe,i2 λm=>z (zAi _ m)]
   cases r with
   |wts=>exact absurd zAk z
   |_=>rfl
structure HW (l:List (Str×Int)):Prop where
 ok:∀ z∈l.map (·.1),Ew (.str z)=true
 nd:(l.map (·.1)).Nodup
 gw:CR.GW (l.map (·.2))
theorem Rb {ds:List Dr} {rest:List WU} {ds':List Dr}:∀ (rs:List WU) (d:Dr),Kd d->(∀ r∈rs,Vt r/\MW r=false)->(∀ l,WU.shr l∈rs->HW l)->rs.countP Pe+LH d.cd.isSome<=1->rs.countP Pc+LH d.sh.isSome<=1->rs.countP Pd+LH d.wt<=1->rs.countP Pb+d.cl.length<=8->XT (ds++[rs.foldl Dr.put d]) rest ds'->XT (ds++[d]) (rs++rest) ds'
 |[],d,_,_,_,_,_,_,_,h=>h
 |r::rs,d,g,ok,sh,n1,n2,n3,n4,h=>by
  have okr:=ok r zAk;have ok':∀ x∈rs,Vt x/\MW x=false:=λx hx=>ok x (zAi _ hx);have sh':∀ l,WU.shr l∈rs->HW l:=λl hl=>sh l (zAi _ hl);rw[zBe] at h;rw[List.countP_cons] at n1 n2 n3 n4;rw[zAZ];cases r with
  |cov n=>have:=okr.2;cases this
  |when t=>
   have e:d.cd=none:=by
    cases z:d.cd with
    |none=>rfl
    |some x=>rw[z] at n1;simp [Pe,LH] at n1
   have gd:Kd (d.put (.when t)):=⟨g.nm,g.ns,g.cl,g.hs,g.gw⟩;refine .put okr.1 e gd (Rb rs _ gd ok' sh' ?_ ?_ ?_ ?_ h)
   .rw[e] at n1;simp [Pe,LH,Dr.put] at n1 ⊢;omega
   .simp [Pc,Dr.put] at n2 ⊢;omega
   .simp [Pd,Dr.put] at n3 ⊢;omega
   .simp [Pb,Dr.put] at n4 ⊢;omega
  |cls c=>
   have lc:d.cl.length+1<=8:=by simp [Pb] at n4;omega
   have gd:Kd (d.put (.cls c)):=⟨g.nm,g.ns,by show (d.cl++[c]).length<=8;rw[zAc];exact lc,g.hs,g.gw⟩;refine .put okr.1 (by show d.cl.length<=100;omega) gd (Rb rs _ gd ok' sh' ?_ ?_ ?_ ?_ h)
   .simp [Pe,Dr.put] at n1 ⊢;omega
   .simp [Pc,Dr.put] at n2 ⊢;omega
   .simp [Pd,Dr.put] at n3 ⊢;omega
   .simp [Pb,Dr.put] at n4 ⊢;omega
  |shr l=>
   have e:d.sh=none:=by
    cases z:d.sh with
    |none=>rfl
    |some x=>rw[z] at n2;simp [Pc,LH] at n2
   have gl:=sh l zAk;have gd:Kd (d.put (.shr l)):=⟨g.nm,g.ns,g.cl,⟨gl.ok,gl.nd⟩,gl.gw⟩;refine .put okr.1 e gd (Rb rs _ gd ok' sh' ?_ ?_ ?_ ?_ h)
   .simp [Pe,Dr.put] at n1 ⊢;omega
   .rw[e] at n2;simp [Pc,LH,Dr.put] at n2 ⊢;omega
   .simp [Pd,Dr.put] at n3 ⊢;omega
   .simp [Pb,Dr.put] at n4 ⊢;omega
  |wts=>
   have e:d.wt=false:=by
    cases z:d.wt with
    |false=>rfl
    |true=>rw[z] at n3;simp [Pd,LH] at n3
   have gd:Kd (d.put .wts):=⟨g.nm,g.ns,g.cl,g.hs,g.gw⟩;refine .put okr.1 e gd (Rb rs _ gd ok' sh' ?_ ?_ ?_ ?_ h)
   .simp [Pe,Dr.put] at n1 ⊢;omega
   .simp [Pc,Dr.put] at n2 ⊢;omega
   .rw[e] at n3;simp [Pd,LH,Dr.put] at n3 ⊢;omega
   .simp [Pb,Dr.put] at n4 ⊢;omega
structure Drawn (d:LC) (rs:List WU):Prop where
 ex:∃ a b,(a=[WU.when d.t]\/(a=[]/\Lz d.t=true))/\(b=[WU.shr d.hs]\/(b=[]/\d.hs=[(d.nm,1)]))/\rs.Perm (d.cl.map WU.cls++(a++b++Gg d))/\rs.filterMap F0=d.cl
def GU {t:Dw} (h:Lz t=true):t=.at .alw:=by
 cases t with
 |«at» c=>
  cases c with
  |alw=>rfl
  |_=>cases h
 |_=>cases h
def RP {d:Dr} {l:LC} (h1:d.nm=l.nm) (h2:d.cd.getD (.at .alw)=l.t) (h3:d.cl=l.cl) (h4:d.sh.getD [(d.nm,1)]=l.hs) (h5:d.wt=l.wt):d.lc=l:=by
 cases l
 unfold Dr.lc;simp only at h1 h2 h3 h4 h5;rw[h2,h3,h4,h5,h1]
def EQ {d:LC} {rs:List WU} (ok:QG d) (dr:Drawn d rs) {ds:List Dr} {rest:List WU} (l8:ds.length<8) (nn:d.nm∉ds.map (·.nm)):∃ x:Dr,x.lc=d/\∀ ds',XT (ds++[x]) rest ds'->XT ds (WU.cov d.nm::rs++rest) ds':=by
 obtain⟨a,b,ha,hb,pm,fm⟩:=dr;have mem:∀ r,r∈rs↔r∈d.cl.map WU.cls++(a++b++Gg d):=λr=>pm.mem_iff;have mw:∀ r∈Gg d,r=.wts/\d.wt=true:=λr hr=>by
  unfold Gg at hr
  split at hr
  .exact⟨zAp.mp hr,by assumption⟩
  .cases hr
 have m0:∀ r∈rs,(∃ c∈d.cl,r=.cls c)\/(r=.when d.t/\a=[WU.when d.t])\/(r=.shr d.hs/\b=[WU.shr d.hs])\/(r=.wts/\d.wt=true):=λr hr=>by
  rcases zAF.mp ((mem r).mp hr) with z|z
  .obtain⟨c,hc,rfl⟩:=zAz.mp z;exact .inl ⟨c,hc,rfl⟩
  rcases zAF.mp z with z|z
  .rcases zAF.mp z with z|z
   .rcases ha with e|⟨e,_⟩
    .rw[e] at z;exact .inr (.inl ⟨zAp.mp z,e⟩)
    .rw[e] at z;cases z
   .rcases hb with e|⟨e,_⟩
    .rw[e] at z;exact .inr (.inr (.inl ⟨zAp.mp z,e⟩))
    .rw[e] at z;cases z
  .exact .inr (.inr (.inr (mw r z)))
 have cnt:∀ p:WU->Bool,rs.countP p=(d.cl.map WU.cls).countP p+(a.countP p+b.countP p+(Gg d).countP p):=λp=>by rw[pm.countP_eq,List.countP_append,List.countP_append,List.countP_append]
 have cw:∀ p:WU->Bool,(Gg d).countP p<=1:=λp=>zAD List.countP_le_length (Qn d).2.2;have ca:∀ p:WU->Bool,a.countP p<=1/\(p (.when d.t)=false->a.countP p=0):=λp=>by rcases ha with rfl|⟨rfl,_⟩ <;> simp [List.countP_cons] ;split <;> simp_all
 have cb:∀ p:WU->Bool,b.countP p<=1/\(p (.shr d.hs)=false->b.countP p=0):=λp=>by rcases hb with rfl|⟨rfl,_⟩ <;> simp [List.countP_cons] ;split <;> simp_all
 have cw0:∀ p:WU->Bool,p .wts=false->(Gg d).countP p=0:=λp hp=>by unfold Gg;split <;> simp [hp]
 have cc:∀ p:WU->Bool,(∀ c,p (.cls c)=false)->(d.cl.map WU.cls).countP p=0:=λp hp=>by
  rw[List.countP_eq_zero];intro x hx;obtain⟨c,_,rfl⟩:=zAz.mp hx;rw[hp c];exact zAo
 have gn:=Wh ok.nm;refine⟨rs.foldl Dr.put (Ps d.nm),?_,λds' h=>.cov ok.nm l8 nn (Rb rs (Ps d.nm) gn (λr hr=>?_) (λl hl=>?_) ?_ ?_ ?_ ?_ h)⟩
 rotate_left
 .rcases m0 r hr with ⟨c,hc,rfl⟩|⟨rfl,_⟩|⟨rfl,_⟩|⟨rfl,_⟩
  .exact⟨ok.cl.2 c hc,rfl⟩
  .exact⟨ok.t,rfl⟩
  .exact⟨ok.hs,rfl⟩
  .exact⟨trivial,rfl⟩
 .rcases m0 _ hl with ⟨c,_,e⟩|⟨e,_⟩|⟨e,_⟩|⟨e,_⟩
  .cases e
  .cases e
  .cases e
   refine⟨λz hz=>?_,ok.nd,ok.gw⟩;obtain⟨x,hx,rfl⟩:=zAz.mp hz;exact (ok.hs.2.2 x hx).1
  .cases e
 .rw[cnt,cc Pe λ_=>rfl,(cb Pe).2 rfl,cw0 Pe rfl]
  have:=(ca Pe).1;show 0+(_+0+0)+0<=1
  lia
 .rw[cnt,cc Pc λ_=>rfl,(ca Pc).2 rfl,cw0 Pc rfl]
  have:=(cb Pc).1;show 0+(0+_+0)+0<=1
  lia
 .rw[cnt,cc Pd λ_=>rfl,(ca Pd).2 rfl,(cb Pd).2 rfl]
  have:=cw Pd;show 0+(0+0+_)+0<=1
  lia
 .rw[cnt,(ca Pb).2 rfl,(cb Pb).2 rfl,cw0 Pb rfl]
  have h1:(d.cl.map WU.cls).countP Pb<=d.cl.length:=by rw[<- zAa (f:=WU.cls)];exact List.countP_le_length
  have h2:=ok.cl.1;show _+(0+0+0)+0<=8
  lia
 .have u1:∀ t',WU.when t'∈rs->t'=d.t:=λt' m=>by
   rcases m0 _ m with ⟨c,_,e⟩|⟨e,_⟩|⟨e,_⟩|⟨e,_⟩ <;> cases e
   rfl
  have u2:∀ l',WU.shr l'∈rs->l'=d.hs:=λt' m=>by
   rcases m0 _ m with ⟨c,_,e⟩|⟨e,_⟩|⟨e,_⟩|⟨e,_⟩ <;> cases e
   rfl
  obtain⟨w1,w2⟩:=LO rs (Ps d.nm) u1;obtain⟨v1,v2⟩:=KZ rs (Ps d.nm) u2;obtain⟨x1,x2⟩:=KS rs (Ps d.nm);have enm:(rs.foldl Dr.put (Ps d.nm)).nm=d.nm:=KC rs _;refine RP enm ?_ ?_ ?_ ?_
  .rcases ha with e|⟨e,al⟩
   .rw[w1 (.inl ((mem _).mpr (by rw[e];simp)))];rfl
   .rw[w2 λt' m=>?_,GU al]
    .rfl
    .rcases m0 _ m with ⟨c,_,z⟩|⟨_,z⟩|⟨z,_⟩|⟨z,_⟩
     .cases z
     .rw[e] at z;cases z
     .cases z
     .cases z
  .rw[KL,fm];rfl
  .rcases hb with e|⟨e,al⟩
   .rw[v1 (.inl ((mem _).mpr (by rw[e];simp)))];rfl
   .rw[v2 λt' m=>?_,al,enm]
    .rfl
    .rcases m0 _ m with ⟨c,_,z⟩|⟨z,_⟩|⟨_,z⟩|⟨z,_⟩
     .cases z
     .cases z
     .rw[e] at z;cases z
     .cases z
  .cases ew:d.wt with
   |true=>
    rw[x1 (.inl ((mem _).mpr (by unfold Gg;rw[ew];simp)))]
   |false=>
    rw[x2 λm=>?_]
    .rfl
    .rcases m0 _ m with ⟨c,_,z⟩|⟨z,_⟩|⟨z,_⟩|⟨_,z⟩
     .cases z
     .cases z
     .cases z
     .rw[ew] at z;cases z
theorem E3:∀ (ls:List LC) (rss:List (List WU)),(∀ d∈ls,QG d)->XC Drawn ls rss->∀ ds0:List Dr,ds0.length+ls.length<=8->(ds0.map (·.nm)++ls.map (·.nm)).Nodup->∃ ds,XT ds0 ((zBl (λd rs=>WU.cov (LC.nm d)::rs) ls rss).flatten) ds/\ds.map Dr.lc=ds0.map Dr.lc++ls
 |[],[],_,_,ds0,_,_=>⟨ds0,.nil,by simp⟩
 |d::ls,rs::rss,ok,.cons a al,ds0,l8,nd=>by
  rw[zAe] at l8;rw[zAv] at nd;have nn:d.nm∉ds0.map (·.nm):=λz=>(zBa.mp nd).2.2 _ z d.nm (by simp) rfl;have key:∀ x:Dr,x.lc=d->∃ ds,XT (ds0++[x]) ((zBl (λd rs=>WU.cov (LC.nm d)::rs) ls rss).flatten) ds/\ds.map Dr.lc=(ds0++[x]).map Dr.lc++ls:=λx hx=>by
   have ex:x.nm=d.nm:=by rw[<- hx];rfl
   refine E3 ls rss (λy hy=>ok y (zAi _ hy)) al (ds0++[x]) (by rw[zAc,zAX];lia) ?_;rw[zAf,zAv,zBy,ex,zAA];exact nd
  have one:∃ x:Dr,x.lc=d/\∀ ds',XT (ds0++[x]) ((zBl (λd rs=>WU.cov (LC.nm d)::rs) ls rss).flatten) ds'->XT ds0 (WU.cov d.nm::rs++(zBl (λd rs=>WU.cov (LC.nm d)::rs) ls rss).flatten) ds':=EQ (ok d zAk) a (by lia) nn;obtain⟨x,hx,go⟩:=one;obtain⟨ds,h1,h2⟩:=key x hx;refine⟨ds,?_,?_⟩
  .rw[List.zipWith_cons_cons,zBv]
   exact go ds h1
  .rw[h2,zAf,zAA]
   show ds0.map Dr.lc++([x.lc]++ls)=_;rw[hx];rfl
 |[],_::_,_,h,_,_,_=>by cases h
 |_::_,[],_,h,_,_,_=>by cases h
def O6 {d:LC}:Drawn d (Ft d++(d.cl.map WU.cls++(Ky d++Gg d))):=by
 refine⟨Ft d,Ky d,?_,?_,?_,?_⟩
 .unfold Ft
  by_cases c:Lz d.t=true
  .rw[if_pos c];exact .inr ⟨rfl,c⟩
  .rw[if_neg c];exact .inl rfl
 .unfold Ky
  by_cases c:d.hs=[(d.nm,1)]
  .rw[if_pos c];exact .inr ⟨rfl,c⟩
  .rw[if_neg c];exact .inl rfl
 .rw[<- zAA,<- zAA,<- zAA,<- zAA]
  exact List.Perm.append_right _ (List.Perm.append_right _ List.perm_append_comm)
 .rw[zBo,zBo,zBo]
  have e1:(Ft d).filterMap F0=[]:=by unfold Ft;split <;> rfl
  have e2:(Ky d).filterMap F0=[]:=by unfold Ky;split <;> rfl
  have e3:(Gg d).filterMap F0=[]:=by unfold Gg;split <;> rfl
  rw[e1,e2,e3,zAI,zAI,List.nil_append,List.filterMap_map];show d.cl.filterMap (λc=>some c)=d.cl;exact List.filterMap_some
def HE {xs:List V} {k:Nat} (h:k<=xs.length):Mq xs (some (k:Int)) none=xs.drop k:=by
 unfold Mq;rw[HT.sIx_nat,HT.sIx_none,Nat.min_eq_left h,zBJ (by rw[zBE];lia)]
inductive NM  (vs:List V) (H:Hp) (Q:VK):Prop
 |mk (v:_) (c:Int) (d:_) (z0:vs=[v,.int c]) (z1:0<=c) (z2:XO H v d) (z3:S2 d) (z4:∀ l rs H',WJ H H'->H' l=some (.lst ((WU.cov d.nm::rs).map Br))->Drawn d rs->rs.length<=12->Q (.ref l) H'):NM  vs H Q
def ON:Sp:=λvs H Q _=>NM  vs H Q
section
seal L2.PS L2.PSs L2.PE L2.PA
variable {P:Program} {w:World} {K:zAb} {mg:Str->Option Value} {base:Heap}
def Qh:Bc ["_law_cover","_law_cell_here","_law_name","_law_cond_here","_law_clauses","_law_houses_here","_law_waits","_law_rows_here","_law_more","_law_k","_law_at"] ["_law_cover","_law_cell_here"] (Av Gn):=by injections
def Pp {f:Addr} {fd:zCh} (F:WV K "_law_drawn_rows" "_law_drawn_rows" Gn f fd) (T:Txt K mg) (C_law_text:Cy P w K mg base 11 "_law_text" ["_law_cond_here"] (Z5 5)) (C_law_clause_row:Cy P w K mg base 2 "_law_clause_row" ["_law_clause"] N6):WN P w K mg base Do 12 f fd ["_law_cover","_law_cell_here"] ON:=by
 have sc:=Qh;bv_omega
 .obtain⟨_,_,_,rfl,_⟩:=h
  rfl
 obtain⟨v,c,d,rfl,c0,⟨a,tv,cl,hl,cs,xs,rfl,h1,h2,h3,h4,h5,h6⟩,⟨ok,hg⟩,q⟩:=h;have hu64:=BG hr;refine⟨_,(Ai (Wa (pv 0) (Js (n:=5) rfl (By (Bl (i:=2) sc.nd rfl (Or.inl rfl)) (By (Bl (i:=3) sc.nd rfl (Or.inl rfl)) (By (Bl (i:=4) sc.nd rfl (Or.inl rfl)) (By (Bl (i:=5) sc.nd rfl (Or.inl rfl)) (By (Bl (i:=6) sc.nd rfl (Or.inl rfl)) Fz)))))))
   (Ai (Oe (NC:=["_law_one"]) (own:=["_law_one"]) (cs:=[]) (ix:=[]) (j:=7) sc.nd rfl rfl rfl (WO.of rfl) rfl trivial (Dg (pv 4)) (λ_ _ _=>(Bl (i:=0) (show (["_law_one"]:List Str).Nodup from by ac_nf) rfl (Or.inl rfl))) (λ_ _ _=>Dq) (λ_ _ _=>(Az C_law_clause_row (hr.mono (by decide)) rfl (Aa (pv 0) Ag))))
   (Ai (Bn (i:=8) sc.nd rfl (Or.inl rfl) (Cb Ag))
   (Ai (Bu (PW.pt (Fe (Bf (C4 (K:=K) hu64) (pv 3) (Cw (Aa Bg Ag)) (Bk _)) (Et (Bf Db (Be Cn (pv 1) Ar) Ar (Bk _)))))
    (Aj (Bz (Dy PySem.F.plainAttrs_list PySem.F.slot_list_append PySem.F.type_list_append Cj (pv 8) (Aa (Be Bw Bg (Az C_law_text (hr.mono (by decide)) rfl (Aa (pv 3) Ag))) Ag))))
    Bj)
   (Ai (Bu (PW.pt (Fe (Bf (C4 (K:=K) hu64) (pv 5) (Cb (Aa (Cw (Aa (pv 2) (Aa Ar Ag))) Ag)) (Bk _)) (Et (Bf Db (Be Cn (Be Cm (pv 1) Ar) Ar) Ar (Bk _)))))
    (Aj (Bz (Dy PySem.F.plainAttrs_list PySem.F.slot_list_append PySem.F.type_list_append Cj (pv 8) (Aa (Be Bw Bg (Ka (K:=K) rfl PySem.F.plainAttrs_str PySem.F.slot_str_join PySem.F.type_str_join (Ix (K:=K) rfl) Bg (Aa (Eh (NC:=["_law_house","_law_weight"]) (own:=["_law_house","_law_weight"]) (cs:=[]) (ix:=[]) rfl (WO.of rfl) rfl trivial (Dg (pv 5)) (λ_ _ _=>(A2 (K:=K) (n:=2) rfl rfl (By (Bl (i:=0) (show (["_law_house","_law_weight"]:List Str).Nodup from by ac_nf) rfl (Or.inl rfl)) (By (Bl (i:=1) (show (["_law_house","_law_weight"]:List Str).Nodup from by ac_nf) rfl (Or.inl rfl)) Fz)))) (λ_ _ _=>Dq) (λ_ _ _=>(Be Bw (Be Bw (pv 0) Bg) (Ck Dh rfl T.n_str (show zCg _=some (.type "str") from rfl) (Aa (pv 1) Ag))))) Ag))) Ag))))
    Bj)
   (Ai (Bu (Dc (pv 6))
    (Aj (Bz (Dy PySem.F.plainAttrs_list PySem.F.slot_list_append PySem.F.type_list_append Cj (pv 8) (Aa Bg Ag))))
    Bj)
   (Ai (El PassesOwn.never rfl (Ea rfl T.n_range (Aa (Bq Bp rfl T.n_len (show zCg _=some (.builtin "len") from rfl) (Aa (pv 8) Ag)) Ag)) (Bl (i:=9) sc.nd rfl (Or.inl rfl))
    (Ai (Bn (i:=10) sc.nd rfl (Or.inl rfl) (Be Cn (Be Cm (pv 1) (Be Da Ar (Be Ho Ar (pv 9)))) (Be Da (Bq Bp rfl T.n_len (show zCg _=some (.builtin "len") from rfl) (Aa (pv 7) Ag)) Ar)))
   (Aj (Bn (i:=7) sc.nd rfl (Or.inl rfl) (Be Jc (Be Jc (Mx Rx (pv 7) Qw (Rw (pv 10))) (Cb (Aa (Cc Bt (pv 8) (pv 9) (λ_ _=>rfl)) Ag))) (Mx Rx (pv 7) (Rw (pv 10)) Qw))))))
   (Aj (Bh (Be Jc (Cb (Aa (Be Bw Bg (pv 2)) Ag)) (pv 7))))))))))),?_⟩
 have one:1<=sizeLine:=by rw[zCf];decide
 have two:2<=sizeLine:=by rw[zCf];decide
 have nl8:=Fw ok.nm.1;obtain⟨okt,l60,d6,h66⟩:=ok.t;obtain⟨_,_,sl3⟩:=Qn d;have cl8:=ok.cl.1;have hlen:=h4.len;have le:=Kn (Lx okt) l60;have e5:(Str.ofString "when ").length=5:=by ac_nf
 refine W0 λN eN=>?_;refine⟨_,rfl,a,_,rfl,WX.of h1,rfl,vC rfl (vC rfl (vC rfl (vC rfl (vC rfl ⟨rfl,?_⟩))))⟩;refine RS [some (.ref a),some (.int c),some (.str d.nm),some tv,some (.ref cl),some (.ref hl),some (.bl d.wt),none,none,none,none] rfl (A3 eN λN eN=>?_);refine⟨_,rfl,cl,rfl,⟨_,WL.of h3⟩,λrr nrr=>?_⟩;refine De (K:=K) (a:=cl) (xs:=cs) (λi ys H3=>ys=(d.cl.take i).map (λc=>Br (.cls c))/\H3 rr=some (.lst ys)/\WJ H H3) ⟨rfl,Ac,Ap nrr _⟩
  (λi ys H3 _ ⟨e,h1,s3⟩=>⟨h1,by rw[e,zAa,zAw];lia,WL.of (s3 _ _ h3)⟩) (by rw[hlen,zCf];lia) (λi x ys H3 hi ⟨e,h1,s3⟩=>?_) (λys H1 ⟨e,hr1,s1⟩=>?_)
 .obtain⟨c,ec,ct⟩:=h4.get hi
  refine⟨_,rfl,x,c,rfl,ct.same s3,h1,rfl,?_,Ac,λb' o z=>?_⟩
  .rw[Bv ec,zAf,e]
   rfl
  .rw[Au (Ak z nrr)]
   exact s3 _ _ z
 rw[hlen,zAt] at e;subst e;refine AX eN [some (.ref a),some (.int c),some (.str d.nm),some tv,some (.ref cl),some (.ref hl),some (.bl d.wt),some (.ref rr),none,none,none] rfl λN eN=>?_;refine⟨zAB _,λmo nmo=>?_⟩;have s2:=s1.trans (Ap nmo (.lst []));have hr2:=Ap nmo (.lst []) _ _ hr1;have hm2:upd H1 mo (.lst []) mo=some (.lst []):=Ac;have fmo:H mo=none:=s1.free nmo;have nrm:rr≠mo:=Ak hr1 nmo;generalize upd H1 mo (.lst [])=H2 at s2 hr2 hm2;clear hr1 s1 nmo;refine AX eN [some (.ref a),some (.int c),some (.str d.nm),some tv,some (.ref cl),some (.ref hl),some (.bl d.wt),some (.ref rr),some (.ref mo),none,none] rfl λN eN=>?_;have fin4:∀ a' H',(a'=[WU.when d.t]\/(a'=[]/\Lz d.t=true))->WJ H H'->H' rr=some (.lst (d.cl.map (λc=>Br (.cls c))))->H' mo=some (.lst (a'.map Br))->N [some (.ref a),some (.int c),some (.str d.nm),some tv,some (.ref cl),some (.ref hl),some (.bl d.wt),some (.ref rr),some (.ref mo),none,none] H':=by
  clear hr2 hm2 s2;intro a' H3 ha s3 hr3 hm3;have la:a'.length<=1:=by rcases ha with rfl|⟨rfl,_⟩ <;> simp
  refine A3 eN λN eN=>?_;have fin5:∀ b' H',(b'=[WU.shr d.hs]\/(b'=[]/\d.hs=[(d.nm,1)]))->WJ H H'->H' rr=some (.lst (d.cl.map (λc=>Br (.cls c))))->H' mo=some (.lst ((a'++b').map Br))->N [some (.ref a),some (.int c),some (.str d.nm),some tv,some (.ref cl),some (.ref hl),some (.bl d.wt),some (.ref rr),some (.ref mo),none,none] H':=by
   clear hr3 hm3 s3;intro b' H4 hb s4 hr4 hm4;have lb:b'.length<=1:=by rcases hb with rfl|⟨rfl,_⟩ <;> simp
   refine A3 eN λN eN=>?_;have fin6:∀ H',WJ H H'->H' rr=some (.lst (d.cl.map (λc=>Br (.cls c))))->H' mo=some (.lst ((a'++b'++Gg d).map Br))->N [some (.ref a),some (.int c),some (.str d.nm),some tv,some (.ref cl),some (.ref hl),some (.bl d.wt),some (.ref rr),some (.ref mo),none,none] H':=by
    clear hr4 hm4 s4;intro H5 s5 hr5 hm5;refine A3 eN λN eN=>?_;have lM:((a'++b'++Gg d).map Br).length<=3:=by rw[zAa,zAc,zAc];lia
    generalize eM:a'++b'++Gg d=M at hm5 lM;have lM':(M.map Br).length=M.length:=zAa _;refine⟨_,rfl,mo,_,rfl,.inl (WL.of hm5),_,rfl,by lia,by lia,?_⟩;refine Ey (lo:=0) (n:=((M.map Br).length:Int).toNat) (λi σ H6=>∃ r2 rs o9 o10,σ=[some (.ref a),some (.int c),some (.str d.nm),some tv,some (.ref cl),some (.ref hl),some (.bl d.wt),some (.ref r2),some (.ref mo),o9,o10]/\WJ H5 H6/\H6 r2=some (.lst (rs.map Br))/\rs.Perm (d.cl.map WU.cls++M.take i)/\rs.filterMap F0=d.cl/\rs.length=d.cl.length+i)
     ⟨rr,d.cl.map WU.cls,none,none,rfl,WJ.refl _,by rw[hr5,zBk];rfl,by rw[zAU,zAI],by rw[List.filterMap_map];exact List.filterMap_some,by rw[zAa];rfl⟩ ?_ ?_
    .rintro i σ H6 hi ⟨r2,rs,o9,o10,rfl,s6,hr6,pm,fm,lr⟩
     have iM:i<M.length:=by lia
     have lrs:(rs.map Br).length=d.cl.length+i:=by rw[zAa,lr]
     have dv:(0:Int)<4+3*(0+(i:Int))/\4+3*(0+(i:Int))<1073741824:=by lia
     refine⟨_,rfl,_,rfl,_,_,rfl,rfl,.inl ⟨by decide,by decide⟩,_,_,rfl,rfl,_,_,rfl,rfl,dv,_,rfl,r2,_,rfl,.inl (WL.of hr6),_,_,rfl,rfl,_,_,rfl,rfl,(by show (0:Int)<((rs.map Br).length:Int)+1;lia),?_⟩;have mm:=md (a:=c/(4+3*(0+(i:Int)))) (b:=((rs.map Br).length:Int)+1) (by lia);refine Xa 0 ((rs.map Br).length:Int) ⟨by lia,by lia⟩ λpz p0 p1=>?_;obtain⟨p,rfl⟩:=Int.eq_ofNat_of_zero_le p0;have pl:p<=(rs.map Br).length:=by lia
     refine Hu [some (.ref a),some (.int c),some (.str d.nm),some tv,some (.ref cl),some (.ref hl),some (.bl d.wt),some (.ref r2),some (.ref mo),some (.int (0+(i:Int))),some (.int (p:Int))] rfl ?_;have hm6:=s6 _ _ hm5;have e0:(0+(i:Int))=(i:Int):=by lia
     have at':Nx (M.map Br) (0+(i:Int))=some (Br M[i]):=by
      rw[e0];exact Fd (by rw[zAx,zAg iM];rfl)
     refine⟨_,rfl,_,rfl,_,rfl,r2,_,rfl,WL.of hr6,λx1 n1=>?_⟩;rw[Su _ pl];have t1:=Ap n1 (.lst ((rs.map Br).take p));refine⟨_,rfl,_,rfl,mo,_,_,_,rfl,rfl,WL.of (t1 _ _ hm6),at',one,λx2 n2=>?_⟩;have t2:=Ap n2 (.lst [Br M[i]]);refine⟨x1,x2,_,_,rfl,rfl,t2 _ _ Ac,Ac,by rw[zAw,zCf];show _+1<=_;lia,λx3 n3=>?_⟩;have t3:=Ap n3 (.lst ((rs.map Br).take p++[Br M[i]]));have h3':=Ac (H:=upd (upd H6 x1 (.lst ((rs.map Br).take p))) x2 (.lst [Br M[i]])) (a:=x3) (o:=.lst ((rs.map Br).take p++[Br M[i]]));have t13:=t1.trans (t2.trans t3);generalize upd (upd (upd H6 x1 (.lst ((rs.map Br).take p))) x2 (.lst [Br M[i]])) x3 (.lst ((rs.map Br).take p++[Br M[i]]))=H7 at h3' t13;refine⟨_,rfl,_,rfl,_,rfl,r2,_,rfl,WL.of (t13 _ _ hr6),λx4 n4=>?_⟩;rw[HE pl];have t4:=Ap n4 (.lst ((rs.map Br).drop p));refine⟨x3,x4,_,_,rfl,rfl,t4 _ _ h3',Ac,by rw[zAc,zAw,zBE,zCf];show _+1+_<=_;lia,λx5 n5=>?_⟩;have t5:=Ap n5 (.lst ((rs.map Br).take p++[Br M[i]]++(rs.map Br).drop p));have ncl:F0 M[i]=none:=by
      have mi:M[i]∈a'++b'++Gg d:=by rw[eM];exact zBn _
      rcases zAF.mp mi with z|z
      .rcases zAF.mp z with z|z
       .rcases ha with e|⟨e,_⟩
        .rw[e] at z;rw[zAp.mp z];rfl
        .rw[e] at z;cases z
       .rcases hb with e|⟨e,_⟩
        .rw[e] at z;rw[zAp.mp z];rfl
        .rw[e] at z;cases z
      .unfold Gg at z
       split at z
       .rw[zAp.mp z];rfl
       .cases z
     refine⟨x5,rs.take p++[M[i]]++rs.drop p,_,_,rfl,s6.trans (t13.trans (t4.trans t5)),?_,?_,?_,?_⟩
     .rw[Ac,zAf,zAf,List.map_take,List.map_drop]
      rfl
     .rw[Bv (zAg iM),<- zAA]
      refine List.Perm.trans ?_ (List.Perm.append_right [M[i]] pm);rw[zAA];refine (List.Perm.append_left (rs.take p) List.perm_append_comm).trans ?_;rw[<- zAA,List.take_append_drop]
     .rw[zBo,zBo]
      have e7:[M[i]].filterMap F0=[]:=by rw[zBb,ncl];rfl
      rw[e7,zAI,<- zBo,List.take_append_drop,fm]
     .have pl':p<=rs.length:=by rw[zAa] at pl;exact pl
      rw[zAc,zAc,zAw,zBE];show min p rs.length+1+_=_
      lia
    .rintro σ H6 ⟨r2,rs,o9,o10,rfl,s6,hr6,pm,fm,lr⟩
     subst eN;have en:((M.map Br).length:Int).toNat=M.length:=by lia
     rw[en] at pm lr;rw[zAt] at pm;have e6:(Str.ofString "cover ").length=6:=by ac_nf
     refine⟨_,rfl,_,_,rfl,rfl,by rw[e6,zCf];lia,one,λy1 m1=>?_⟩;rw[F8];have t1:=Ap m1 (.lst [Br (.cov d.nm)]);refine⟨_,rfl,y1,r2,_,_,rfl,rfl,Ac,t1 _ _ hr6,by rw[zAa,lr,zCf];show 1+_<=_;lia,λy2 m2=>?_⟩;have t2:=Ap m2 (.lst ([Br (.cov d.nm)]++rs.map Br));exact q y2 rs _ (s5.trans (s6.trans (t1.trans t2))) Ac ⟨a',b',ha,hb,by rw[eM];exact pm,fm⟩ (by lia)
   refine⟨_,rfl,_,rfl,?_⟩;cases ew:d.wt with
   |false=>
    rw[ew] at fin6;refine Ep (fin6 H4 s4 hr4 ?_);rw[hm4];unfold Gg;rw[ew];simp
   |true=>
    rw[ew] at fin6;refine Kt ⟨_,rfl,.inl ⟨rfl,_,WL.of hm4⟩,mo,_,_,rfl,rfl,hm4,?_,fin6 _ (λc o e=>by rw[Au (Ak e fmo)];exact s4 _ _ e) (by rw[Au nrm];exact hr4) ?_⟩
    .rw[zAa,zAc,zCf];lia
    .rw[Ac,zAf (l₁:=a'++b')];unfold Gg;rw[ew];rfl
  have okh:=ok.hs;have lxs:xs.length=d.hs.length:=by rw[h6.len];unfold Sz;rw[zAa]
  have l3:=okh.2.1;have ge1:=okh.1;have e1:(Str.ofString " ").length=1:=by ac_nf
  have e6:(Str.ofString "share ").length=6:=by ac_nf
  have jl:=Iu (z:=Str.ofString " ") (B:=20) (ps:=d.hs.map EV) λy hy=>by
   obtain⟨z,hz,rfl⟩:=zAz.mp hy;obtain⟨y1,y2,y3⟩:=okh.2.2 z hz;exact Sk y1 y2 y3
  rw[e1,zAa] at jl;refine⟨_,rfl,_,rfl,two,λt2 n2=>⟨one,λl2 n3=>?_⟩⟩;have t1:=Ap n2 (.tup [.str d.nm,.int 1]);have t3:=Ap n3 (.lst [.ref t2]);have ht2:upd (upd H3 t2 (.tup [.str d.nm,.int 1])) l2 (.lst [.ref t2]) t2=some (.tup [.str d.nm,.int 1]):=t3 _ _ Ac;have hl2:upd (upd H3 t2 (.tup [.str d.nm,.int 1])) l2 (.lst [.ref t2]) l2=some (.lst [.ref t2]):=Ac;have s5:=s3.trans (t1.trans t3);have hm5:=t3 _ _ (t1 _ _ hm3);have hr5:=t3 _ _ (t1 _ _ hr3);generalize upd (upd H3 t2 (.tup [.str d.nm,.int 1])) l2 (.lst [.ref t2])=H5 at ht2 hl2 s5 hm5 hr5;have rp:XF H5 [.ref t2] (Sz [(d.nm,1)]):=⟨⟨t2,rfl,ht2⟩,trivial⟩;have dp1:=Vf d.hs;have dp2:=Vf [(d.nm,1)];refine⟨false,T2 d.hs,T2 [(d.nm,1)],Ny (s5 _ _ h5) (Rl _ (h6.mono (Fu s5))),Ny hl2 (Rl _ rp),by lia,_,rfl,?_⟩;show if (!eqDs (T2 d.hs) (T2 [(d.nm,1)]))=true then _ else _;rw[EZ];by_cases c1:d.hs=[(d.nm,1)]
  .refine nF c1 ⟨_,rfl,_,_,rfl,rfl,⟨by decide,by decide⟩,_,_,rfl,rfl,(by show (0:Int)<2;decide),rfl,_,rfl,?_⟩
   by_cases c2:V.int (c/2%2)=V.int 1
   .refine dT c2 ⟨_,rfl,.inl ⟨rfl,_,WL.of hm5⟩,rfl,_,rfl,hl,rfl,⟨_,WL.of (s5 _ _ h5)⟩,λb nb=>?_⟩
    refine Pw (K:=K) (a:=hl) (xs:=xs) (λi ys H6=>ys=((d.hs.take i).map EV).map V.str/\H6 b=some (.lst ys)/\WJ H5 H6) ⟨rfl,Ac,Ap nb _⟩
     (λi ys H6 _ ⟨e,g1,s6⟩=>⟨g1,by rw[e,zAa,zAa,zAw];lia,WL.of (s6 _ _ (s5 _ _ h5))⟩) (by rw[lxs,zCf];lia) (λi x ys H6 hi ⟨e,g1,s6⟩=>?_) (λys H6 ⟨e,g1,s6⟩=>?_)
    .obtain⟨t,p,ep,rfl,htp⟩:=h6.get hi
     unfold Sz at ep;rw[zAx] at ep;obtain⟨y,ey,rfl⟩:=zAH.mp ep;obtain⟨y1,y2,y3⟩:=okh.2.2 y (zAs ey);have ef:((toString y.2:String):Str)=tx (Ce y.2.toNat):=by rw[<- Fl];congr 2;lia
     have a8:=Fw y1;have b3:(Ce y.2.toNat).length<=3:=Dk (by decide) (by lia);refine⟨t,_,_,rfl,WX.of (s6 _ _ (s5 _ _ htp)),_,rfl,_,_,rfl,rfl,by rw[e1,zCf];lia,_,rfl,_,rfl,Eb (by lia) (by lia),_,_,rfl,rfl,?_,g1,rfl,?_,Ac,λc o z=>?_⟩
     .rw[ef,Df,e1,Ci,zCf];lia
     .rw[ef,Bv ey,zAf,zAf,e]
      rfl
     .rw[Au (Ak z nb)]
      exact s6 _ _ z
    rw[lxs,zAt] at e;subst e;refine⟨_,b,d.hs.map EV,rfl,rfl,.inl (WL.of g1),by rw[zAa];lia,by rw[zAa];lia,by ac_nf,λy hy=>?_,?_⟩
    .obtain⟨z,hz,rfl⟩:=zAz.mp hy
     obtain⟨y1,y2,y3⟩:=okh.2.2 z hz;have:=Sk y1 y2 y3
     lia
    refine⟨_,_,rfl,rfl,by rw[e6,zCf];lia,?_⟩;rw[B6 (λz=>by rw[z] at ge1;simp at ge1)];refine⟨mo,_,_,rfl,rfl,s6 _ _ hm5,by rw[zAa,zCf];lia,fin5 [WU.shr d.hs] _ (.inl rfl) (λc o e=>by rw[Au (Ak e fmo)];exact s6 _ _ (s5 _ _ e)) (by rw[Au nrm];exact s6 _ _ hr5) ?_⟩;rw[Ac,zAf];rfl
   .exact dF c2 (fin5 [] H5 (.inr ⟨rfl,c1⟩) s5 hr5 (by rw[zAI];exact hm5))
  .refine nT c1 (Kt ⟨_,rfl,.inl ⟨rfl,_,WL.of hm5⟩,rfl,_,rfl,hl,rfl,⟨_,WL.of (s5 _ _ h5)⟩,λb nb=>?_⟩)
   refine Pw (K:=K) (a:=hl) (xs:=xs) (λi ys H6=>ys=((d.hs.take i).map EV).map V.str/\H6 b=some (.lst ys)/\WJ H5 H6) ⟨rfl,Ac,Ap nb _⟩
    (λi ys H6 _ ⟨e,g1,s6⟩=>⟨g1,by rw[e,zAa,zAa,zAw];lia,WL.of (s6 _ _ (s5 _ _ h5))⟩) (by rw[lxs,zCf];lia) (λi x ys H6 hi ⟨e,g1,s6⟩=>?_) (λys H6 ⟨e,g1,s6⟩=>?_)
   .obtain⟨t,p,ep,rfl,htp⟩:=h6.get hi
    unfold Sz at ep;rw[zAx] at ep;obtain⟨y,ey,rfl⟩:=zAH.mp ep;obtain⟨y1,y2,y3⟩:=okh.2.2 y (zAs ey);have ef:((toString y.2:String):Str)=tx (Ce y.2.toNat):=by rw[<- Fl];congr 2;lia
    have a8:=Fw y1;have b3:(Ce y.2.toNat).length<=3:=Dk (by decide) (by lia);refine⟨t,_,_,rfl,WX.of (s6 _ _ (s5 _ _ htp)),_,rfl,_,_,rfl,rfl,by rw[e1,zCf];lia,_,rfl,_,rfl,Eb (by lia) (by lia),_,_,rfl,rfl,?_,g1,rfl,?_,Ac,λc o z=>?_⟩
    .rw[ef,Df,e1,Ci,zCf];lia
    .rw[ef,Bv ey,zAf,zAf,e]
     rfl
    .rw[Au (Ak z nb)]
     exact s6 _ _ z
   rw[lxs,zAt] at e;subst e;refine⟨_,b,d.hs.map EV,rfl,rfl,.inl (WL.of g1),by rw[zAa];lia,by rw[zAa];lia,by ac_nf,λy hy=>?_,?_⟩
   .obtain⟨z,hz,rfl⟩:=zAz.mp hy
    obtain⟨y1,y2,y3⟩:=okh.2.2 z hz;have:=Sk y1 y2 y3
    lia
   refine⟨_,_,rfl,rfl,by rw[e6,zCf];lia,?_⟩;rw[B6 (λz=>by rw[z] at ge1;simp at ge1)];refine⟨mo,_,_,rfl,rfl,s6 _ _ hm5,by rw[zAa,zCf];lia,fin5 [WU.shr d.hs] _ (.inl rfl) (λc o e=>by rw[Au (Ak e fmo)];exact s6 _ _ (s5 _ _ e)) (by rw[Au nrm];exact s6 _ _ hr5) ?_⟩;rw[Ac,zAf];rfl
 refine⟨_,rfl,one,λtt nt=>?_⟩;have t1:=Ap nt (.tup [.str (Str.ofString "always")]);have s3:=s2.trans t1;have hm3:=t1 _ _ hm2;have hr3:=t1 _ _ hr2;have dp:=L8 d.t;refine⟨true,So d.t,[.at (.str "always")],E7 _ (WP.same s3 _ h2),Gy Ac (Cp (WZ rfl) En),by simp [deps,V7];lia,_,rfl,?_⟩;show if (!eqDs (So d.t) [.at (.str "always")])=true then _ else _;rw[GX];generalize upd H2 tt (.tup [.str (Str.ofString "always")])=H3 at s3 hm3 hr3;cases c9:Lz d.t with
 |true=>
  refine Ep ⟨_,rfl,_,_,rfl,rfl,(by show (0:Int)<2;decide),rfl,_,rfl,?_⟩;by_cases c2:V.int (c%2)=V.int 1
  .refine dT c2 ⟨_,rfl,.inl ⟨rfl,_,WL.of hm3⟩,_,rfl,tv,d.t,rfl,WP.same s3 _ h2,hg,okt,l60,λH4 s4=>⟨_,_,rfl,rfl,by rw[e5,zCf];lia,?_⟩⟩
   rw[Se okt];refine⟨mo,_,_,rfl,rfl,s4 _ _ hm3,by show 0<sizeLine;rw[zCf];decide,fin4 [WU.when d.t] _ (.inl rfl) (λc o e=>by rw[Au (Ak e fmo)];exact s4 _ _ (s3 _ _ e)) (by rw[Au nrm];exact s4 _ _ hr3) ?_⟩;rw[Ac];rfl
  .exact dF c2 (fin4 [] H3 (.inr ⟨rfl,c9⟩) s3 hr3 hm3)
 |false=>
  refine Kt (Kt ⟨_,rfl,.inl ⟨rfl,_,WL.of hm3⟩,_,rfl,tv,d.t,rfl,WP.same s3 _ h2,hg,okt,l60,λH4 s4=>⟨_,_,rfl,rfl,by rw[e5,zCf];lia,?_⟩⟩);rw[Se okt];refine⟨mo,_,_,rfl,rfl,s4 _ _ hm3,by show 0<sizeLine;rw[zCf];decide,fin4 [WU.when d.t] _ (.inl rfl) (λc o e=>by rw[Au (Ak e fmo)];exact s4 _ _ (s3 _ _ e)) (by rw[Au nrm];exact s4 _ _ hr3) ?_⟩;rw[Ac];rfl
end
def Kx {H:Hp} {p r:Addr} {xs ys:List V} (h1:H p=some (.lst xs)) (h2:H r=some (.lst ys)) (n:xs≠ys):p≠r:=λz=>by rw[z,h2] at h1;injection h1 with h1;injection h1 with h1;exact n h1.symm
def V8 {p r:Addr} (n:p≠r):p∉[r]:=λz=>n (zAp.mp z)
def HH {κ:A8} {H:Hp} {vs:List V} {ts:List Dw} {z:Str} {zs:List V} (h:CdsAt κ H vs ts):vs≠.str z::zs:=λe=>by
 subst e;cases ts with
 |nil=>unfold CdsAt at h;exact h
 |cons t ts=>unfold CdsAt at h;obtain⟨_,_,_,e,_⟩:=WT.obj h.1;cases e
section
variable {κ:A8} {H:Hp} {r:Addr} {z:Str} {zs:List V}
mutual
theorem WT.offS (hr:H r=some (.lst (.str z::zs))):∀ {v:V} (t:Dw),WT κ H v t->WT κ (WK [r] H) v t
 |v,.at c,h=>by unfold WT at h ⊢;obtain⟨p,dx,e,h⟩:=h;exact⟨p,dx,e,WK.of (V8 (Eu h hr (by intro z;cases z))) h⟩
 |v,.no t,h=>by unfold WT at h ⊢;obtain⟨p,dx,w,e,h,g⟩:=h;exact⟨p,dx,w,e,WK.of (V8 (Eu h hr (by intro z;cases z))) h,WT.offS hr t g⟩
 |v,.al ts,h=>by
  unfold WT at h ⊢;obtain⟨p,dx,l,vs,e,h,g,k⟩:=h;exact⟨p,dx,l,vs,e,WK.of (V8 (Eu h hr (by intro z;cases z))) h,WK.of (V8 (Kx g hr (HH k))) g,CdsAt.offS hr ts k⟩
 |v,.so ts,h=>by
  unfold WT at h ⊢;obtain⟨p,dx,l,vs,e,h,g,k⟩:=h;exact⟨p,dx,l,vs,e,WK.of (V8 (Eu h hr (by intro z;cases z))) h,WK.of (V8 (Kx g hr (HH k))) g,CdsAt.offS hr ts k⟩
theorem CdsAt.offS (hr:H r=some (.lst (.str z::zs))):∀ {vs:List V} (ts:List Dw),CdsAt κ H vs ts->CdsAt κ (WK [r] H) vs ts
 |[],[],_=>by unfold CdsAt;trivial
 |v::vs,t::ts,h=>by unfold CdsAt at h ⊢;exact⟨WT.offS hr t h.1,CdsAt.offS hr ts h.2⟩
 |[],_::_,h=>by unfold CdsAt at h;exact h.elim
 |_::_,[],h=>by unfold CdsAt at h;exact h.elim
end
end
def EF {r:WU} (h:Vt r) (n:2<=r.ws.length):32∈r.row.cps.toList:=by
 have e:=Yx h;have es:Txt.split r.row (Str.ofString " ")=(Ip 32 r.row.cps.toList).map tx:=by
  have eb:Str.ofString " "=tx [32]:=by ac_nf
  have:=Ub r.row.cps.toList 32;rw[Uh,<- eb] at this;exact this
 by_cases c:32∈r.row.cps.toList
 .exact c
 .rw[es,Jd c] at e
  have:=congrArg List.length e;simp at this
  lia
def XG.offS {κ:A8} {CC CO CL CM C CD:Addr} {H:Hp} {p r:Addr} {d:LC} {z:Str} {zs:List V} (hr:H r=some (.lst (.str z::zs))) (hz:32∈z.cps.toList) (nm:∀ x∈d.hs.map (·.1),Ew (.str x)=true) (h:XG κ CC CO CL CM C CD H p d):XG κ CC CO CL CM C CD (WK [r] H) p d:=by
 obtain⟨cl,hv,dd,wh,wt,cv,cs,h1,h2,h3⟩:=h;have h1':=h1;obtain⟨⟨dx,fs,e,_⟩,g1,g2,⟨⟨dx',g3⟩,g4,g5⟩⟩:=h1';refine⟨cl,hv,dd,wh,wt,cv,cs,h1.off (V8 (Eu e hr (by intro z;cases z))) (V8 (Kx g1 hr λe=>?_)) (V8 (Kx g2 hr λe=>?_)) (V8 (Eu g3 hr (by intro z;cases z))) (V8 (Kx g4 hr λe=>?_)) (V8 (Kx g5 hr λe=>?_)),WT.offS hr _ h2,h3.imp λv c ⟨q,e,dx,k⟩=>⟨q,e,dx,WK.of (V8 (Eu k hr (by intro z;cases z))) k⟩⟩
 .rw[e] at h3
  obtain⟨c,_,q,a,_⟩:=XC.get h3 (i:=0) (a:=.str z) rfl;cases a
 .cases hh:d.hs.map (·.1) with
  |nil=>rw[hh] at e;cases e
  |cons x xs=>
   rw[hh] at e;have e1:=V.str.inj (List.cons.inj e).1;have:=nm x (by rw[hh];simp);rw[e1] at this;exact (Wk this).1 hz
 .cases hw:CR.wheel (d.hs.map (·.2)) with
  |nil=>rw[hw] at e;cases e
  |cons x xs=>rw[hw] at e;cases (List.cons.inj e).1
 .cases hw:d.hs.map (·.2) with
  |nil=>rw[hw] at e;cases e
  |cons x xs=>rw[hw] at e;cases (List.cons.inj e).1
def XV.offS {κ:A8} {CC CO CL CM C CD CB:Addr} {H:Hp} {b r:Addr} {ls:List LC} {z:Str} {zs:List V} (hr:H r=some (.lst (.str z::zs))) (hz:32∈z.cps.toList) (nm:∀ d∈ls,∀ x∈d.hs.map (·.1),Ew (.str x)=true) (h:XV κ CC CO CL CM C CD CB H b ls):XV κ CC CO CL CM C CD CB (WK [r] H) b ls:=by
 obtain⟨cl,ak,cs,⟨⟨dx,fs,e,k⟩,h1,h2⟩,h3⟩:=h;have ref:∀ l:List Cv,l.map Vi≠.str z::zs:=λl e=>by
  cases l with
  |nil=>cases e
  |cons x l=>cases (List.cons.inj e).1
 refine⟨cl,ak,cs,⟨⟨dx,fs,WK.of (V8 (Eu e hr (by intro z;cases z))) e,k⟩,WK.of (V8 (Kx h1 hr (ref _))) h1,WK.of (V8 (Kx h2 hr (ref _))) h2⟩,?_⟩;have:∀ {cs:List Cv} {ls:List LC},(∀ d∈ls,∀ x∈d.hs.map (·.1),Ew (.str x)=true)->XC (λc d=>c.2.1=d.nm/\c.2.2=d.wt/\XG κ CC CO CL CM C CD H c.1 d) cs ls->XC (λc d=>c.2.1=d.nm/\c.2.2=d.wt/\XG κ CC CO CL CM C CD (WK [r] H) c.1 d) cs ls:=λnm h=>by
  induction h with
  |nil=>exact .nil
  |cons a _ ih=>exact .cons ⟨a.1,a.2.1,a.2.2.offS hr hz (nm _ zAk)⟩ (ih λd hd=>nm d (zAi _ hd))
 exact this nm h3
def N7 (d:LC):Dm d=WU.cov d.nm::(Ft d++(d.cl.map WU.cls++(Ky d++Gg d))):=rfl
def X1 (ls:List LC):(zBl (λd rs=>WU.cov (LC.nm d)::rs) ls (ls.map λd=>Ft d++(d.cl.map WU.cls++(Ky d++Gg d)))).flatten=ls.flatMap Dm:=by
 induction ls with
 |nil=>rfl
 |cons d ls ih=>rw[zAv,List.zipWith_cons_cons,zBv,zBX,ih,N7]
theorem BF {α β:Type} {R:α->β->Prop} {f:α->β}:∀ l:List α,(∀ a∈l,R a (f a))->XC R l (l.map f)
 |[],_=>.nil
 |a::l,h=>.cons (h a (by simp)) (BF l λx hx=>h x (by simp [hx]))
def Eg (rs:List WU):(rs.map Br).all Ff=true:=by
 rw[List.all_map];exact zBG.mpr λ_ _=>rfl
def LW {x:Int} (h1:1<=x) (h2:x<=100):CR.GW [x]:=⟨by simp,by simp,λy hy=>by rw[zAp.mp hy];exact h1,by simpa using h2⟩
def G0 {n:Str} {x:Int} (h:Ew (.str n)=true) (h1:1<=x) (h2:x<=100):LZ [(n,x)]:=⟨⟨by simp,by simp,λy hy=>by rw[zAp.mp hy];exact⟨h,h1,h2⟩⟩,by simp,LW h1 h2⟩
def LF {n:Str} {x:Int} (h:Ew (.str n)=true) (ha:n ≠ "acme") (h1:1<=x) (h2:x<=98):LZ [(Str.ofString "acme",x),(n,100-x)]:=by
 refine⟨⟨by simp,by simp,λy hy=>?_⟩,?_,⟨by simp,by simp,λy hy=>?_,?_⟩⟩
 .simp at hy
  rcases hy with rfl|rfl
  .exact⟨by show Ew (.str (Str.ofString "acme"))=true;decide +kernel,h1,by show x<=100;lia⟩
  .exact⟨h,by show 1<=100-x;lia,by show 100-x<=100;lia⟩
 .show [Str.ofString "acme",n].Nodup
  simp;exact λe=>ha e.symm
 .simp at hy
  rcases hy with rfl|rfl <;> lia
 .show x+(100-x+0)<=100
  lia
inductive FP (K:zAb) (vs:List V) (H:Hp) (Q:VK):Prop
 |mk (a:Addr) (ns:List Int) (z0:vs=[.ref a]) (z1:WL K H a (ns.map V.int)) (z2:ns.length<=63) (z3:∀ H',Q (.bl true) H'):FP K vs H Q
def BC (K:zAb):Sp:=λvs H Q _=>FP K vs H Q
structure LI (cv:Addr) (H:Hp) (hl:Addr) (hs:List (Str×Int)):Prop where
 ex:∃ xs,WK [cv] H hl=some (.lst xs)/\XF (WK [cv] H) xs (Sz hs)
 ok:LZ hs
def SD {cv:Addr} {H H':Hp} (s:WJ H H'):WJ (WK [cv] H) (WK [cv] H'):=WK.mono (λb o e _=>s b o e) λx hx=>.inl hx
def U6 {cv x:Addr} {H:Hp} {o:HO} (h:H cv=some o) (n:H x=none):x∉[cv]:=λz=>by rw[zAp.mp z,h] at n;cases n
section
seal L2.PS L2.PSs L2.PE L2.PA
variable {P:Program} {w:World} {K:zAb} {mg:Str->Option Value} {base:Heap} {Ab Ae Ad Ah Ao Ax Ay Am Al Ba An Aq Bb As Bd Af Aw:Addr}
def PF:Bc ["_law_script","_law_unit_here","_law_world_here","_law_covers_here","_law_name","_law_cond_here","_law_clauses","_law_houses_here","_law_waits","_law_cell_here","_law_weight","_law_rows_here","_law_c","_law_handed","_law_book","_law_due","_law_shown","_law_again"] ["_law_script"] (Av Wp):=by injections
def PZ {f:Addr} {fd:zCh} (F:WV K "law" "law" Wp f fd) (T:Txt K mg) (L:Kl K mg Ab Ae Ad Ah Ao Ax Ay Am Al Ba An Aq Bb As Bd Af Aw) (C_law_cell:Cy P w K mg base 1 "_law_cell" ["_law_script","_law_k"] (Te K)) (C_law_spread:Cy P w K mg base 1 "_law_spread" ["_law_cell_here"] Kk) (C_law_unit:Cy P w K mg base 2 "_law_unit" ["_law_script"] (W7 K)) (C_law_world:Cy P w K mg base 2 "_law_world" ["_law_script"] (E6 K))
  (C_law_covers:Cy P w K mg base 3 "_law_covers" ["_law_script","_law_start","_law_names_here","_law_things","_law_causes","_law_unit_here","_law_pool"] (W5 K)) (C_law_drawn_rows:Cy P w K mg base 12 "_law_drawn_rows" ["_law_cover","_law_cell_here"] ON) (C_law_rows:Cy P w K mg base 13 "_law_rows" ["_law_covers_here"] IP) (C_law_same:Cy P w K mg base 202 "_law_same" ["_law_found","_law_cover"] (X8 (A8.mk Ab Ae Ad Ah Ao Ax Ay Am) Al Ba An Aq As Bb))
  (Cread_book:Cy P w K mg base 44 "read_book" ["rows"] (GE (A8.mk Ab Ae Ad Ah Ao Ax Ay Am) Al Ba An Aq As Bb Bd)) (Cshow_book:Cy P w K mg base 203 "show_book" ["book"] (OY (A8.mk Ab Ae Ad Ah Ao Ax Ay Am) Al Ba An Aq As Bb Bd)) :
  WN P w K mg base Do 204 f fd ["_law_script"] (BC K):=by
 have sc:=PF;bv_omega
 .obtain⟨_,_,rfl,_⟩:=h
  rfl
 obtain⟨a,ns,rfl,ha,l63,q⟩:=h;have hu:=Y8 hr;refine⟨_,(Ai (Bn (i:=1) sc.nd rfl (Or.inl rfl) (Az C_law_unit (hr.mono (by decide)) rfl (Aa (pv 0) Ag)))
   (Ai (Bn (i:=2) sc.nd rfl (Or.inl rfl) (Az C_law_world (hr.mono (by decide)) rfl (Aa (pv 0) Ag)))
   (Ai (Bn (i:=3) sc.nd rfl (Or.inl rfl) (Cb Ag))
   (Ai (El PassesOwn.never rfl (Dg (Az C_law_covers (hr.mono (by decide)) rfl (Aa (pv 0) (Aa Ar (Aa (Cc Bt (pv 2) Ar (λ_ _=>rfl)) (Aa (Cc Bt (pv 2) Ar (λ_ _=>rfl)) (Aa (Cc Bt (pv 2) Ar (λ_ _=>rfl)) (Aa (pv 1) (Aa (Cc Bt (pv 2) Ar (λ_ _=>rfl)) Ag))))))))) (Js (n:=5) rfl (By (Bl (i:=4) sc.nd rfl (Or.inl rfl)) (By (Bl (i:=5) sc.nd rfl (Or.inl rfl)) (By (Bl (i:=6) sc.nd rfl (Or.inl rfl)) (By (Bl (i:=7) sc.nd rfl (Or.inl rfl)) (By (Bl (i:=8) sc.nd rfl (Or.inl rfl)) Fz))))))
    (Ai (Bn (i:=9) sc.nd rfl (Or.inl rfl) (Az C_law_cell (hr.mono (by decide)) rfl (Aa (pv 0) (Aa (Bq Bp rfl T.n_len (show zCg _=some (.builtin "len") from rfl) (Aa (pv 3) Ag)) Ag))))
   (Ai (Bn (i:=10) sc.nd rfl (Or.inl rfl) (Be Da Ar (Be Cn (Be Cm (pv 9) Ar) Ar)))
   (Ai (Bu (Bf Db (Be Cn (pv 9) Ar) Ar (Bk _))
    (Aj (Bn (i:=7) sc.nd rfl (Or.inl rfl) (Cb (Aa (Cw (Aa (pv 4) (Aa (Be Da Ar (Be Cn (Az C_law_cell (hr.mono (by decide)) rfl (Aa (pv 0) (Aa Ar Ag))) Ar)) Ag))) Ag))))
    Bj)
   (Ai (Bu (Bf Db (Be Cn (pv 9) Ar) Ar (Bk _))
    (Aj (Bn (i:=7) sc.nd rfl (Or.inl rfl) (Mx Rx (Cb (Aa (Cw (Aa Bg (Aa (pv 10) Ag))) (Aa (Cw (Aa (pv 4) (Aa (Be A5 Ar (pv 10)) Ag))) Ag))) Qw (Rw (Be Da Ar (Be Cn (Be Cm (pv 9) Ar) Ar))))))
    Bj)
   (Ai (Bu (Bf Db (Be Cn (pv 9) Ar) Ar (Bk _))
    (Aj (Bn (i:=7) sc.nd rfl (Or.inl rfl) (Cb (Aa (Cw (Aa (Cc Gz (Cc Bt (pv 7) Ar (λ_ _=>rfl)) Ar (λ_ _=>rfl)) (Aa (Cc Bt (Cb (Aa Ar (Aa Ar (Aa Ar Ag)))) (Be Cn (Be Cm (pv 9) Ar) Ar) (λ_ _=>rfl)) Ag))) Ag))))
    Bj)
   (Aj (Bz (Dy PySem.F.plainAttrs_list PySem.F.slot_list_append PySem.F.type_list_append Cj (pv 3) (Aa (Cw (Aa (pv 4) (Aa (pv 5) (Aa (pv 6) (Aa (pv 7) (Aa (pv 8) Ag)))))) Ag))))))))))
   (Ai (Bn (i:=11) sc.nd rfl (Or.inl rfl) (Cb Ag))
   (Ai (El PassesOwn.never rfl (Ea rfl T.n_range (Aa Ar Ag)) (Bl (i:=12) sc.nd rfl (Or.inl rfl))
    (Aj (Bn (i:=11) sc.nd rfl (Or.inl rfl) (Be Jc (pv 11) (Az C_law_drawn_rows (hr.mono (by decide)) rfl (Aa (Cc Bt (pv 3) (pv 12) (λ_ _=>rfl)) (Aa (Az C_law_spread (hr.mono (by decide)) rfl (Aa (Az C_law_cell (hr.mono (by decide)) rfl (Aa (pv 0) (Aa (Be Da Ar (pv 12)) Ag))) Ag)) Ag)))))))
   (Ai (Bn (i:=13) sc.nd rfl (Or.inl rfl) (Ck Er rfl T.n_list (show zCg _=some (.type "list") from rfl) (Aa (pv 11) Ag)))
   (Ai (Bn (i:=14) sc.nd rfl (Or.inl rfl) (Az Cread_book (hr.mono (by decide)) rfl (Aa (pv 13) Ag)))
   (Ai (Bu (PW.pt (Fe (Bf (Mp hu) (pv 13) (pv 11) (Bk _)) (Fe (Ee (Dc (Bq Dp rfl T.n_isinstance (show zCg _=some (.builtin "isinstance") from rfl) (Aa (pv 14) (Aa (OG rfl L.mg_Book) Ag))))) (Et (Bf Pf (Bq Bp rfl T.n_len (show zCg _=some (.builtin "len") from rfl) (Aa (Bx (pv 14) rfl) Ag)) Ar (Bk _))))))
    (Aj (Bh Fn))
    Bj)
   (Ai (Bz (OC PySem.F.plainAttrs_list PySem.F.slot_list_clear PySem.F.type_list_clear JB (pv 13)))
   (Ai (El PassesOwn.never rfl (Ea rfl T.n_range (Aa Ar Ag)) (Bl (i:=12) sc.nd rfl (Or.inl rfl))
    (Aj (Bu (Ee (Dc (Az C_law_same (hr.mono (by decide)) rfl (Aa (Cc Bt (Bx (pv 14) rfl) (pv 12) (λ_ _=>rfl)) (Aa (Cc Bt (pv 3) (pv 12) (λ_ _=>rfl)) Ag)))))
    (Aj (Bh Fn))
    Bj)))
   (Ai (Bn (i:=15) sc.nd rfl (Or.inl rfl) (Az C_law_rows (hr.mono (by decide)) rfl (Aa (pv 3) Ag)))
   (Ai (Bn (i:=16) sc.nd rfl (Or.inl rfl) (Az Cshow_book (hr.mono (by decide)) rfl (Aa (pv 14) Ag)))
   (Ai (Bu (PW.pt (Fe (Ee (Dc (Bq Dp rfl T.n_isinstance (show zCg _=some (.builtin "isinstance") from rfl) (Aa (pv 16) (Aa (Oy "list" rfl T.n_list rfl) Ag))))) (Et (Bf (Mp hu) (pv 16) (pv 15) (Bk _)))))
    (Aj (Bh Fn))
    Bj)
   (Ai (Bz (Dy PySem.F.plainAttrs_list PySem.F.slot_list_append PySem.F.type_list_append Cj (pv 16) (Aa Bg Ag)))
   (Ai (Bn (i:=17) sc.nd rfl (Or.inl rfl) (Az Cread_book (hr.mono (by decide)) rfl (Aa (Ck Er rfl T.n_list (show zCg _=some (.type "list") from rfl) (Aa (pv 15) Ag)) Ag)))
   (Ai (Bu (PW.pt (Fe (Bf (Mp hu) (Az Cshow_book (hr.mono (by decide)) rfl (Aa (pv 17) Ag)) (pv 15) (Bk _)) (Fe (Bf (Mp hu) (Az Cshow_book (hr.mono (by decide)) rfl (Aa (pv 14) Ag)) (pv 15) (Bk _)) (Et (Bf (Mp hu) (Az Cshow_book (hr.mono (by decide)) rfl (Aa (Az Cread_book (hr.mono (by decide)) rfl (Aa (Cb Ag) Ag)) Ag)) (Cb Ag) (Bk _))))))
    (Aj (Bh Fn))
    Bj)
   (Ai (El PassesOwn.never rfl (Ea rfl T.n_range (Aa Ar Ag)) (Bl (i:=12) sc.nd rfl (Or.inl rfl))
    (Aj (Bu (Ee (Dc (Az C_law_same (hr.mono (by decide)) rfl (Aa (Cc Bt (Bx (pv 17) rfl) (pv 12) (λ_ _=>rfl)) (Aa (Cc Bt (pv 3) (pv 12) (λ_ _=>rfl)) Ag)))))
    (Aj (Bh Fn))
    Bj)))
   (Aj (Bh Fn)))))))))))))))))))),?_⟩
 have one:1<=sizeLine:=by rw[zCf];decide
 have two:2<=sizeLine:=by rw[zCf];decide
 have three:3<=sizeLine:=by rw[zCf];decide
 have five:5<=sizeLine:=by rw[zCf];decide
 refine⟨_,rfl,a,ns,rfl,ha,l63,λu H1 s1 uo=>?_⟩;refine Hu [some (.ref a),some (.int u),none,none,none,none,none,none,none,none,none,none,none,none,none,none,none,none] rfl ?_;refine⟨_,rfl,a,ns,rfl,s1.seq ha,l63,λw0 ra rb rc rd rp Bs Cs Ds PL H2 s2 hw0 hB hC hD hP okB okC' YL lB lC lD pool=>?_⟩;have s02:=s1.trans s2;refine Hu [some (.ref a),some (.int u),some (.ref w0),none,none,none,none,none,none,none,none,none,none,none,none,none,none,none] rfl ?_;refine⟨zAB _,λcv ncv=>?_⟩;have s3:=Ap ncv (.lst []);have hcv:upd H2 cv (.lst []) cv=some (.lst []):=Ac;generalize upd H2 cv (.lst [])=H3 at s3 hcv;have s03:=s02.trans s3;refine Hu [some (.ref a),some (.int u),some (.ref w0),some (.ref cv),none,none,none,none,none,none,none,none,none,none,none,none,none,none] rfl ?_;have hw3:=s3 _ _ hw0;refine⟨_,rfl,_,rfl,w0,_,_,_,rfl,rfl,WL.of hw3,rfl,_,rfl,w0,_,_,_,rfl,rfl,WL.of hw3,rfl,_,rfl,w0,_,_,_,rfl,rfl,WL.of hw3,rfl,_,rfl,_,rfl,w0,_,_,_,rfl,rfl,WL.of hw3,rfl,a,ns,rd,rb,rc,rp,u,Ds,Bs,Cs,PL,[cv],(λe he=>by rw[zAp.mp he];exact⟨_,hcv⟩),rfl,s03.seq ha,l63,uo,s3 _ _ hD,s3 _ _ hB,s3 _ _ hC,s3 _ _ hP,okB,okC',YL,lB,lC,lD,pool,λr xs ls H4 s4 hr4 al en okl=>?_⟩;have hcv4:=s4 _ _ hcv;have lls:ls.length=3:=by rw[<- lD,<- en,zAa]
 have lxs:xs.length=3:=by rw[al.len,lls]
 have nrc:r≠cv:=Kx hr4 hcv4 (λz=>by rw[z] at lxs;simp at lxs);have s24:=s3.trans s4;refine⟨r,rfl,⟨_,WL.of hr4⟩,?_⟩;refine Nd (K:=K) (a:=r) (xs:=xs) (λi σ H5=>(∃ o4 o5 o6 o7 o8 o9 o10,σ=[some (.ref a),some (.int u),some (.ref w0),some (.ref cv),o4,o5,o6,o7,o8,o9,o10,none,none,none,none,none,none,none])/\WJ H2 H5/\Kb cv H4 H5/\∃ ys ls2,H5 cv=some (.lst ys)/\XC (XO (WK [cv] H5)) ys ls2/\ls2.map (·.nm)=(ls.take i).map (·.nm)/\(∀ d∈ls2,S2 d))
  ⟨⟨none,none,none,none,none,none,none,rfl⟩,s24,Kb.refl _ _,[],[],hcv4,.nil,rfl,(λ_ z=>nomatch z)⟩ (λi σ H5 _ ⟨_,_,kb,_⟩=>WL.of (kb _ _ hr4 nrc)) ?_ ?_
 .rintro i x σ H5 hi ⟨⟨o4,o5,o6,o7,o8,o9,o10,rfl⟩,s5,kb,ys,ls2,hcv5,al2,en2,ok2⟩
  obtain⟨d,ed,lc⟩:=al.get hi;have okd:=okl d (zAs ed);have so:WJ (WK [cv] H4) (WK [cv] H5):=WK.mono (λb o e n=>kb b o e λz=>n (by rw[z];simp)) λx hx=>.inl hx;obtain⟨ta,tv,cl,hl,cs,hx,rfl,g1,g2,g3,g4,g5,g6⟩:=lc.same so;refine⟨ta,_,rfl,WX.of (WK.at g1).2,rfl,vC rfl (vC rfl (vC rfl (vC rfl (vC rfl ⟨rfl,?_⟩))))⟩;refine RS [some (.ref a),some (.int u),some (.ref w0),some (.ref cv),some (.str d.nm),some tv,some (.ref cl),some (.ref hl),some (.bl d.wt),o9,o10,none,none,none,none,none,none,none] rfl ?_;have s05:=s02.trans s5;have lys:ys.length=i:=by
   rw[al2.len];have h:=congrArg List.length en2;have il:i<ls.length:=(zAu.mp ed).1;rw[zAa,zAa,zAw] at h
   lia
  refine⟨_,rfl,_,rfl,cv,_,rfl,.inl (WL.of hcv5),a,ns,(ys.length:Int),rfl,s05.seq ha,by lia,l63,?_⟩;generalize ns.getD ((ys.length:Int).toNat) 0=ce;refine Hu [some (.ref a),some (.int u),some (.ref w0),some (.ref cv),some (.str d.nm),some tv,some (.ref cl),some (.ref hl),some (.bl d.wt),some (.int ce),o10,none,none,none,none,none,none,none] rfl ?_;have m98:=md (a:=ce/4) (b:=98) (by decide);refine⟨_,rfl,_,_,rfl,rfl,⟨by decide,by decide⟩,_,_,rfl,rfl,(by show (0:Int)<98;decide),_,_,rfl,rfl,?_⟩;refine Xa 1 98 ⟨by lia,by lia⟩ λwg wg1 wg2=>?_;refine Hu [some (.ref a),some (.int u),some (.ref w0),some (.ref cv),some (.str d.nm),some tv,some (.ref cl),some (.ref hl),some (.bl d.wt),some (.int ce),some (.int wg),none,none,none,none,none,none,none] rfl ?_;have nmD:d.nm∈Ds:=by rw[<- en];exact zAz.mpr ⟨d,zAs ed,rfl⟩
  have nmk:=YL.ok _ nmD;have nma:=YL.ac _ nmD;have h0:LI cv H5 hl d.hs:=⟨⟨hx,g5,g6⟩,⟨okd.ok.hs,okd.ok.nd,okd.ok.gw⟩⟩;refine⟨_,rfl,_,_,rfl,rfl,(by show (0:Int)<4;decide),rfl,_,rfl,?_⟩;refine AN (λσ H'=>∃ hl hs,σ=[some (.ref a),some (.int u),some (.ref w0),some (.ref cv),some (.str d.nm),some tv,some (.ref cl),some (.ref hl),some (.bl d.wt),some (.int ce),some (.int wg),none,none,none,none,none,none,none]/\WJ H5 H'/\LI cv H' hl hs) (λ_ N R=>?_) (λ_ N R=>R _ _ ⟨hl,d.hs,rfl,WJ.refl _,h0⟩) ?_
  .refine⟨_,rfl,_,rfl,a,ns,1,rfl,s05.seq ha,by decide,l63,_,_,rfl,rfl,(by show (0:Int)<2;decide),_,_,rfl,rfl,two,λt nt=>⟨one,λl nl=>?_⟩⟩
   have m2:=md (a:=ns.getD ((1:Int).toNat) 0) (b:=2) (by decide);have t1:=Ap nt (.tup [.str d.nm,.int (1+ns.getD ((1:Int).toNat) 0%2)]);have t2:=Ap nl (.lst [.ref t]);refine R _ _ ⟨l,[(d.nm,1+ns.getD ((1:Int).toNat) 0%2)],rfl,t1.trans t2,⟨⟨[.ref t],WK.of (U6 (t1 _ _ hcv5) nl) Ac,⟨⟨t,rfl,WK.of (U6 hcv5 nt) (t2 _ _ Ac)⟩,trivial⟩⟩,G0 nmk.1 (by lia) (by lia)⟩⟩
  rintro σ H6 ⟨hl1,hs1,rfl,s6,h6⟩;have hcv6:=s6 _ _ hcv5;refine⟨_,rfl,_,_,rfl,rfl,(by show (0:Int)<4;decide),rfl,_,rfl,?_⟩;refine AN (λσ H'=>∃ hl hs,σ=[some (.ref a),some (.int u),some (.ref w0),some (.ref cv),some (.str d.nm),some tv,some (.ref cl),some (.ref hl),some (.bl d.wt),some (.int ce),some (.int wg),none,none,none,none,none,none,none]/\WJ H6 H'/\LI cv H' hl hs) (λ_ N R=>?_) (λ_ N R=>R _ _ ⟨hl1,hs1,rfl,WJ.refl _,h6⟩) ?_
  .refine⟨_,rfl,two,λt nt=>⟨_,rfl,_,rfl,_,_,rfl,rfl,two,λt' nt'=>⟨two,λl nl=>?_⟩⟩⟩
   have t1:=Ap nt (.tup [.str (Str.ofString "acme"),.int wg]);have t2:=Ap nt' (.tup [.str d.nm,.int (100-wg)]);have t3:=Ap nl (.lst [.ref t,.ref t']);have m2:=md (a:=ce/400) (b:=2) (by decide);refine⟨_,rfl,_,_,rfl,rfl,⟨by decide,by decide⟩,_,_,rfl,rfl,(by show (0:Int)<2;decide),_,_,rfl,rfl,_,rfl,l,_,rfl,WL.of Ac,λl2 nl2=>?_⟩;have f:ce/400%2=0\/ce/400%2=1:=by lia
   have t4:=Ap nl2 (.lst (Mq [.ref t,.ref t'] none (some (1+ce/400%2))));have ac:∀ {x:Addr},upd (upd (upd H6 t (.tup [.str (Str.ofString "acme"),.int wg])) t' (.tup [.str d.nm,.int (100-wg)])) l (.lst [.ref t,.ref t']) x=none->x∉[cv]:=U6 (t3 _ _ (t2 _ _ (t1 _ _ hcv6)));have k1:=WK.of (U6 hcv6 nt) (t4 _ _ (t3 _ _ (t2 _ _ Ac)));have k2:=WK.of (U6 (t1 _ _ hcv6) nt') (t4 _ _ (t3 _ _ Ac));rcases f with f|f
   .have e:Mq [V.ref t,.ref t'] none (some (1+ce/400%2))=[.ref t]:=by rw[f];exact Su _ (k:=1) (by simp)
    refine R _ _ ⟨l2,[(Str.ofString "acme",wg)],rfl,t1.trans (t2.trans (t3.trans t4)),⟨⟨[.ref t],WK.of (ac nl2) (by rw[Ac,e]),⟨⟨t,rfl,k1⟩,trivial⟩⟩,G0 (by ac_nf) wg1 (by lia)⟩⟩
   .have e:Mq [V.ref t,.ref t'] none (some (1+ce/400%2))=[.ref t,.ref t']:=by rw[f];exact Su _ (k:=2) (by simp)
    refine R _ _ ⟨l2,[(Str.ofString "acme",wg),(d.nm,100-wg)],rfl,t1.trans (t2.trans (t3.trans t4)),⟨⟨[.ref t,.ref t'],WK.of (ac nl2) (by rw[Ac,e]),⟨⟨t,rfl,k1⟩,⟨t',rfl,k2⟩,trivial⟩⟩,LF nmk.1 nma wg1 wg2⟩⟩
  rintro σ H7 ⟨hl2,hs2,rfl,s7,h7⟩;have hcv7:=s7 _ _ hcv6;refine⟨_,rfl,_,_,rfl,rfl,(by show (0:Int)<4;decide),rfl,_,rfl,?_⟩;refine AN (λσ H'=>∃ hl hs,σ=[some (.ref a),some (.int u),some (.ref w0),some (.ref cv),some (.str d.nm),some tv,some (.ref cl),some (.ref hl),some (.bl d.wt),some (.int ce),some (.int wg),none,none,none,none,none,none,none]/\WJ H7 H'/\LI cv H' hl hs) (λ_ N R=>?_) (λ_ N R=>R _ _ ⟨hl2,hs2,rfl,WJ.refl _,h7⟩) ?_
  .obtain⟨⟨zs,z1,z2⟩,zk⟩:=h7
   cases hs2 with
   |nil=>have:=zk.sh.1;simp at this
   |cons y hs2=>
    cases zs with
    |nil=>exact z2.elim
    |cons z zs=>
     obtain⟨⟨ty,rfl,hty⟩,_⟩:=z2;have hty':=(WK.at hty).2;have z1':=(WK.at z1).2;refine⟨_,rfl,hl2,_,_,_,rfl,rfl,WL.of z1',at0 _ _,ty,_,_,_,rfl,rfl,WX.of hty',rfl,three,λlq nq=>?_⟩;have t1:=Ap nq (.lst [.int 100,.int 34,.int 10]);have m3:=md (a:=ce/4) (b:=3) (by decide);have f:ce/4%3=0\/ce/4%3=1\/ce/4%3=2:=by lia
     obtain⟨xw,ew,xw1,xw2⟩:∃ xw:Int,Nx [V.int 100,.int 34,.int 10] (ce/4%3)=some (.int xw)/\1<=xw/\xw<=100:=by
      rcases f with f|f|f <;> rw[f]
      .exact⟨100,rfl,by decide,by decide⟩
      .exact⟨34,rfl,by decide,by decide⟩
      .exact⟨10,rfl,by decide,by decide⟩
     refine⟨_,rfl,_,_,rfl,rfl,⟨by decide,by decide⟩,_,_,rfl,rfl,(by show (0:Int)<3;decide),lq,_,_,_,rfl,rfl,WL.of Ac,ew,two,λt nt=>⟨one,λl nl=>?_⟩⟩;have t2:=Ap nt (.tup [.str y.1,.int xw]);have t3:=Ap nl (.lst [.ref t]);refine R _ _ ⟨l,[(y.1,xw)],rfl,t1.trans (t2.trans t3),⟨⟨[.ref t],WK.of (U6 (t2 _ _ (t1 _ _ hcv7)) nl) Ac,⟨⟨t,rfl,WK.of (U6 (t1 _ _ hcv7) nt) (t3 _ _ Ac)⟩,trivial⟩⟩,G0 (zk.sh.2.2 y (by simp)).1 xw1 xw2⟩⟩
  rintro σ H8 ⟨hl3,hs3,rfl,s8,⟨⟨zs,z1,z2⟩,zk⟩⟩;have hcv8:=s8 _ _ hcv7;have s58:=s6.trans (s7.trans s8);refine⟨_,rfl,.inl ⟨rfl,_,WL.of hcv8⟩,_,rfl,_,rfl,_,rfl,_,rfl,_,rfl,five,λtt ntt=>?_⟩;have t1:=Ap ntt (.tup [.str d.nm,tv,.ref cl,.ref hl3,.bl d.wt]);have htt:=Ac (H:=H8) (a:=tt) (o:=.tup [.str d.nm,tv,.ref cl,.ref hl3,.bl d.wt]);have ntc:tt∉[cv]:=U6 hcv8 ntt;have s89:=s58.trans t1;have hcv9:=t1 _ _ hcv8;have o89:=SD (cv:=cv) t1;have o59:=SD (cv:=cv) s89;generalize upd H8 tt (.tup [.str d.nm,tv,.ref cl,.ref hl3,.bl d.wt])=H9 at t1 htt s89 hcv9 o89 o59;have su:WJ (WK [cv] H9) (WK [cv] (upd H9 cv (.lst (ys++[.ref tt])))):=λb o e=>by
   obtain⟨e0,e⟩:=WK.at e;exact WK.of e0 (by rw[Au (λz=>e0 (by rw[z];simp))];exact e)
  refine⟨cv,_,_,rfl,rfl,hcv9,by rw[lys,zCf];have:=(zAu.mp ed).1;lia,⟨_,_,_,_,_,_,_,rfl⟩,λb o e=>?_,λb o e n=>?_,ys++[.ref tt],ls2++[⟨d.nm,d.t,d.cl,hs3,d.wt⟩],Ac,?_,?_,?_⟩
  .rw[Au (Ak e ncv)]
   exact s89 _ _ (s5 _ _ e)
  .rw[Au n]
   exact s89 _ _ (kb _ _ e n)
  .exact (al2.imp λv d h=>h.same (o59.trans su)).app (.cons (XO.same ⟨tt,tv,cl,hl3,cs,zs,rfl,WK.of ntc htt,WP.same o59 _ g2,o59 _ _ g3,g4.imp λv c h=>h.same o59,o89 _ _ z1,z2.mono (Fu o89)⟩ su) .nil)
  .rw[zAf,Bv ed,zAf,en2]
   rfl
  .intro d' hd'
   rcases zAF.mp hd' with hd'|hd'
   .exact ok2 d' hd'
   .rw[zAp.mp hd']
    exact⟨⟨okd.ok.nm,okd.ok.t,okd.ok.cl,zk.sh,zk.nd,zk.gw⟩,okd.hg⟩
 .rintro σ H5 ⟨⟨o4,o5,o6,o7,o8,o9,o10,rfl⟩,s5,kb,ys,ls2,hcv5,al2,en2,ok2⟩
  rw[lxs,<- lls,zAt,en] at en2;clear kb al okl en hr4 hcv4 nrc s24 s4 s3 hw3 hcv s03;have AL:XC (XO H5) ys ls2:=al2.imp λv d h=>h.same (WK.sub _ _);have L3:ls2.length=3:=by rw[<- lD,<- en2,zAa]
  have lys:ys.length=3:=by rw[AL.len,L3]
  have ND:(ls2.map (·.nm)).Nodup:=by rw[en2];exact YL.nd
  have OK:∀ d∈ls2,QG d:=λd hd=>(ok2 d hd).ok;have HN:∀ d∈ls2,∀ x∈d.hs.map (·.1),Ew (.str x)=true:=λd hd x hx=>by
   obtain⟨y,hy,rfl⟩:=zAz.mp hx;exact ((OK d hd).hs.2.2 y hy).1
  have s05:=s02.trans s5;clear al2 s5;refine⟨zAB _,λr0 nr0=>?_⟩;have s6:=Ap nr0 (.lst []);refine Hu [some (.ref a),some (.int u),some (.ref w0),some (.ref cv),o4,o5,o6,o7,o8,o9,o10,some (.ref r0),none,none,none,none,none,none] rfl ?_;refine⟨3,rfl,by decide,by decide,?_⟩;refine Ey (lo:=0) (n:=3) (λi σ H6=>∃ r2 rss o12,σ=[some (.ref a),some (.int u),some (.ref w0),some (.ref cv),o4,o5,o6,o7,o8,o9,o10,some (.ref r2),o12,none,none,none,none,none]/\WJ H5 H6/\XC Drawn (ls2.take i) rss/\H6 r2=some (.lst ((zBl (λd rs=>WU.cov (LC.nm d)::rs) (ls2.take i) rss).flatten.map Br))/\(zBl (λd rs=>WU.cov (LC.nm d)::rs) (ls2.take i) rss).flatten.length<=13*i)
   ⟨r0,[],none,rfl,s6,by rw[zAU];exact .nil,by rw[zAU];exact Ac,by simp⟩ ?_ ?_
  .rintro i σ H6 hi ⟨r2,rss,o12,rfl,s6,dr,hr2,ln⟩
   have il:i<ls2.length:=by lia
   have iy:i<ys.length:=by lia
   obtain⟨d,ed,lc⟩:=AL.get (zAg iy);have e0:(0+(i:Int))=(i:Int):=by lia
   have at':Nx ys (0+(i:Int))=some ys[i]:=by rw[e0];exact Fd (zAg iy)
   refine⟨_,rfl,_,rfl,_,rfl,cv,_,_,_,rfl,rfl,WL.of (s6 _ _ hcv5),at',_,rfl,_,rfl,_,_,rfl,rfl,a,ns,14+(0+(i:Int)),rfl,(s05.trans s6).seq ha,by lia,l63,_,rfl,λsp sp0 sp1=>?_⟩;refine⟨ys[i],sp,d,rfl,sp0,lc.same s6,ok2 d (zAs ed),λl rs H7 s7 hl7 drw lr=>?_⟩;have lz:(ls2.take i).length=rss.length:=dr.len;have ez:zBl (λd rs=>WU.cov (LC.nm d)::rs) (ls2.take (i+1)) (rss++[rs])=zBl (λd rs=>WU.cov (LC.nm d)::rs) (ls2.take i) rss++[WU.cov d.nm::rs]:=by
    rw[Bv ed,List.zipWith_append lz];rfl
   refine⟨r2,l,_,_,rfl,rfl,s7 _ _ hr2,hl7,by rw[zAa,zAa,zAe,zCf];lia,λr3 n3=>?_⟩;refine⟨r3,rss++[rs],_,rfl,s6.trans (s7.trans (Ap n3 _)),by rw[Bv ed];exact dr.app (.cons drw .nil),?_,?_⟩
   .rw[Ac,ez,List.flatten_append,zAf]
    simp
   .rw[ez,List.flatten_append,zAc]
    have h1:[WU.cov d.nm::rs].flatten.length=rs.length+1:=by simp
    rw[h1]
    lia
  rintro σ H6 ⟨r2,rss,o12,rfl,s6,dr,hr2,ln⟩;have e3:ls2.take 3=ls2:=zBJ (by lia);rw[e3] at dr hr2 ln;obtain⟨ds,rd,eds⟩:=E3 ls2 rss OK dr [] (by simp;lia) (by simpa using ND);rw[zBy,List.nil_append] at eds;have hTT:∃ n rest,(zBl (λd rs=>WU.cov (LC.nm d)::rs) ls2 rss).flatten=.cov n::rest/\Vt (.cov n):=by
   cases dr with
   |nil=>simp at L3
   |cons _ _=>exact⟨_,_,rfl,(OK _ zAk).nm⟩
  generalize (zBl (λd rs=>WU.cov (LC.nm d)::rs) ls2 rss).flatten=TT at hr2 ln rd hTT;refine⟨_,rfl,r2,_,rfl,.inl (WL.of hr2),λhd nhd=>?_⟩;have s7:=Ap nhd (.lst (TT.map Br));have hhd:upd H6 hd (.lst (TT.map Br)) hd=some (.lst (TT.map Br)):=Ac;generalize upd H6 hd (.lst (TT.map Br))=H7 at s7 hhd;refine Hu [some (.ref a),some (.int u),some (.ref w0),some (.ref cv),o4,o5,o6,o7,o8,o9,o10,some (.ref r2),o12,some (.ref hd),none,none,none,none] rfl ?_;refine⟨_,rfl,hd,TT,ds,rfl,hhd,by lia,rd,λb H8 s8 bo=>?_⟩;rw[eds] at bo;refine Hu [some (.ref a),some (.int u),some (.ref w0),some (.ref cv),o4,o5,o6,o7,o8,o9,o10,some (.ref r2),o12,some (.ref hd),some (.ref b),none,none,none] rfl ?_;refine⟨_,rfl,_,rfl,hd,r2,_,_,rfl,rfl,WL.of (s8 _ _ hhd),WL.of (s8 _ _ (s7 _ _ hr2)),Eg _,Eg _,_,rfl,?_⟩;show if (!Uf (TT.map Br) (TT.map Br))=true then _ else _;rw[Na (Eg _)];refine Ep ?_;obtain⟨clb,akb,csb,⟨⟨dxb,fsb,hb,fb,_⟩,hcb,_⟩,ab⟩:=id bo;refine⟨_,rfl,_,_,_,_,_,rfl,(λ_ h=>h),L.ty_Book hb,L.kt_Book_Book,_,rfl,Ep ?_⟩;refine⟨_,rfl,b,_,dxb,fsb,_,rfl,hb,L.cl_Book,L.na_Book_covers,fb,clb,_,rfl,.inl (WL.of hcb),rfl,_,rfl,nF (by rw[zAa,ab.len,L3];rfl) ?_⟩;refine⟨_,rfl,.inl ⟨rfl,_,WL.of (s8 _ _ hhd)⟩,hd,_,rfl,rfl,s8 _ _ hhd,?_⟩;obtain⟨n0,rest,eT,okn⟩:=hTT;have hz:32∈(WU.cov n0).row.cps.toList:=EF okn (by show 2<=2;decide);have hh8:H8 hd=some (.lst (.str (WU.cov n0).row::rest.map Br)):=by rw[s8 _ _ hhd,eT];rfl
  have bo9:XV (A8.mk Ab Ae Ad Ah Ao Ax Ay Am) Al Ba An Aq As Bb Bd (upd H8 hd (.lst [])) b ls2:=(bo.offS hh8 hz HN).same λc o e=>by
   obtain⟨e0,e⟩:=WK.at e;rw[Au (λy=>e0 (by rw[y];simp))];exact e
  have s59:WJ H5 (upd H8 hd (.lst [])):=λc o e=>by rw[Au (Ak (s6 _ _ e) nhd)];exact s8 _ _ (s7 _ _ (s6 _ _ e))
  generalize upd H8 hd (.lst [])=H9 at bo9 s59;clear ab hcb hb bo s8 hhd s7 hr2 hh8 dr ln rd eds nhd s6;have same:∀ {Hx:Hp} {bx:Addr},XV (A8.mk Ab Ae Ad Ah Ao Ax Ay Am) Al Ba An Aq As Bb Bd Hx bx ls2->WJ H5 Hx->∀ i:Nat,i<3->∃ dx fs cl xs p v d,Hx bx=some (.ins Bd dx fs)/\fs.lookup ("covers" : Str)=some (.ref cl)/\Hx cl=some (.lst xs)/\Nx xs (0+(i:Int))=some (.ref p)/\Nx ys (0+(i:Int))=some v/\XG (A8.mk Ab Ae Ad Ah Ao Ax Ay Am) Al Ba An Aq As Bb Hx p d/\XO Hx v d/\S2 d:=λ{Hx bx} bo sx i hi=>by
   obtain⟨clb,akb,csb,⟨⟨dxb,fsb,hb,fb,_⟩,hcb,_⟩,ab⟩:=bo;have ic:i<csb.length:=by rw[ab.len];lia
   have iy:i<ys.length:=by lia
   obtain⟨d,ed,_,_,co⟩:=ab.get (zAg ic);obtain⟨d',ed',lc⟩:=AL.get (zAg iy);rw[ed] at ed';have:=Option.some.inj ed';subst this;have e0:(0+(i:Int))=(i:Int):=by lia
   refine⟨dxb,fsb,clb,_,csb[i].1,ys[i],d,hb,fb,hcb,?_,?_,co,lc.same sx,ok2 d (zAs ed)⟩
   .rw[e0];exact Fd (by rw[zAx,zAg ic];rfl)
   .rw[e0];exact Fd (zAg iy)
  refine⟨3,rfl,by decide,by decide,?_⟩;refine Ey (lo:=0) (n:=3) (λi σ H10=>(∃ o12,σ=[some (.ref a),some (.int u),some (.ref w0),some (.ref cv),o4,o5,o6,o7,o8,o9,o10,some (.ref r2),o12,some (.ref hd),some (.ref b),none,none,none])/\WJ H9 H10) ⟨⟨_,rfl⟩,WJ.refl _⟩ ?_ ?_
  .rintro i σ H10 hi ⟨⟨o12',rfl⟩,s10⟩
   obtain⟨dx,fs,cl,xs',p,v,d,k1,k2,k3,k4,k5,co,lc,okd⟩:=same (bo9.same s10) (s59.trans s10) i hi;refine⟨_,rfl,b,_,dx,fs,_,rfl,k1,L.cl_Book,L.na_Book_covers,k2,_,rfl,cl,_,_,_,rfl,rfl,WL.of k3,k4,_,rfl,_,rfl,cv,_,_,_,rfl,rfl,WL.of (s10 _ _ (s59 _ _ hcv5)),k5,p,v,d,rfl,co,lc,okd,λH11 s11=>⟨_,rfl,Ep ⟨⟨_,rfl⟩,s10.trans s11⟩⟩⟩
  rintro σ H10 ⟨⟨o12',rfl⟩,s10⟩;have s510:=s59.trans s10;refine⟨_,rfl,cv,ys,ls2,rfl,s510 _ _ hcv5,AL.imp λv d h=>h.same s510,by lia,ok2,λdu H11 s11 ndu hdu=>?_⟩;refine Hu [some (.ref a),some (.int u),some (.ref w0),some (.ref cv),o4,o5,o6,o7,o8,o9,o10,some (.ref r2),o12',some (.ref hd),some (.ref b),some (.ref du),none,none] rfl ?_;have bo11:=(bo9.same s10).same s11;refine⟨_,rfl,b,ls2,rfl,bo11,by lia,OK,λsw H12 s12 nsw hsw=>?_⟩;refine Hu [some (.ref a),some (.int u),some (.ref w0),some (.ref cv),o4,o5,o6,o7,o8,o9,o10,some (.ref r2),o12',some (.ref hd),some (.ref b),some (.ref du),some (.ref sw),none] rfl ?_;refine⟨_,rfl,_,_,_,_,_,rfl,Ow,.lst hsw,Z8,_,rfl,Ep ?_⟩;refine⟨_,rfl,_,rfl,sw,du,_,_,rfl,rfl,WL.of hsw,WL.of (s12 _ _ hdu),Eg _,Eg _,_,rfl,?_⟩;show if (!Uf ((ls2.flatMap Dm).map Br) ((ls2.flatMap Dm).map Br))=true then _ else _;rw[Na (Eg _)];refine Ep ?_;have bnd:(ls2.flatMap Dm).length<=12*ls2.length:=by
   have:∀ l:List LC,(∀ d∈l,d.cl.length<=8)->(l.flatMap Dm).length<=12*l.length:=λl=>by
    induction l with
    |nil=>intro _;simp
    |cons a l ih=>
     intro h;have h1:=Iw (h a (by simp));have h2:=ih λd hd=>h d (by simp [hd]);rw[zBX,zAc,zAe]
     lia
   exact this ls2 λd hd=>(OK d hd).cl.1
  refine⟨_,rfl,.inl ⟨rfl,_,WL.of hsw⟩,sw,_,_,rfl,rfl,hsw,by rw[zAa,zCf];lia,?_⟩;have s1113:WJ H11 (upd H12 sw (.lst ((ls2.flatMap Dm).map Br++[.str (Str.ofString "waits")]))):=λc o e=>by rw[Au (Ak e nsw)];exact s12 _ _ e
  generalize upd H12 sw (.lst ((ls2.flatMap Dm).map Br++[.str (Str.ofString "waits")]))=H13 at s1113;have hdu13:=s1113 _ _ hdu;refine⟨_,rfl,du,_,rfl,.inl (WL.of hdu13),λx nx=>?_⟩;have s14:=Ap nx (.lst ((ls2.flatMap Dm).map Br));obtain⟨ds2,rd2,eds2⟩:=E3 ls2 _ OK (BF ls2 λd _=>O6) [] (by simp;lia) (by simpa using ND);rw[zBy,List.nil_append] at eds2;rw[X1] at rd2;refine⟨x,ls2.flatMap Dm,ds2,rfl,Ac,by lia,rd2,λb2 H15 s15 bo2=>?_⟩;rw[eds2] at bo2;refine Hu [some (.ref a),some (.int u),some (.ref w0),some (.ref cv),o4,o5,o6,o7,o8,o9,o10,some (.ref r2),o12',some (.ref hd),some (.ref b),some (.ref du),some (.ref sw),some (.ref b2)] rfl ?_;have s1115:=s1113.trans (s14.trans s15);have bo15:=bo11.same s1115;have hdu15:=s1115 _ _ hdu;have s515:=s510.trans (s11.trans s1115);clear s15 s14 hdu13 s1113 bnd;refine⟨_,rfl,b2,ls2,rfl,bo2,by lia,OK,λl1 H16 s16 nl1 hl1=>⟨_,rfl,l1,du,_,_,rfl,rfl,WL.of hl1,WL.of (s16 _ _ hdu15),Eg _,Eg _,_,rfl,?_⟩⟩;show if (!Uf ((ls2.flatMap Dm).map Br) ((ls2.flatMap Dm).map Br))=true then _ else _;rw[Na (Eg _)];refine Ep ?_;refine⟨_,rfl,b,ls2,rfl,bo15.same s16,by lia,OK,λl2 H17 s17 nl2 hl2=>⟨_,rfl,l2,du,_,_,rfl,rfl,WL.of hl2,WL.of (s17 _ _ (s16 _ _ hdu15)),Eg _,Eg _,_,rfl,?_⟩⟩;show if (!Uf ((ls2.flatMap Dm).map Br) ((ls2.flatMap Dm).map Br))=true then _ else _;rw[Na (Eg _)];refine Ep ?_;refine⟨zAB _,λq1 nq1=>⟨q1,[],[],rfl,Ac,by simp,.nil,λb3 H18 s18 bo3=>⟨b3,[],rfl,bo3,by simp,(λ_ z=>nomatch z),λl3 H19 s19 nl3 hl3=>⟨zAB _,λq2 nq2=>?_⟩⟩⟩⟩
  have t2:=Ap nq2 (.lst []);refine⟨l3,q2,[],[],rfl,rfl,WL.of (t2 _ _ hl3),WL.of Ac,rfl,rfl,_,rfl,Ep ?_⟩;have s1520:=s16.trans (s17.trans ((Ap nq1 (.lst [])).trans (s18.trans (s19.trans t2))));generalize upd H19 q2 (.lst [])=H20 at s1520;have bo20:=bo2.same s1520;have s520:=s515.trans s1520;refine⟨3,rfl,by decide,by decide,?_⟩;refine Ey (lo:=0) (n:=3) (λi σ H21=>(∃ o12,σ=[some (.ref a),some (.int u),some (.ref w0),some (.ref cv),o4,o5,o6,o7,o8,o9,o10,some (.ref r2),o12,some (.ref hd),some (.ref b),some (.ref du),some (.ref sw),some (.ref b2)])/\WJ H20 H21) ⟨⟨_,rfl⟩,WJ.refl _⟩ ?_ ?_
  .rintro i σ H21 hi ⟨⟨o12'',rfl⟩,s21⟩
   obtain⟨dx,fs,cl,xs',p,v,d,k1,k2,k3,k4,k5,co,lc,okd⟩:=same (bo20.same s21) (s520.trans s21) i hi;refine⟨_,rfl,b2,_,dx,fs,_,rfl,k1,L.cl_Book,L.na_Book_covers,k2,_,rfl,cl,_,_,_,rfl,rfl,WL.of k3,k4,_,rfl,_,rfl,cv,_,_,_,rfl,rfl,WL.of (s21 _ _ (s520 _ _ hcv5)),k5,p,v,d,rfl,co,lc,okd,λH22 s22=>⟨_,rfl,Ep ⟨⟨_,rfl⟩,s21.trans s22⟩⟩⟩
  rintro σ H21 ⟨⟨o12'',rfl⟩,s21⟩;exact q _
end
def JY {P:Program} {w:World} {K:zAb} {mg:Str->Option Value} {base:Heap} {CX:ES} {k:Nat} {f:Addr} {fd:zCh} {ps:List Str} {sp:Sp} (h:∀ vs H Q E,¬ sp vs H Q E):WN P w K mg base CX k f fd ps sp:=
 ⟨λvs H Q E z=>absurd z (h vs H Q E),λ_ _ _ _ _ _ _ _ _ _ _ _ _ z=>absurd z (h _ _ _ _)⟩
def all_mk {l:PySem.W.OpenLaw} {w:World} {K:zAb} {h:Heap} {mg:Str->Option Value} {fa:Addr} (X:K.In h) (G:h.Ns zCi mg) (hfa:mg "law"=some (.ref fa))
  {f0:Addr} (d0:DfIn K "is_whole" Qb f0)
  {f1:Addr} (d1:DfIn K "has_figures_alone" Fq f1)
  {f2:Addr} (d2:DfIn K "writes_whole" Iy f2)
  {f3:Addr} (d3:DfIn K "is_cents_part" Ie f3)
  {f4:Addr} (d4:DfIn K "read_cents" Ld f4)
  {f5:Addr} (d5:DfIn K "show_cents" Lq f5)
  {f6:Addr} (d6:DfIn K "has_letters_alone" Fs f6)
  {f7:Addr} (d7:DfIn K "is_name" Sx f7)
  {f8:Addr} (d8:DfIn K "is_day" Vw f8)
  {f9:Addr} (d9:DfIn K "is_amount" Mr f9)
  {f10:Addr} (d10:DfIn K "checked_amount" Hj f10)
  {f11:Addr} (d11:DfIn K "words_within" Jg f11)
  {f12:Addr} (d12:DfIn K "words_with" Kv f12)
  {f13:Addr} (d13:DfIn K "are_weights" Kc f13)
  {f14:Addr} (d14:DfIn K "may_have" Qj f14)
  {f15:Addr} (d15:DfIn K "due_by" Vp f15)
  {f16:Addr} (d16:DfIn K "place_of_turn" Ij f16)
  {f17:Addr} (d17:DfIn K "turns" B4 f17)
  {f18:Addr} (d18:DfIn K "check_houses" Jb f18)
  {f19:Addr} (d19:DfIn K "day_of" We f19)
  {f20:Addr} (d20:DfIn K "read_condition" Hr f20)
  {f21:Addr} (d21:DfIn K "show_condition" Hl f21)
  {f22:Addr} (d22:DfIn K "new_draft" Nt f22)
  {f23:Addr} (d23:DfIn K "take_when" Mt f23)
  {f24:Addr} (d24:DfIn K "weight_of" Mn f24)
  {f25:Addr} (d25:DfIn K "take_share" Kw f25)
  {f26:Addr} (d26:DfIn K "take_waits" Lf f26)
  {f27:Addr} (d27:DfIn K "clause_of" Mo f27)
  {f28:Addr} (d28:DfIn K "take_of_cover" Ic f28)
  {f29:Addr} (d29:DfIn K "take_row" Qd f29)
  {f30:Addr} (d30:DfIn K "read_book" Nq f30)
  {f31:Addr} (d31:DfIn K "show_share" Lv f31)
  {f32:Addr} (d32:DfIn K "show_cover" Li f32)
  {f33:Addr} (d33:DfIn K "show_book" Mh f33)
  {f34:Addr} (d34:DfIn K "_law_cell" Nc f34)
  {f35:Addr} (d35:DfIn K "_law_spread" Jv f35)
  {f36:Addr} (d36:DfIn K "_law_names" Lm f36)
  {f37:Addr} (d37:DfIn K "_law_amount" Jt f37)
  {f38:Addr} (d38:DfIn K "_law_unit" Mv f38)
  {f39:Addr} (d39:DfIn K "_law_world" Lh f39)
  {f40:Addr} (d40:DfIn K "_law_cond" Mi f40)
  {f41:Addr} (d41:DfIn K "_law_drawn_clause" Fp f41)
  {f42:Addr} (d42:DfIn K "_law_houses" Jy f42)
  {f43:Addr} (d43:DfIn K "_law_covers" Jw f43)
  {f44:Addr} (d44:DfIn K "_law_money" Lk f44)
  {f45:Addr} (d45:DfIn K "_law_bracketed" Hq f45)
  {f46:Addr} (d46:DfIn K "_law_text" Mg f46)
  {f47:Addr} (d47:DfIn K "_law_clause_row" Go f47)
  {f48:Addr} (d48:DfIn K "_law_cover_rows" Gx f48)
  {f49:Addr} (d49:DfIn K "_law_rows" Nh f49)
  {f50:Addr} (d50:DfIn K "_law_drawn_rows" Gn f50)
  {f51:Addr} (d51:DfIn K "_law_same" Mu f51)
  {f52:Addr} (d52:DfIn K "law" Wp f52)
  {Ab:Addr} (q_Condition:XD K "Condition" Ab)
  {Ae:Addr} (q_CauseIs:XD K "CauseIs" Ae)
  (na_CauseIs_name:zAd K (.ref Ae) "name"=some none)
  {Ad:Addr} (q_ThingIs:XD K "ThingIs" Ad)
  (na_ThingIs_name:zAd K (.ref Ad) "name"=some none)
  {Ah:Addr} (q_DaysIn:XD K "DaysIn" Ah)
  (na_DaysIn_first:zAd K (.ref Ah) "first"=some none)
  (na_DaysIn_last:zAd K (.ref Ah) "last"=some none)
  {Ao:Addr} (q_Over:XD K "Over" Ao)
  (na_Over_cents:zAd K (.ref Ao) "cents"=some none)
  {Ax:Addr} (q_Not:XD K "Not" Ax)
  (na_Not_part:zAd K (.ref Ax) "part"=some none)
  {Ay:Addr} (q_All:XD K "All" Ay)
  (na_All_several:zAd K (.ref Ay) "several"=some none)
  {Am:Addr} (q_Some:XD K "Some" Am)
  (na_Some_several:zAd K (.ref Am) "several"=some none)
  {Al:Addr} (q_Clause:XD K "Clause" Al)
  (na_Clause_by:zAd K (.ref Al) "by"=some none)
  {Ba:Addr} (q_Own:XD K "Own" Ba)
  (na_Own_cents:zAd K (.ref Ba) "cents"=some none)
  (na_Own_by:zAd K (.ref Ba) "by"=some none)
  {An:Addr} (q_Layer:XD K "Layer" An)
  (na_Layer_first:zAd K (.ref An) "first"=some none)
  (na_Layer_upto:zAd K (.ref An) "upto"=some none)
  (na_Layer_by:zAd K (.ref An) "by"=some none)
  {Aq:Addr} (q_Limit:XD K "Limit" Aq)
  (na_Limit_most:zAd K (.ref Aq) "most"=some none)
  (na_Limit_by:zAd K (.ref Aq) "by"=some none)
  {Bb:Addr} (q_Deal:XD K "Deal" Bb)
  (na_Deal_wheel:zAd K (.ref Bb) "wheel"=some none)
  (na_Deal_weights:zAd K (.ref Bb) "weights"=some none)
  {As:Addr} (q_Cover:XD K "Cover" As)
  (na_Cover_name:zAd K (.ref As) "name"=some none)
  (na_Cover_condition:zAd K (.ref As) "condition"=some none)
  (na_Cover_clauses:zAd K (.ref As) "clauses"=some none)
  (na_Cover_houses:zAd K (.ref As) "houses"=some none)
  (na_Cover_deal:zAd K (.ref As) "deal"=some none)
  (na_Cover_waits:zAd K (.ref As) "waits"=some none)
  {Bd:Addr} (q_Book:XD K "Book" Bd)
  (na_Book_covers:zAd K (.ref Bd) "covers"=some none)
  (na_Book_asking:zAd K (.ref Bd) "asking"=some none)
  (ha_Book:zAd K (.ref Bd) "__class__"=some (some (.builtin "object.__class__"))) (hm_Book:PySem.W.mroIn K Bd (.type "object")=some true)
  (gs:zBD K (.builtin "object.__class__") "__get__"=some (some (.builtin "getset_descriptor.__get__"))) (tk:PySem.W.takesIn K (.builtin "object.__class__")=some true)
  {Af:Addr} (q_Reader:XD K "Reader" Af)
  (na_Reader_row:zAd K (.ref Af) "row"=some none)
  (na_Reader_place:zAd K (.ref Af) "place"=some none)
  (na_Reader_depth:zAd K (.ref Af) "depth"=some none)
  {Aw:Addr} (q_Draft:XD K "Draft" Aw)
  (na_Draft_name:zAd K (.ref Aw) "name"=some none)
  (na_Draft_condition:zAd K (.ref Aw) "condition"=some none)
  (na_Draft_clauses:zAd K (.ref Aw) "clauses"=some none)
  (na_Draft_shares:zAd K (.ref Aw) "shares"=some none)
  (na_Draft_waits:zAd K (.ref Aw) "waits"=some none)
  (kt_Book_Book:zBh K (.ref Bd) (.ref Bd)=some true)
  (nd_C:([Ab,Ae,Ad,Ah,Ao,Ax,Ay,Am,Al,Ba,An,Aq,Bb,As,Bd,Af,Aw]:List Addr).Nodup)
  {fCondition_rank:Addr} (a_Condition_rank:zAd K (.ref Ab) "rank"=some (some (.ref fCondition_rank))) (iCondition_rank:MtIn K "rank" "Condition.rank" Hn fCondition_rank)
  {fCondition_words:Addr} (a_Condition_words:zAd K (.ref Ab) "words"=some (some (.ref fCondition_words))) (iCondition_words:MtIn K "words" "Condition.words" Hb fCondition_words)
  {fCauseIs___init__:Addr} (a_CauseIs___init__:zAd K (.ref Ae) "__init__"=some (some (.ref fCauseIs___init__))) (iCauseIs___init__:MtIn K "__init__" "CauseIs.__init__" Gf fCauseIs___init__)
  {fCauseIs_words:Addr} (a_CauseIs_words:zAd K (.ref Ae) "words"=some (some (.ref fCauseIs_words))) (iCauseIs_words:MtIn K "words" "CauseIs.words" Il fCauseIs_words)
  {fThingIs___init__:Addr} (a_ThingIs___init__:zAd K (.ref Ad) "__init__"=some (some (.ref fThingIs___init__))) (iThingIs___init__:MtIn K "__init__" "ThingIs.__init__" Gh fThingIs___init__)
  {fThingIs_words:Addr} (a_ThingIs_words:zAd K (.ref Ad) "words"=some (some (.ref fThingIs_words))) (iThingIs_words:MtIn K "words" "ThingIs.words" Ik fThingIs_words)
  {fDaysIn___init__:Addr} (a_DaysIn___init__:zAd K (.ref Ah) "__init__"=some (some (.ref fDaysIn___init__))) (iDaysIn___init__:MtIn K "__init__" "DaysIn.__init__" Gr fDaysIn___init__)
  {fDaysIn_words:Addr} (a_DaysIn_words:zAd K (.ref Ah) "words"=some (some (.ref fDaysIn_words))) (iDaysIn_words:MtIn K "words" "DaysIn.words" Ji fDaysIn_words)
  {fOver___init__:Addr} (a_Over___init__:zAd K (.ref Ao) "__init__"=some (some (.ref fOver___init__))) (iOver___init__:MtIn K "__init__" "Over.__init__" Ig fOver___init__)
  {fOver_words:Addr} (a_Over_words:zAd K (.ref Ao) "words"=some (some (.ref fOver_words))) (iOver_words:MtIn K "words" "Over.words" Ks fOver_words)
  {fNot___init__:Addr} (a_Not___init__:zAd K (.ref Ax) "__init__"=some (some (.ref fNot___init__))) (iNot___init__:MtIn K "__init__" "Not.__init__" Jk fNot___init__)
  {fNot_words:Addr} (a_Not_words:zAd K (.ref Ax) "words"=some (some (.ref fNot_words))) (iNot_words:MtIn K "words" "Not.words" No fNot_words)
  {fAll___init__:Addr} (a_All___init__:zAd K (.ref Ay) "__init__"=some (some (.ref fAll___init__))) (iAll___init__:MtIn K "__init__" "All.__init__" Jh fAll___init__)
  {fAll_rank:Addr} (a_All_rank:zAd K (.ref Ay) "rank"=some (some (.ref fAll_rank))) (iAll_rank:MtIn K "rank" "All.rank" Ql fAll_rank)
  {fAll_words:Addr} (a_All_words:zAd K (.ref Ay) "words"=some (some (.ref fAll_words))) (iAll_words:MtIn K "words" "All.words" Nr fAll_words)
  {fSome___init__:Addr} (a_Some___init__:zAd K (.ref Am) "__init__"=some (some (.ref fSome___init__))) (iSome___init__:MtIn K "__init__" "Some.__init__" Im fSome___init__)
  {fSome_rank:Addr} (a_Some_rank:zAd K (.ref Am) "rank"=some (some (.ref fSome_rank))) (iSome_rank:MtIn K "rank" "Some.rank" Mz fSome_rank)
  {fSome_words:Addr} (a_Some_words:zAd K (.ref Am) "words"=some (some (.ref fSome_words))) (iSome_words:MtIn K "words" "Some.words" Ls fSome_words)
  {fClause___init__:Addr} (a_Clause___init__:zAd K (.ref Al) "__init__"=some (some (.ref fClause___init__))) (iClause___init__:MtIn K "__init__" "Clause.__init__" Gp fClause___init__)
  {fOwn___init__:Addr} (a_Own___init__:zAd K (.ref Ba) "__init__"=some (some (.ref fOwn___init__))) (iOwn___init__:MtIn K "__init__" "Own.__init__" Jf fOwn___init__)
  {fOwn_words:Addr} (a_Own_words:zAd K (.ref Ba) "words"=some (some (.ref fOwn_words))) (iOwn_words:MtIn K "words" "Own.words" Nn fOwn_words)
  {fLayer___init__:Addr} (a_Layer___init__:zAd K (.ref An) "__init__"=some (some (.ref fLayer___init__))) (iLayer___init__:MtIn K "__init__" "Layer.__init__" Hi fLayer___init__)
  {fLayer_words:Addr} (a_Layer_words:zAd K (.ref An) "words"=some (some (.ref fLayer_words))) (iLayer_words:MtIn K "words" "Layer.words" Kf fLayer_words)
  {fLimit___init__:Addr} (a_Limit___init__:zAd K (.ref Aq) "__init__"=some (some (.ref fLimit___init__))) (iLimit___init__:MtIn K "__init__" "Limit.__init__" Hm fLimit___init__)
  {fLimit_words:Addr} (a_Limit_words:zAd K (.ref Aq) "words"=some (some (.ref fLimit_words))) (iLimit_words:MtIn K "words" "Limit.words" Kg fLimit_words)
  {fDeal___init__:Addr} (a_Deal___init__:zAd K (.ref Bb) "__init__"=some (some (.ref fDeal___init__))) (iDeal___init__:MtIn K "__init__" "Deal.__init__" Io fDeal___init__)
  {fCover___init__ dvCover___init__:Addr} {odCover___init__ anCover___init__:Option Addr} {slCover___init__:Array (Option Value)} {ocCover___init__ kVCover___init__ dcCover___init__ pmCover___init__ cdCover___init__ ctCover___init__:Value}
  (a_Cover___init__:zAd K (.ref As) "__init__"=some (some (.ref fCover___init__)))
  (iCover___init__:zBs K (.ref fCover___init__)=true) (lCover___init__:K.lookup fCover___init__=some ⟨ocCover___init__,odCover___init__,.func (zAK "__init__" "Cover.__init__" (Dt Cu) (Dj Cu) (Av Cu) (.ref dvCover___init__) kVCover___init__ dcCover___init__ pmCover___init__ anCover___init__ cdCover___init__ ctCover___init__),slCover___init__⟩) (cCover___init__:zAP K cdCover___init__ "Cover.__init__"=true) (kCover___init__:zAJ K (.ref fCover___init__)=true)
  {ndCover___init__:Nat} (dlCover___init__:K.lookup dvCover___init__=some ⟨.type "tuple",none,.seq #[.none,.none,.bool false] ndCover___init__,#[]⟩)
  {fBook___init__:Addr} (a_Book___init__:zAd K (.ref Bd) "__init__"=some (some (.ref fBook___init__))) (iBook___init__:MtIn K "__init__" "Book.__init__" Ih fBook___init__)
  {fReader___init__:Addr} (a_Reader___init__:zAd K (.ref Af) "__init__"=some (some (.ref fReader___init__))) (iReader___init__:MtIn K "__init__" "Reader.__init__" Gw fReader___init__)
  {fReader_ahead:Addr} (a_Reader_ahead:zAd K (.ref Af) "ahead"=some (some (.ref fReader_ahead))) (iReader_ahead:MtIn K "ahead" "Reader.ahead" Jl fReader_ahead)
  {fReader_step:Addr} (a_Reader_step:zAd K (.ref Af) "step"=some (some (.ref fReader_step))) (iReader_step:MtIn K "step" "Reader.step" Ke fReader_step)
  {fReader_read_rows:Addr} (a_Reader_read_rows:zAd K (.ref Af) "read_rows"=some (some (.ref fReader_read_rows))) (iReader_read_rows:MtIn K "read_rows" "Reader.read_rows" Ga fReader_read_rows)
  {fReader_read_row:Addr} (a_Reader_read_row:zAd K (.ref Af) "read_row"=some (some (.ref fReader_read_row))) (iReader_read_row:MtIn K "read_row" "Reader.read_row" Hd fReader_read_row)
  {fReader_goes_on:Addr} (a_Reader_goes_on:zAd K (.ref Af) "goes_on"=some (some (.ref fReader_goes_on))) (iReader_goes_on:MtIn K "goes_on" "Reader.goes_on" Hf fReader_goes_on)
  {fReader_read_piece:Addr} (a_Reader_read_piece:zAd K (.ref Af) "read_piece"=some (some (.ref fReader_read_piece))) (iReader_read_piece:MtIn K "read_piece" "Reader.read_piece" Fo fReader_read_piece)
  {fReader_read_deeper:Addr} (a_Reader_read_deeper:zAd K (.ref Af) "read_deeper"=some (some (.ref fReader_read_deeper))) (iReader_read_deeper:MtIn K "read_deeper" "Reader.read_deeper" Fh fReader_read_deeper)
  {fReader_read_bracket:Addr} (a_Reader_read_bracket:zAd K (.ref Af) "read_bracket"=some (some (.ref fReader_read_bracket))) (iReader_read_bracket:MtIn K "read_bracket" "Reader.read_bracket" Fb fReader_read_bracket)
  {fReader_read_name:Addr} (a_Reader_read_name:zAd K (.ref Af) "read_name"=some (some (.ref fReader_read_name))) (iReader_read_name:MtIn K "read_name" "Reader.read_name" Gd fReader_read_name)
  {fReader_read_days:Addr} (a_Reader_read_days:zAd K (.ref Af) "read_days"=some (some (.ref fReader_read_days))) (iReader_read_days:MtIn K "read_days" "Reader.read_days" Gc fReader_read_days)
  {fReader_read_day:Addr} (a_Reader_read_day:zAd K (.ref Af) "read_day"=some (some (.ref fReader_read_day))) (iReader_read_day:MtIn K "read_day" "Reader.read_day" Gq fReader_read_day)
  {fReader_read_amount:Addr} (a_Reader_read_amount:zAd K (.ref Af) "read_amount"=some (some (.ref fReader_read_amount))) (iReader_read_amount:MtIn K "read_amount" "Reader.read_amount" Fg fReader_read_amount)
  {fDraft___init__:Addr} (a_Draft___init__:zAd K (.ref Aw) "__init__"=some (some (.ref fDraft___init__))) (iDraft___init__:MtIn K "__init__" "Draft.__init__" Hh fDraft___init__)
  {fDraft_as_cover:Addr} (a_Draft_as_cover:zAd K (.ref Aw) "as_cover"=some (some (.ref fDraft_as_cover))) (iDraft_as_cover:MtIn K "as_cover" "Draft.as_cover" Hg fDraft_as_cover)
  (a_CauseIs_rank:zAd K (.ref Ae) "rank"=some (some (.ref fCondition_rank)))
  (a_ThingIs_rank:zAd K (.ref Ad) "rank"=some (some (.ref fCondition_rank)))
  (a_DaysIn_rank:zAd K (.ref Ah) "rank"=some (some (.ref fCondition_rank)))
  (a_Over_rank:zAd K (.ref Ao) "rank"=some (some (.ref fCondition_rank)))
  (a_Not_rank:zAd K (.ref Ax) "rank"=some (some (.ref fCondition_rank)))
  (bg_Clause___init__:zBD K (.ref Al) "__getattribute__"=some (some (.builtin "type.__getattribute__"))) (br_Clause___init__:zCb K Al (.type "type")=true) (bf_Clause___init__:zCc K (.ref Al) (.type "type") "__init__"=some (.val (.ref fClause___init__)))
  (ni_Condition:zAd K (.ref Ab) "__init__"=some (some (.builtin "object.__init__")))
  {w_WAYS:Addr} {nw_WAYS:Nat} {tk_WAYS0 tk_WAYS1 tk_WAYS2 tk_WAYS3:Tok} (z_WAYS:zAq K zCi "WAYS"=some (some (.ref w_WAYS))) (lw_WAYS:K.lookup w_WAYS=some ⟨.type "tuple",none,.seq #[.str "event" tk_WAYS0,.str "thing" tk_WAYS1,.str "year" tk_WAYS2,.str "loss" tk_WAYS3] nw_WAYS,#[]⟩)
  {tk_COVERED_ONE:Tok} (z_COVERED_ONE:zAq K zCi "COVERED_ONE"=some (some (.str "self" tk_COVERED_ONE)))
  {tk_FIGURES:Tok} (z_FIGURES:zAq K zCi "FIGURES"=some (some (.str "0123456789" tk_FIGURES)))
  {tk_LAST_DAY:Tok} (z_LAST_DAY:zAq K zCi "LAST_DAY"=some (some (.int 1000000 tk_LAST_DAY)))
  {tk_LETTERS:Tok} (z_LETTERS:zAq K zCi "LETTERS"=some (some (.str "abcdefghijklmnopqrstuvwxyz" tk_LETTERS)))
  {tk_LONGEST_NAME:Tok} (z_LONGEST_NAME:zAq K zCi "LONGEST_NAME"=some (some (.int 8 tk_LONGEST_NAME)))
  {tk_MOST_CENTS:Tok} (z_MOST_CENTS:zAq K zCi "MOST_CENTS"=some (some (.int 999999999999 tk_MOST_CENTS)))
  {tk_MOST_CLAUSES:Tok} (z_MOST_CLAUSES:zAq K zCi "MOST_CLAUSES"=some (some (.int 8 tk_MOST_CLAUSES)))
  {tk_MOST_COVERS:Tok} (z_MOST_COVERS:zAq K zCi "MOST_COVERS"=some (some (.int 8 tk_MOST_COVERS)))
  {tk_MOST_DAY_FIGURES:Tok} (z_MOST_DAY_FIGURES:zAq K zCi "MOST_DAY_FIGURES"=some (some (.int 7 tk_MOST_DAY_FIGURES)))
  {tk_MOST_IN_ROW:Tok} (z_MOST_IN_ROW:zAq K zCi "MOST_IN_ROW"=some (some (.int 8 tk_MOST_IN_ROW)))
  {tk_MOST_OPEN:Tok} (z_MOST_OPEN:zAq K zCi "MOST_OPEN"=some (some (.int 6 tk_MOST_OPEN)))
  {tk_MOST_PLACES:Tok} (z_MOST_PLACES:zAq K zCi "MOST_PLACES"=some (some (.int 8 tk_MOST_PLACES)))
  {tk_MOST_TURNS:Tok} (z_MOST_TURNS:zAq K zCi "MOST_TURNS"=some (some (.int 100 tk_MOST_TURNS)))
  {tk_MOST_WEIGHT_FIGURES:Tok} (z_MOST_WEIGHT_FIGURES:zAq K zCi "MOST_WEIGHT_FIGURES"=some (some (.int 3 tk_MOST_WEIGHT_FIGURES)))
  {tk_MOST_WHOLE_FIGURES:Tok} (z_MOST_WHOLE_FIGURES:zAq K zCi "MOST_WHOLE_FIGURES"=some (some (.int 10 tk_MOST_WHOLE_FIGURES)))
  {tk_MOST_WORDS:Tok} (z_MOST_WORDS:zAq K zCi "MOST_WORDS"=some (some (.int 60 tk_MOST_WORDS)))
  {tk_RANK_OF_ALL:Tok} (z_RANK_OF_ALL:zAq K zCi "RANK_OF_ALL"=some (some (.int 2 tk_RANK_OF_ALL)))
  {tk_RANK_OF_OTHERS:Tok} (z_RANK_OF_OTHERS:zAq K zCi "RANK_OF_OTHERS"=some (some (.int 3 tk_RANK_OF_OTHERS)))
  {tk_RANK_OF_SOME:Tok} (z_RANK_OF_SOME:zAq K zCi "RANK_OF_SOME"=some (some (.int 1 tk_RANK_OF_SOME)))
  (z_bool:zAq K zCi "bool"=some none)
  (z_enumerate:zAq K zCi "enumerate"=some none)
  (z_int:zAq K zCi "int"=some none)
  (z_isinstance:zAq K zCi "isinstance"=some none)
  (z_len:zAq K zCi "len"=some none)
  (z_list:zAq K zCi "list"=some none)
  (z_max:zAq K zCi "max"=some none)
  (z_range:zAq K zCi "range"=some none)
  (z_set:zAq K zCi "set"=some none)
  (z_str:zAq K zCi "str"=some none)
  (z_sum:zAq K zCi "sum"=some none)
  (z_zip:zAq K zCi "zip"=some none)
  {Ek:Addr} (q_CoverError:zAq K zCi "CoverError"=some (some (.ref Ek)))
  {Fj:Addr} (q_NoAmount:zAq K zCi "NoAmount"=some (some (.ref Fj)))
  {Fk:Addr} (q_NoShares:zAq K zCi "NoShares"=some (some (.ref Fk)))
  {Gm:Addr} (q_NoWords:zAq K zCi "NoWords"=some (some (.ref Gm)))
  {Gk:Addr} (q_TooDeep:zAq K zCi "TooDeep"=some (some (.ref Gk)))
  {Fi:Addr} (q_NoClause:zAq K zCi "NoClause"=some (some (.ref Fi)))
  {Gj:Addr} (q_NoCover:zAq K zCi "NoCover"=some (some (.ref Gj)))
  {Ib:Addr} (q_NoBook:zAq K zCi "NoBook"=some (some (.ref Ib)))
  {Ia:Addr} (q_NoText:zAq K zCi "NoText"=some (some (.ref Ia)))
  {Jr:Addr} (q_NoRow:zAq K zCi "NoRow"=some (some (.ref Jr))) :
  ∃ fd:zCh,(∀ (s:Shared) (v:Value),BindsTo s fd ⟨[v],[]⟩ [("_law_script",v)])/\∀ base:Heap,K.In base->base.Ns zCi mg->WN l.prog w K mg base Do 204 fa fd ["_law_script"] (BC K):=by
 have e:=hfa.symm.trans (zAl X G d52.ns);cases e;have D_is_whole:=d0.df X G (ps:=["thing"]) λ_ _ _ _ _ _=>Hs λ_=>rfl;have D_has_figures_alone:=d1.df X G (ps:=["text"]) λ_ _ _ _ _ _=>Hs λ_=>rfl;have D_writes_whole:=d2.df X G (ps:=["text","most_figures"]) λ_ _ _ _ _ _=>Sl λ_ _=>rfl;have D_is_cents_part:=d3.df X G (ps:=["text"]) λ_ _ _ _ _ _=>Hs λ_=>rfl;have D_read_cents:=d4.df X G (ps:=["text"]) λ_ _ _ _ _ _=>Hs λ_=>rfl;have D_show_cents:=d5.df X G (ps:=["cents"]) λ_ _ _ _ _ _=>Hs λ_=>rfl;have D_has_letters_alone:=d6.df X G (ps:=["text"]) λ_ _ _ _ _ _=>Hs λ_=>rfl;have D_is_name:=d7.df X G (ps:=["thing"]) λ_ _ _ _ _ _=>Hs λ_=>rfl;have D_is_day:=d8.df X G (ps:=["thing"]) λ_ _ _ _ _ _=>Hs λ_=>rfl;have D_is_amount:=d9.df X G (ps:=["thing"]) λ_ _ _ _ _ _=>Hs λ_=>rfl;have D_checked_amount:=d10.df X G (ps:=["thing"]) λ_ _ _ _ _ _=>Hs λ_=>rfl;have D_words_within:=d11.df X G (ps:=["part","highest_in_brackets"]) λ_ _ _ _ _ _=>Sl λ_ _=>rfl;have D_words_with:=d12.df X G (ps:=["several","between","highest_in_brackets"]) λ_ _ _ _ _ _=>QB λ_ _ _=>rfl;have D_are_weights:=d13.df X G (ps:=["thing"]) λ_ _ _ _ _ _=>Hs λ_=>rfl;have D_may_have:=d14.df X G (ps:=["weight","dealt","total","turn"]) λ_ _ _ _ _ _=>UJ λ_ _ _ _=>rfl;have D_due_by:=d15.df X G (ps:=["weight","dealt","total"]) λ_ _ _ _ _ _=>QB λ_ _ _=>rfl;have D_place_of_turn:=d16.df X G (ps:=["weights","dealt","turn"]) λ_ _ _ _ _ _=>QB λ_ _ _=>rfl
 have D_turns:=d17.df X G (ps:=["weights"]) λ_ _ _ _ _ _=>Hs λ_=>rfl;have D_check_houses:=d18.df X G (ps:=["houses"]) λ_ _ _ _ _ _=>Hs λ_=>rfl;have D_day_of:=d19.df X G (ps:=["word"]) λ_ _ _ _ _ _=>Hs λ_=>rfl;have D_read_condition:=d20.df X G (ps:=["text"]) λ_ _ _ _ _ _=>Hs λ_=>rfl;have D_show_condition:=d21.df X G (ps:=["condition"]) λ_ _ _ _ _ _=>Hs λ_=>rfl;have D_new_draft:=d22.df X G (ps:=["drafts","words"]) λ_ _ _ _ _ _=>Sl λ_ _=>rfl;have D_take_when:=d23.df X G (ps:=["draft","words"]) λ_ _ _ _ _ _=>Sl λ_ _=>rfl;have D_weight_of:=d24.df X G (ps:=["word"]) λ_ _ _ _ _ _=>Hs λ_=>rfl;have D_take_share:=d25.df X G (ps:=["draft","words"]) λ_ _ _ _ _ _=>Sl λ_ _=>rfl;have D_take_waits:=d26.df X G (ps:=["draft","words"]) λ_ _ _ _ _ _=>Sl λ_ _=>rfl;have D_clause_of:=d27.df X G (ps:=["words"]) λ_ _ _ _ _ _=>Hs λ_=>rfl;have D_take_of_cover:=d28.df X G (ps:=["draft","words"]) λ_ _ _ _ _ _=>Sl λ_ _=>rfl;have D_take_row:=d29.df X G (ps:=["drafts","row"]) λ_ _ _ _ _ _=>Sl λ_ _=>rfl;have D_read_book:=d30.df X G (ps:=["rows"]) λ_ _ _ _ _ _=>Hs λ_=>rfl;have D_show_share:=d31.df X G (ps:=["cover"]) λ_ _ _ _ _ _=>Hs λ_=>rfl;have D_show_cover:=d32.df X G (ps:=["cover"]) λ_ _ _ _ _ _=>Hs λ_=>rfl;have D_show_book:=d33.df X G (ps:=["book"]) λ_ _ _ _ _ _=>Hs λ_=>rfl;have D__law_cell:=d34.df X G (ps:=["_law_script","_law_k"]) λ_ _ _ _ _ _=>Sl λ_ _=>rfl;have D__law_spread:=d35.df X G (ps:=["_law_cell_here"]) λ_ _ _ _ _ _=>Hs λ_=>rfl
 have D__law_names:=d36.df X G (ps:=["_law_cell_here","_law_many"]) λ_ _ _ _ _ _=>Sl λ_ _=>rfl;have D__law_amount:=d37.df X G (ps:=["_law_digit","_law_unit_here"]) λ_ _ _ _ _ _=>Sl λ_ _=>rfl;have D__law_unit:=d38.df X G (ps:=["_law_script"]) λ_ _ _ _ _ _=>Hs λ_=>rfl;have D__law_world:=d39.df X G (ps:=["_law_script"]) λ_ _ _ _ _ _=>Hs λ_=>rfl;have D__law_cond:=d40.df X G (ps:=["_law_cell_here","_law_things","_law_causes","_law_unit_here"]) λ_ _ _ _ _ _=>UJ λ_ _ _ _=>rfl;have D__law_drawn_clause:=d41.df X G (ps:=["_law_cell_here","_law_unit_here"]) λ_ _ _ _ _ _=>Sl λ_ _=>rfl;have D__law_houses:=d42.df X G (ps:=["_law_cell_here","_law_pool"]) λ_ _ _ _ _ _=>Sl λ_ _=>rfl;have D__law_covers:=d43.df X G (ps:=["_law_script","_law_start","_law_names_here","_law_things","_law_causes","_law_unit_here","_law_pool"]) λ_ _ _ _ _ _=>WF λ_ _ _ _ _ _ _=>rfl;have D__law_money:=d44.df X G (ps:=["_law_cents_here"]) λ_ _ _ _ _ _=>Hs λ_=>rfl;have D__law_bracketed:=d45.df X G (ps:=["_law_cond_here","_law_least"]) λ_ _ _ _ _ _=>Sl λ_ _=>rfl;have D__law_text:=d46.df X G (ps:=["_law_cond_here"]) λ_ _ _ _ _ _=>Hs λ_=>rfl;have D__law_clause_row:=d47.df X G (ps:=["_law_clause"]) λ_ _ _ _ _ _=>Hs λ_=>rfl;have D__law_cover_rows:=d48.df X G (ps:=["_law_cover"]) λ_ _ _ _ _ _=>Hs λ_=>rfl;have D__law_rows:=d49.df X G (ps:=["_law_covers_here"]) λ_ _ _ _ _ _=>Hs λ_=>rfl;have D__law_drawn_rows:=d50.df X G (ps:=["_law_cover","_law_cell_here"]) λ_ _ _ _ _ _=>Sl λ_ _=>rfl
 have D__law_same:=d51.df X G (ps:=["_law_found","_law_cover"]) λ_ _ _ _ _ _=>Sl λ_ _=>rfl;obtain⟨od52,an52,sl52,oc52,kV52,dc52,pm52,cd52,ct52,l52,c52⟩:=d52.ex;have F52:=W3 (x:="law") (qual:="law") (st:=Wp) l52 c52 d52.kp;obtain⟨_,F_Condition_rank,B_Condition_rank⟩:=iCondition_rank.get (ps:=["self"]) λ_ _ _ _ _ _=>Hs λ_=>rfl;obtain⟨_,F_Condition_words,B_Condition_words⟩:=iCondition_words.get (ps:=["self"]) λ_ _ _ _ _ _=>Hs λ_=>rfl;obtain⟨_,F_CauseIs___init__,B_CauseIs___init__⟩:=iCauseIs___init__.get (ps:=["self","name"]) λ_ _ _ _ _ _=>Sl λ_ _=>rfl;obtain⟨_,F_CauseIs_words,B_CauseIs_words⟩:=iCauseIs_words.get (ps:=["self"]) λ_ _ _ _ _ _=>Hs λ_=>rfl;obtain⟨_,F_ThingIs___init__,B_ThingIs___init__⟩:=iThingIs___init__.get (ps:=["self","name"]) λ_ _ _ _ _ _=>Sl λ_ _=>rfl;obtain⟨_,F_ThingIs_words,B_ThingIs_words⟩:=iThingIs_words.get (ps:=["self"]) λ_ _ _ _ _ _=>Hs λ_=>rfl;obtain⟨_,F_DaysIn___init__,B_DaysIn___init__⟩:=iDaysIn___init__.get (ps:=["self","first","last"]) λ_ _ _ _ _ _=>QB λ_ _ _=>rfl;obtain⟨_,F_DaysIn_words,B_DaysIn_words⟩:=iDaysIn_words.get (ps:=["self"]) λ_ _ _ _ _ _=>Hs λ_=>rfl;obtain⟨_,F_Over___init__,B_Over___init__⟩:=iOver___init__.get (ps:=["self","cents"]) λ_ _ _ _ _ _=>Sl λ_ _=>rfl;obtain⟨_,F_Over_words,B_Over_words⟩:=iOver_words.get (ps:=["self"]) λ_ _ _ _ _ _=>Hs λ_=>rfl;obtain⟨_,F_Not___init__,B_Not___init__⟩:=iNot___init__.get (ps:=["self","part"]) λ_ _ _ _ _ _=>Sl λ_ _=>rfl
 obtain⟨_,F_Not_words,B_Not_words⟩:=iNot_words.get (ps:=["self"]) λ_ _ _ _ _ _=>Hs λ_=>rfl;obtain⟨_,F_All___init__,B_All___init__⟩:=iAll___init__.get (ps:=["self","several"]) λ_ _ _ _ _ _=>Sl λ_ _=>rfl;obtain⟨_,F_All_rank,B_All_rank⟩:=iAll_rank.get (ps:=["self"]) λ_ _ _ _ _ _=>Hs λ_=>rfl;obtain⟨_,F_All_words,B_All_words⟩:=iAll_words.get (ps:=["self"]) λ_ _ _ _ _ _=>Hs λ_=>rfl;obtain⟨_,F_Some___init__,B_Some___init__⟩:=iSome___init__.get (ps:=["self","several"]) λ_ _ _ _ _ _=>Sl λ_ _=>rfl;obtain⟨_,F_Some_rank,B_Some_rank⟩:=iSome_rank.get (ps:=["self"]) λ_ _ _ _ _ _=>Hs λ_=>rfl;obtain⟨_,F_Some_words,B_Some_words⟩:=iSome_words.get (ps:=["self"]) λ_ _ _ _ _ _=>Hs λ_=>rfl;obtain⟨_,F_Clause___init__,B_Clause___init__⟩:=iClause___init__.get (ps:=["self","by"]) λ_ _ _ _ _ _=>Sl λ_ _=>rfl;obtain⟨_,F_Own___init__,B_Own___init__⟩:=iOwn___init__.get (ps:=["self","by","cents"]) λ_ _ _ _ _ _=>QB λ_ _ _=>rfl;obtain⟨_,F_Own_words,B_Own_words⟩:=iOwn_words.get (ps:=["self"]) λ_ _ _ _ _ _=>Hs λ_=>rfl;obtain⟨_,F_Layer___init__,B_Layer___init__⟩:=iLayer___init__.get (ps:=["self","by","first","upto"]) λ_ _ _ _ _ _=>UJ λ_ _ _ _=>rfl;obtain⟨_,F_Layer_words,B_Layer_words⟩:=iLayer_words.get (ps:=["self"]) λ_ _ _ _ _ _=>Hs λ_=>rfl;obtain⟨_,F_Limit___init__,B_Limit___init__⟩:=iLimit___init__.get (ps:=["self","by","most"]) λ_ _ _ _ _ _=>QB λ_ _ _=>rfl;obtain⟨_,F_Limit_words,B_Limit_words⟩:=iLimit_words.get (ps:=["self"]) λ_ _ _ _ _ _=>Hs λ_=>rfl
 obtain⟨_,F_Deal___init__,B_Deal___init__⟩:=iDeal___init__.get (ps:=["self","weights"]) λ_ _ _ _ _ _=>Sl λ_ _=>rfl;have F_Cover___init__:=KA (x:="__init__") (qual:="Cover.__init__") (st:=Cu) lCover___init__ cCover___init__ kCover___init__;have B_Cover___init__:XB K _ ["self","name","condition","clauses","houses","waits"] []:=λs us X hl=>by
  rw[zAI] at hl ⊢
  match us,hl with|[_,_,_,_,_,_],_=>exact BindsTo.of_defaults (fd:=zAK "__init__" "Cover.__init__" (Dt Cu) (Dj Cu) (Av Cu) (.ref dvCover___init__) kVCover___init__ dcCover___init__ pmCover___init__ anCover___init__ cdCover___init__ ctCover___init__) rfl (X _ _ dlCover___init__) rfl rfl rfl
 obtain⟨_,F_Book___init__,B_Book___init__⟩:=iBook___init__.get (ps:=["self","covers"]) λ_ _ _ _ _ _=>Sl λ_ _=>rfl;obtain⟨_,F_Reader___init__,B_Reader___init__⟩:=iReader___init__.get (ps:=["self","row"]) λ_ _ _ _ _ _=>Sl λ_ _=>rfl;obtain⟨_,F_Reader_ahead,B_Reader_ahead⟩:=iReader_ahead.get (ps:=["self"]) λ_ _ _ _ _ _=>Hs λ_=>rfl;obtain⟨_,F_Reader_step,B_Reader_step⟩:=iReader_step.get (ps:=["self"]) λ_ _ _ _ _ _=>Hs λ_=>rfl;obtain⟨_,F_Reader_read_rows,B_Reader_read_rows⟩:=iReader_read_rows.get (ps:=["self"]) λ_ _ _ _ _ _=>Hs λ_=>rfl;obtain⟨_,F_Reader_read_row,B_Reader_read_row⟩:=iReader_read_row.get (ps:=["self"]) λ_ _ _ _ _ _=>Hs λ_=>rfl;obtain⟨_,F_Reader_goes_on,B_Reader_goes_on⟩:=iReader_goes_on.get (ps:=["self","between","so_far"]) λ_ _ _ _ _ _=>QB λ_ _ _=>rfl;obtain⟨_,F_Reader_read_piece,B_Reader_read_piece⟩:=iReader_read_piece.get (ps:=["self"]) λ_ _ _ _ _ _=>Hs λ_=>rfl;obtain⟨_,F_Reader_read_deeper,B_Reader_read_deeper⟩:=iReader_read_deeper.get (ps:=["self","word"]) λ_ _ _ _ _ _=>Sl λ_ _=>rfl;obtain⟨_,F_Reader_read_bracket,B_Reader_read_bracket⟩:=iReader_read_bracket.get (ps:=["self"]) λ_ _ _ _ _ _=>Hs λ_=>rfl;obtain⟨_,F_Reader_read_name,B_Reader_read_name⟩:=iReader_read_name.get (ps:=["self"]) λ_ _ _ _ _ _=>Hs λ_=>rfl;obtain⟨_,F_Reader_read_days,B_Reader_read_days⟩:=iReader_read_days.get (ps:=["self"]) λ_ _ _ _ _ _=>Hs λ_=>rfl;obtain⟨_,F_Reader_read_day,B_Reader_read_day⟩:=iReader_read_day.get (ps:=["self","least"]) λ_ _ _ _ _ _=>Sl λ_ _=>rfl
 obtain⟨_,F_Reader_read_amount,B_Reader_read_amount⟩:=iReader_read_amount.get (ps:=["self"]) λ_ _ _ _ _ _=>Hs λ_=>rfl;obtain⟨_,F_Draft___init__,B_Draft___init__⟩:=iDraft___init__.get (ps:=["self","name"]) λ_ _ _ _ _ _=>Sl λ_ _=>rfl;obtain⟨_,F_Draft_as_cover,B_Draft_as_cover⟩:=iDraft_as_cover.get (ps:=["self"]) λ_ _ _ _ _ _=>Hs λ_=>rfl;have H_Condition_rank:Fa K Ab "rank" fCondition_rank:=⟨a_Condition_rank,iCondition_rank.fn,iCondition_rank.kp⟩;have H_Condition_words:Fa K Ab "words" fCondition_words:=⟨a_Condition_words,iCondition_words.fn,iCondition_words.kp⟩;have H_CauseIs_make:Mk K Ae fCauseIs___init__:=⟨q_CauseIs.mi,a_CauseIs___init__,iCauseIs___init__.fn,q_CauseIs.kp⟩;have H_CauseIs_rank:Fa K Ae "rank" fCondition_rank:=⟨a_CauseIs_rank,iCondition_rank.fn,iCondition_rank.kp⟩;have H_CauseIs_words:Fa K Ae "words" fCauseIs_words:=⟨a_CauseIs_words,iCauseIs_words.fn,iCauseIs_words.kp⟩;have H_ThingIs_make:Mk K Ad fThingIs___init__:=⟨q_ThingIs.mi,a_ThingIs___init__,iThingIs___init__.fn,q_ThingIs.kp⟩;have H_ThingIs_rank:Fa K Ad "rank" fCondition_rank:=⟨a_ThingIs_rank,iCondition_rank.fn,iCondition_rank.kp⟩;have H_ThingIs_words:Fa K Ad "words" fThingIs_words:=⟨a_ThingIs_words,iThingIs_words.fn,iThingIs_words.kp⟩;have H_DaysIn_make:Mk K Ah fDaysIn___init__:=⟨q_DaysIn.mi,a_DaysIn___init__,iDaysIn___init__.fn,q_DaysIn.kp⟩;have H_DaysIn_rank:Fa K Ah "rank" fCondition_rank:=⟨a_DaysIn_rank,iCondition_rank.fn,iCondition_rank.kp⟩;have H_DaysIn_words:Fa K Ah "words" fDaysIn_words:=⟨a_DaysIn_words,iDaysIn_words.fn,iDaysIn_words.kp⟩
 have H_Over_make:Mk K Ao fOver___init__:=⟨q_Over.mi,a_Over___init__,iOver___init__.fn,q_Over.kp⟩;have H_Over_rank:Fa K Ao "rank" fCondition_rank:=⟨a_Over_rank,iCondition_rank.fn,iCondition_rank.kp⟩;have H_Over_words:Fa K Ao "words" fOver_words:=⟨a_Over_words,iOver_words.fn,iOver_words.kp⟩;have H_Not_make:Mk K Ax fNot___init__:=⟨q_Not.mi,a_Not___init__,iNot___init__.fn,q_Not.kp⟩;have H_Not_rank:Fa K Ax "rank" fCondition_rank:=⟨a_Not_rank,iCondition_rank.fn,iCondition_rank.kp⟩;have H_Not_words:Fa K Ax "words" fNot_words:=⟨a_Not_words,iNot_words.fn,iNot_words.kp⟩;have H_All_make:Mk K Ay fAll___init__:=⟨q_All.mi,a_All___init__,iAll___init__.fn,q_All.kp⟩;have H_All_rank:Fa K Ay "rank" fAll_rank:=⟨a_All_rank,iAll_rank.fn,iAll_rank.kp⟩;have H_All_words:Fa K Ay "words" fAll_words:=⟨a_All_words,iAll_words.fn,iAll_words.kp⟩;have H_Some_make:Mk K Am fSome___init__:=⟨q_Some.mi,a_Some___init__,iSome___init__.fn,q_Some.kp⟩;have H_Some_rank:Fa K Am "rank" fSome_rank:=⟨a_Some_rank,iSome_rank.fn,iSome_rank.kp⟩;have H_Some_words:Fa K Am "words" fSome_words:=⟨a_Some_words,iSome_words.fn,iSome_words.kp⟩;have H_Clause_make:Mk K Al fClause___init__:=⟨q_Clause.mi,a_Clause___init__,iClause___init__.fn,q_Clause.kp⟩;have H_Own_make:Mk K Ba fOwn___init__:=⟨q_Own.mi,a_Own___init__,iOwn___init__.fn,q_Own.kp⟩;have H_Own_words:Fa K Ba "words" fOwn_words:=⟨a_Own_words,iOwn_words.fn,iOwn_words.kp⟩;have H_Layer_make:Mk K An fLayer___init__:=⟨q_Layer.mi,a_Layer___init__,iLayer___init__.fn,q_Layer.kp⟩
 have H_Layer_words:Fa K An "words" fLayer_words:=⟨a_Layer_words,iLayer_words.fn,iLayer_words.kp⟩;have H_Limit_make:Mk K Aq fLimit___init__:=⟨q_Limit.mi,a_Limit___init__,iLimit___init__.fn,q_Limit.kp⟩;have H_Limit_words:Fa K Aq "words" fLimit_words:=⟨a_Limit_words,iLimit_words.fn,iLimit_words.kp⟩;have H_Deal_make:Mk K Bb fDeal___init__:=⟨q_Deal.mi,a_Deal___init__,iDeal___init__.fn,q_Deal.kp⟩;have H_Cover_make:Mk K As fCover___init__:=⟨q_Cover.mi,a_Cover___init__,iCover___init__,q_Cover.kp⟩;have H_Book_make:Mk K Bd fBook___init__:=⟨q_Book.mi,a_Book___init__,iBook___init__.fn,q_Book.kp⟩;have H_Reader_make:Mk K Af fReader___init__:=⟨q_Reader.mi,a_Reader___init__,iReader___init__.fn,q_Reader.kp⟩;have H_Reader_ahead:Fa K Af "ahead" fReader_ahead:=⟨a_Reader_ahead,iReader_ahead.fn,iReader_ahead.kp⟩;have H_Reader_step:Fa K Af "step" fReader_step:=⟨a_Reader_step,iReader_step.fn,iReader_step.kp⟩;have H_Reader_read_rows:Fa K Af "read_rows" fReader_read_rows:=⟨a_Reader_read_rows,iReader_read_rows.fn,iReader_read_rows.kp⟩;have H_Reader_read_row:Fa K Af "read_row" fReader_read_row:=⟨a_Reader_read_row,iReader_read_row.fn,iReader_read_row.kp⟩;have H_Reader_goes_on:Fa K Af "goes_on" fReader_goes_on:=⟨a_Reader_goes_on,iReader_goes_on.fn,iReader_goes_on.kp⟩;have H_Reader_read_piece:Fa K Af "read_piece" fReader_read_piece:=⟨a_Reader_read_piece,iReader_read_piece.fn,iReader_read_piece.kp⟩;have H_Reader_read_deeper:Fa K Af "read_deeper" fReader_read_deeper:=⟨a_Reader_read_deeper,iReader_read_deeper.fn,iReader_read_deeper.kp⟩
 have H_Reader_read_bracket:Fa K Af "read_bracket" fReader_read_bracket:=⟨a_Reader_read_bracket,iReader_read_bracket.fn,iReader_read_bracket.kp⟩;have H_Reader_read_name:Fa K Af "read_name" fReader_read_name:=⟨a_Reader_read_name,iReader_read_name.fn,iReader_read_name.kp⟩;have H_Reader_read_days:Fa K Af "read_days" fReader_read_days:=⟨a_Reader_read_days,iReader_read_days.fn,iReader_read_days.kp⟩;have H_Reader_read_day:Fa K Af "read_day" fReader_read_day:=⟨a_Reader_read_day,iReader_read_day.fn,iReader_read_day.kp⟩;have H_Reader_read_amount:Fa K Af "read_amount" fReader_read_amount:=⟨a_Reader_read_amount,iReader_read_amount.fn,iReader_read_amount.kp⟩;have H_Draft_make:Mk K Aw fDraft___init__:=⟨q_Draft.mi,a_Draft___init__,iDraft___init__.fn,q_Draft.kp⟩;have H_Draft_as_cover:Fa K Aw "as_cover" fDraft_as_cover:=⟨a_Draft_as_cover,iDraft_as_cover.fn,iDraft_as_cover.kp⟩;have Z_Clause___init__:JO K Al "__init__" fClause___init__:=⟨bg_Clause___init__,br_Clause___init__,bf_Clause___init__,iClause___init__.kp⟩;have NCondition:SR K mg "Condition" Ab:=⟨q_Condition.mi,ni_Condition,q_Condition.kp,zAl X G q_Condition.ns⟩;have L:Kl K mg Ab Ae Ad Ah Ao Ax Ay Am Al Ba An Aq Bb As Bd Af Aw:=⟨zAl X G q_Condition.ns,q_Condition.cl,zAl X G q_CauseIs.ns,q_CauseIs.cl,na_CauseIs_name,zAl X G q_ThingIs.ns,q_ThingIs.cl,na_ThingIs_name,zAl X G q_DaysIn.ns,q_DaysIn.cl,na_DaysIn_first,na_DaysIn_last,zAl X G q_Over.ns,q_Over.cl,na_Over_cents,zAl X G q_Not.ns,q_Not.cl,na_Not_part,zAl X G q_All.ns,q_All.cl,na_All_several,zAl X G q_Some.ns,q_Some.cl,na_Some_several,zAl X G q_Clause.ns,q_Clause.cl,na_Clause_by,zAl X G q_Own.ns,q_Own.cl,na_Own_cents,na_Own_by,zAl X G q_Layer.ns,q_Layer.cl,na_Layer_first,na_Layer_upto,na_Layer_by,zAl X G q_Limit.ns,q_Limit.cl,na_Limit_most,na_Limit_by,zAl X G q_Deal.ns,q_Deal.cl,na_Deal_wheel,na_Deal_weights,zAl X G q_Cover.ns,q_Cover.cl,na_Cover_name,na_Cover_condition,na_Cover_clauses,na_Cover_houses,na_Cover_deal,na_Cover_waits,zAl X G q_Book.ns,q_Book.cl,na_Book_covers,na_Book_asking,λe=>.ins e q_Book.cl ha_Book gs tk hm_Book,zAl X G q_Reader.ns,q_Reader.cl,na_Reader_row,na_Reader_place,na_Reader_depth,zAl X G q_Draft.ns,q_Draft.cl,na_Draft_name,na_Draft_condition,na_Draft_clauses,na_Draft_shares,na_Draft_waits,kt_Book_Book,nd_C⟩
 have T:Txt K mg:=⟨⟨tk_COVERED_ONE,zAl X G z_COVERED_ONE⟩,⟨tk_FIGURES,zAl X G z_FIGURES⟩,⟨tk_LAST_DAY,zAl X G z_LAST_DAY⟩,⟨tk_LETTERS,zAl X G z_LETTERS⟩,⟨tk_LONGEST_NAME,zAl X G z_LONGEST_NAME⟩,⟨tk_MOST_CENTS,zAl X G z_MOST_CENTS⟩,⟨tk_MOST_CLAUSES,zAl X G z_MOST_CLAUSES⟩,⟨tk_MOST_COVERS,zAl X G z_MOST_COVERS⟩,⟨tk_MOST_DAY_FIGURES,zAl X G z_MOST_DAY_FIGURES⟩,⟨tk_MOST_IN_ROW,zAl X G z_MOST_IN_ROW⟩,⟨tk_MOST_OPEN,zAl X G z_MOST_OPEN⟩,⟨tk_MOST_PLACES,zAl X G z_MOST_PLACES⟩,⟨tk_MOST_TURNS,zAl X G z_MOST_TURNS⟩,⟨tk_MOST_WEIGHT_FIGURES,zAl X G z_MOST_WEIGHT_FIGURES⟩,⟨tk_MOST_WHOLE_FIGURES,zAl X G z_MOST_WHOLE_FIGURES⟩,⟨tk_MOST_WORDS,zAl X G z_MOST_WORDS⟩,⟨tk_RANK_OF_ALL,zAl X G z_RANK_OF_ALL⟩,⟨tk_RANK_OF_OTHERS,zAl X G z_RANK_OF_OTHERS⟩,⟨tk_RANK_OF_SOME,zAl X G z_RANK_OF_SOME⟩,zAN X G z_bool,zAN X G z_enumerate,zAN X G z_int,zAN X G z_isinstance,zAN X G z_len,zAN X G z_list,zAN X G z_max,zAN X G z_range,zAN X G z_set,zAN X G z_str,zAN X G z_sum,zAN X G z_zip,⟨w_WAYS,zAl X G z_WAYS,λH=>.inr ⟨_,_,_,lw_WAYS,rfl,rfl,by show 4<=sizeLine;rw[zCf];decide,.cons ⟨_,rfl⟩ (.cons ⟨_,rfl⟩ (.cons ⟨_,rfl⟩ (.cons ⟨_,rfl⟩ (.nil))))⟩⟩⟩;have Z:Xc K mg Ek Fj Fk Gm Gk Fi Gj Ib Ia Jr:=⟨zAl X G q_CoverError,zAl X G q_NoAmount,zAl X G q_NoShares,zAl X G q_NoWords,zAl X G q_TooDeep,zAl X G q_NoClause,zAl X G q_NoCover,zAl X G q_NoBook,zAl X G q_NoText,zAl X G q_NoRow⟩;refine⟨zAK "law" "law" (Dt Wp) (Dj Wp) (Av Wp) .none kV52 dc52 pm52 an52 cd52 ct52,λs v=>.of_eq rfl,λbase _ _=>?_⟩;have nd:=FK L;unfold A8.l at nd
 simp only [zBd,zAj,zAV,not_or,or_false] at nd;have Mrank:E5 l.prog w K mg base 1 (A8.Fam (A8.mk Ab Ae Ad Ah Ao Ax Ay Am)) "rank" ["self"] (Vr (A8.mk Ab Ae Ad Ah Ao Ax Ay Am)):=⟨λC hC=>by
  rcases hC with rfl|rfl|rfl|rfl|rfl|rfl|rfl|rfl
  .exact⟨⟨_,_,Du F_Condition_rank T L nd.1.2.2.2.2.2.1 nd.1.2.2.2.2.2.2,B_Condition_rank,H_Condition_rank⟩,L.cl_Condition⟩
  .exact⟨⟨_,_,Du F_Condition_rank T L nd.2.1.2.2.2.2.1 nd.2.1.2.2.2.2.2,B_Condition_rank,H_CauseIs_rank⟩,L.cl_CauseIs⟩
  .exact⟨⟨_,_,Du F_Condition_rank T L nd.2.2.1.2.2.2.1 nd.2.2.1.2.2.2.2,B_Condition_rank,H_ThingIs_rank⟩,L.cl_ThingIs⟩
  .exact⟨⟨_,_,Du F_Condition_rank T L nd.2.2.2.1.2.2.1 nd.2.2.2.1.2.2.2,B_Condition_rank,H_DaysIn_rank⟩,L.cl_DaysIn⟩
  .exact⟨⟨_,_,Du F_Condition_rank T L nd.2.2.2.2.1.2.1 nd.2.2.2.2.1.2.2,B_Condition_rank,H_Over_rank⟩,L.cl_Over⟩
  .exact⟨⟨_,_,Du F_Condition_rank T L nd.2.2.2.2.2.1.1 nd.2.2.2.2.2.1.2,B_Condition_rank,H_Not_rank⟩,L.cl_Not⟩
  .exact⟨⟨_,_,R0 F_All_rank T L,B_All_rank,H_All_rank⟩,L.cl_All⟩
  .exact⟨⟨_,_,G7 F_Some_rank T L,B_Some_rank,H_Some_rank⟩,L.cl_Some⟩⟩
 have Cshow_cents:Cy l.prog w K mg base 1 "show_cents" ["cents"] Jx:=D_show_cents.cal λf fd F=>Xx F T;have Mwords:∀ m,E5 l.prog w K mg base (3*m+2) (A8.Fam (A8.mk Ab Ae Ad Ah Ao Ax Ay Am)) "words" ["self"] (Fy (A8.mk Ab Ae Ad Ah Ao Ax Ay Am) m):=by
  intro m
  induction m with
  |zero=>
   refine⟨λC hC=>?_⟩;rcases hC with rfl|rfl|rfl|rfl|rfl|rfl|rfl|rfl
   .exact⟨⟨_,_,JY λ_ _ _ _=>Hv,B_Condition_words,H_Condition_words⟩,L.cl_Condition⟩
   .exact⟨⟨_,_,JY λ_ _ _ _=>Hv,B_CauseIs_words,H_CauseIs_words⟩,L.cl_CauseIs⟩
   .exact⟨⟨_,_,JY λ_ _ _ _=>Hv,B_ThingIs_words,H_ThingIs_words⟩,L.cl_ThingIs⟩
   .exact⟨⟨_,_,JY λ_ _ _ _=>Hv,B_DaysIn_words,H_DaysIn_words⟩,L.cl_DaysIn⟩
   .exact⟨⟨_,_,JY λ_ _ _ _=>Hv,B_Over_words,H_Over_words⟩,L.cl_Over⟩
   .exact⟨⟨_,_,JY λ_ _ _ _=>Hv,B_Not_words,H_Not_words⟩,L.cl_Not⟩
   .exact⟨⟨_,_,JY λ_ _ _ _=>Hv,B_All_words,H_All_words⟩,L.cl_All⟩
   .exact⟨⟨_,_,JY λ_ _ _ _=>Hv,B_Some_words,H_Some_words⟩,L.cl_Some⟩
  |succ m ih=>
   have Cwords_within:Cy l.prog w K mg base (3*m+2+1) "words_within" ["part","highest_in_brackets"] (LY (A8.mk Ab Ae Ad Ah Ao Ax Ay Am) m):=D_words_within.cal λf fd F=>Vd F ih Mrank;have Cwords_with:Cy l.prog w K mg base (3*m+2+1+1) "words_with" ["several","between","highest_in_brackets"] (AV (A8.mk Ab Ae Ad Ah Ao Ax Ay Am) m):=D_words_with.cal λf fd F=>Xy F T Cwords_within;refine⟨λC hC=>?_⟩;have m2:2<=3*(m+1)+2:=by omega
   rcases hC with rfl|rfl|rfl|rfl|rfl|rfl|rfl|rfl
   .exact⟨⟨_,_,(Pz F_Condition_words T L).mono m2,B_Condition_words,H_Condition_words⟩,L.cl_Condition⟩
   .exact⟨⟨_,_,(Tj F_CauseIs_words T L).mono m2,B_CauseIs_words,H_CauseIs_words⟩,L.cl_CauseIs⟩
   .exact⟨⟨_,_,(Tv F_ThingIs_words T L).mono m2,B_ThingIs_words,H_ThingIs_words⟩,L.cl_ThingIs⟩
   .exact⟨⟨_,_,(Uv F_DaysIn_words T L).mono m2,B_DaysIn_words,H_DaysIn_words⟩,L.cl_DaysIn⟩
   .exact⟨⟨_,_,(Xp F_Over_words T L Cshow_cents).mono m2,B_Over_words,H_Over_words⟩,L.cl_Over⟩
   .exact⟨⟨_,_,(A1 F_Not_words T L Cwords_within).mono (by omega),B_Not_words,H_Not_words⟩,L.cl_Not⟩
   .exact⟨⟨_,_,C9 F_All_words T L Cwords_with,B_All_words,H_All_words⟩,L.cl_All⟩
   .exact⟨⟨_,_,Xr F_Some_words T L Cwords_with,B_Some_words,H_Some_words⟩,L.cl_Some⟩
 have KCauseIs:Gb l.prog w K mg base 1 "CauseIs" Ae ["self","name"] (Ly Ae "name"):=⟨_,_,H_CauseIs_make,Ol F_CauseIs___init__ L,B_CauseIs___init__,L.mg_CauseIs⟩;have KThingIs:Gb l.prog w K mg base 1 "ThingIs" Ad ["self","name"] (Ly Ad "name"):=⟨_,_,H_ThingIs_make,Os F_ThingIs___init__ L,B_ThingIs___init__,L.mg_ThingIs⟩;have KDaysIn:Gb l.prog w K mg base 1 "DaysIn" Ah ["self","first","last"] (JM Ah):=⟨_,_,H_DaysIn_make,Pl F_DaysIn___init__ L,B_DaysIn___init__,L.mg_DaysIn⟩;have KOver:Gb l.prog w K mg base 1 "Over" Ao ["self","cents"] (Ly Ao "cents"):=⟨_,_,H_Over_make,Ua F_Over___init__ L,B_Over___init__,L.mg_Over⟩;have KNot:Gb l.prog w K mg base 1 "Not" Ax ["self","part"] (Ly Ax "part"):=⟨_,_,H_Not_make,Ve F_Not___init__ L,B_Not___init__,L.mg_Not⟩;have KAll:Gb l.prog w K mg base 1 "All" Ay ["self","several"] (Zg Ay):=⟨_,_,H_All_make,Ut F_All___init__ T L,B_All___init__,L.mg_All⟩;have KSome:Gb l.prog w K mg base 1 "Some" Am ["self","several"] (Zg Am):=⟨_,_,H_Some_make,Tg F_Some___init__ T L,B_Some___init__,L.mg_Some⟩;have Cis_whole:Cy l.prog w K mg base 1 "is_whole" ["thing"] (Rt K):=D_is_whole.cal λf fd F=>Q2 F T;have Chas_letters_alone:Cy l.prog w K mg base 1 "has_letters_alone" ["text"] HZ:=D_has_letters_alone.cal λf fd F=>Ms F T;have Cis_name:Cy l.prog w K mg base 2 "is_name" ["thing"] (Wo K):=D_is_name.cal λf fd F=>AB F T Chas_letters_alone;have Chas_figures_alone:Cy l.prog w K mg base 1 "has_figures_alone" ["text"] I0:=D_has_figures_alone.cal λf fd F=>Nb F T
 have Cwrites_whole:Cy l.prog w K mg base 2 "writes_whole" ["text","most_figures"] Hy:=D_writes_whole.cal λf fd F=>Ur F T Chas_figures_alone;have Cis_cents_part:Cy l.prog w K mg base 2 "is_cents_part" ["text"] Mm:=D_is_cents_part.cal λf fd F=>Ts F T Chas_figures_alone;have Cread_cents:Cy l.prog w K mg base 3 "read_cents" ["text"] G6:=D_read_cents.cal λf fd F=>Ye F T Cwrites_whole Cis_cents_part;have Cis_day:Cy l.prog w K mg base 2 "is_day" ["thing"] F2:=D_is_day.cal λf fd F=>DH F T Cis_whole;have Cday_of:Cy l.prog w K mg base 3 "day_of" ["word"] M4:=D_day_of.cal λf fd F=>DI F T Cwrites_whole Cis_day;have Mahead:Ec l.prog w K mg base 1 Af "ahead" ["self"] (Jo Af):=⟨⟨_,_,Ux F_Reader_ahead T L,B_Reader_ahead,H_Reader_ahead⟩,L.cl_Reader⟩;have Mstep:Ec l.prog w K mg base 1 Af "step" ["self"] (Ir Af):=⟨⟨_,_,Wd F_Reader_step T L,B_Reader_step,H_Reader_step⟩,L.cl_Reader⟩;have Mgoes_on:Ec l.prog w K mg base 2 Af "goes_on" ["self","between","so_far"] (LR Af):=⟨⟨_,_,Qp F_Reader_goes_on T L Mahead Mstep,B_Reader_goes_on,H_Reader_goes_on⟩,L.cl_Reader⟩;have Mread_name:Ec l.prog w K mg base 3 Af "read_name" ["self"] (Wb Af):=⟨⟨_,_,Ov F_Reader_read_name T L Mahead Mstep Cis_name,B_Reader_read_name,H_Reader_read_name⟩,L.cl_Reader⟩;have Mread_day:Ec l.prog w K mg base 4 Af "read_day" ["self","least"] (M1 Af):=⟨⟨_,_,Pu F_Reader_read_day T L Mahead Mstep Cday_of,B_Reader_read_day,H_Reader_read_day⟩,L.cl_Reader⟩;have Mread_days:Ec l.prog w K mg base 5 Af "read_days" ["self"] (Wl (A8.mk Ab Ae Ad Ah Ao Ax Ay Am) Af):=⟨⟨_,_,Oq F_Reader_read_days T L Mread_day KDaysIn,B_Reader_read_days,H_Reader_read_days⟩,L.cl_Reader⟩
 have Mread_amount:Ec l.prog w K mg base 4 Af "read_amount" ["self"] (G3 Af):=⟨⟨_,_,Md F_Reader_read_amount T L Mahead Mstep Z Cread_cents,B_Reader_read_amount,H_Reader_read_amount⟩,L.cl_Reader⟩;have lev:∀ m,Ec l.prog w K mg base (5*m+5) Af "read_deeper" ["self","word"] (CW (A8.mk Ab Ae Ad Ah Ao Ax Ay Am) Af m)/\(Ec l.prog w K mg base (5*m+5) Af "read_deeper" ["self","word"] (CW (A8.mk Ab Ae Ad Ah Ao Ax Ay Am) Af m)->Ec l.prog w K mg base (5*m+8) Af "read_rows" ["self"] (Zi (A8.mk Ab Ae Ad Ah Ao Ax Ay Am) Af m)):=by
  have piece:∀ m,Ec l.prog w K mg base (5*m+5) Af "read_deeper" ["self","word"] (CW (A8.mk Ab Ae Ad Ah Ao Ax Ay Am) Af m)->Ec l.prog w K mg base (5*m+6) Af "read_piece" ["self"] (MB (A8.mk Ab Ae Ad Ah Ao Ax Ay Am) Af m):=λm D=>⟨⟨_,_,Nj F_Reader_read_piece T L Mahead Mstep D Mread_name Mread_days Mread_amount NCondition KCauseIs KThingIs KOver,B_Reader_read_piece,H_Reader_read_piece⟩,L.cl_Reader⟩;have rows:∀ m,Ec l.prog w K mg base (5*m+5) Af "read_deeper" ["self","word"] (CW (A8.mk Ab Ae Ad Ah Ao Ax Ay Am) Af m)->Ec l.prog w K mg base (5*m+8) Af "read_rows" ["self"] (Zi (A8.mk Ab Ae Ad Ah Ao Ax Ay Am) Af m):=λm D=>⟨⟨_,_,Ot F_Reader_read_rows T L Mgoes_on ⟨⟨_,_,Pg F_Reader_read_row T L Mgoes_on (piece m D) KAll,B_Reader_read_row,H_Reader_read_row⟩,L.cl_Reader⟩ KSome,B_Reader_read_rows,H_Reader_read_rows⟩,L.cl_Reader⟩;intro m;refine⟨?_,rows m⟩
  induction m with
  |zero=>
   refine⟨⟨_,_,JY λ_ _ _ _ z=>?_,B_Reader_read_deeper,H_Reader_read_deeper⟩,L.cl_Reader⟩;obtain⟨_,_,_,_,_,_,_,_,_,_,_,_,_,z,_⟩:=z;exact zBA _ z
  |succ m ih=>
   have B:Ec l.prog w K mg base (5*m+9) Af "read_bracket" ["self"] (PK (A8.mk Ab Ae Ad Ah Ao Ax Ay Am) Af m):=⟨⟨_,_,Lo F_Reader_read_bracket T L Mahead Mstep (rows m ih),B_Reader_read_bracket,H_Reader_read_bracket⟩,L.cl_Reader⟩;exact⟨⟨_,_,Mf F_Reader_read_deeper T L Mstep (piece m ih) B KNot,B_Reader_read_deeper,H_Reader_read_deeper⟩,L.cl_Reader⟩
 have Mread_rows:Ec l.prog w K mg base (5*6+8) Af "read_rows" ["self"] (Zi (A8.mk Ab Ae Ad Ah Ao Ax Ay Am) Af 6):=(lev 6).2 (lev 6).1;have KReader:Gb l.prog w K mg base 1 "Reader" Af ["self","row"] (F4 Af):=⟨_,_,H_Reader_make,Pj F_Reader___init__ L,B_Reader___init__,L.mg_Reader⟩;have Cread_condition:Cy l.prog w K mg base 40 "read_condition" ["text"] (OF (A8.mk Ab Ae Ad Ah Ao Ax Ay Am)):=D_read_condition.cal λf fd F=>Rk F T L KReader Mread_rows;have Cshow_condition:Cy l.prog w K mg base 201 "show_condition" ["condition"] (CG (A8.mk Ab Ae Ad Ah Ao Ax Ay Am)):=D_show_condition.cal λf fd F=>Qz F L (Mwords 66);have Cis_amount:Cy l.prog w K mg base 2 "is_amount" ["thing"] (JA K 999999999999):=D_is_amount.cal λf fd F=>N0 F T Cis_whole;have Cchecked_amount:Cy l.prog w K mg base 3 "checked_amount" ["thing"] T9:=D_checked_amount.cal λf fd F=>Rq F T Cis_amount;have BClause___init__:ID l.prog w K mg base 2 "Clause" "__init__" ["self","by"] (IZ Al Ba An Aq):=⟨_,_,_,Qm F_Clause___init__ T L,B_Clause___init__,Z_Clause___init__,L.mg_Clause⟩;have KOwn:Gb l.prog w K mg base 4 "Own" Ba ["self","by","cents"] (JP Al Ba An Aq):=⟨_,_,H_Own_make,Us F_Own___init__ T L BClause___init__ Cchecked_amount,B_Own___init__,L.mg_Own⟩;have KLayer:Gb l.prog w K mg base 4 "Layer" An ["self","by","first","upto"] (GY Al Ba An Aq):=⟨_,_,H_Layer_make,Sc F_Layer___init__ T L BClause___init__ Cchecked_amount,B_Layer___init__,L.mg_Layer⟩;have KLimit:Gb l.prog w K mg base 4 "Limit" Aq ["self","by","most"] (HB Al Ba An Aq):=⟨_,_,H_Limit_make,Ry F_Limit___init__ T L BClause___init__ Cchecked_amount,B_Limit___init__,L.mg_Limit⟩
 have Care_weights:Cy l.prog w K mg base 2 "are_weights" ["thing"] Ud:=D_are_weights.cal λf fd F=>Wz F T Cis_whole;have Cmay_have:Cy l.prog w K mg base 1 "may_have" ["weight","dealt","total","turn"] FR:=D_may_have.cal λf fd F=>Q7 F T;have Cdue_by:Cy l.prog w K mg base 1 "due_by" ["weight","dealt","total"] JL:=D_due_by.cal λf fd F=>DM F T;have Cplace_of_turn:Cy l.prog w K mg base 2 "place_of_turn" ["weights","dealt","turn"] C7:=D_place_of_turn.cal λf fd F=>Ta F T Cmay_have Cdue_by;have Cturns:Cy l.prog w K mg base 3 "turns" ["weights"] A9:=D_turns.cal λf fd F=>HR F T Care_weights Cplace_of_turn;have DL:Dl K Bb:=⟨L.cl_Deal,L.na_Deal_wheel,L.na_Deal_weights⟩;have KDeal:Gb l.prog w K mg base 4 "Deal" Bb ["self","weights"] (Y2 Bb):=⟨_,_,H_Deal_make,Th F_Deal___init__ T DL Cturns,B_Deal___init__,L.mg_Deal⟩;have Ccheck_houses:Cy l.prog w K mg base 3 "check_houses" ["houses"] Wy:=D_check_houses.cal λf fd F=>Uz F T Cis_name;have KCover:Gb l.prog w K mg base 6 "Cover" As ["self","name","condition","clauses","houses","waits"] (GA As Bb):=⟨_,_,H_Cover_make,Qv F_Cover___init__ T L Cis_name Ccheck_houses KDeal,B_Cover___init__,L.mg_Cover⟩;have KBook:Gb l.prog w K mg base 1 "Book" Bd ["self","covers"] (Y0 As Bd):=⟨_,_,H_Book_make,Tc F_Book___init__ T L,B_Book___init__,L.mg_Book⟩;have KDraft:Gb l.prog w K mg base 1 "Draft" Aw ["self","name"] (A7 Aw):=⟨_,_,H_Draft_make,Ri F_Draft___init__ L,B_Draft___init__,L.mg_Draft⟩;have Mas_cover:Ec l.prog w K mg base 8 Aw "as_cover" ["self"] (AR (A8.mk Ab Ae Ad Ah Ao Ax Ay Am) Al Ba An Aq As Bb Aw):=⟨⟨_,_,Sj F_Draft_as_cover T L NCondition KCover,B_Draft_as_cover,H_Draft_as_cover⟩,L.cl_Draft⟩
 have Ctake_when:Cy l.prog w K mg base 41 "take_when" ["draft","words"] (Y3 (A8.mk Ab Ae Ad Ah Ao Ax Ay Am) Aw):=D_take_when.cal λf fd F=>B9 F T L Cread_condition;have Cweight_of:Cy l.prog w K mg base 3 "weight_of" ["word"] FY:=D_weight_of.cal λf fd F=>K8 F T Cwrites_whole;have Ctake_share:Cy l.prog w K mg base 4 "take_share" ["draft","words"] (IG Aw):=D_take_share.cal λf fd F=>Yf F T L Cweight_of;have Ctake_waits:Cy l.prog w K mg base 1 "take_waits" ["draft","words"] (GR Aw):=D_take_waits.cal λf fd F=>Xv F T L;have Cclause_of:Cy l.prog w K mg base 6 "clause_of" ["words"] (FG Al Ba An Aq):=D_clause_of.cal λf fd F=>E8 F T L Cread_cents KOwn KLayer KLimit;have Cnew_draft:Cy l.prog w K mg base 3 "new_draft" ["drafts","words"] (Y9 (A8.mk Ab Ae Ad Ah Ao Ax Ay Am) Al Ba An Aq Aw):=D_new_draft.cal λf fd F=>L6 F T L KDraft;have Ctake_of_cover:Cy l.prog w K mg base 42 "take_of_cover" ["draft","words"] (K7 (A8.mk Ab Ae Ad Ah Ao Ax Ay Am) Al Ba An Aq Aw):=D_take_of_cover.cal λf fd F=>Tb F T L Ctake_when Ctake_share Ctake_waits Cclause_of;have Ctake_row:Cy l.prog w K mg base 43 "take_row" ["drafts","row"] (B0 (A8.mk Ab Ae Ad Ah Ao Ax Ay Am) Al Ba An Aq Aw):=D_take_row.cal λf fd F=>O9 F T L Cnew_draft Ctake_of_cover Mas_cover;have Cread_book:Cy l.prog w K mg base 44 "read_book" ["rows"] (GE (A8.mk Ab Ae Ad Ah Ao Ax Ay Am) Al Ba An Aq As Bb Bd):=D_read_book.cal λf fd F=>D5 F T L Z Ctake_row Mas_cover KBook;have Mcw:E5 l.prog w K mg base 2 (KE Ba An Aq) "words" ["self"] (DK Al Ba An Aq):=⟨λC hC=>by
  rcases hC with rfl|rfl|rfl
  .exact⟨⟨_,_,K9 F_Own_words T L Cshow_cents,B_Own_words,H_Own_words⟩,L.cl_Own⟩
  .exact⟨⟨_,_,Xg F_Layer_words T L Cshow_cents,B_Layer_words,H_Layer_words⟩,L.cl_Layer⟩
  .exact⟨⟨_,_,Xj F_Limit_words T L Cshow_cents,B_Limit_words,H_Limit_words⟩,L.cl_Limit⟩⟩
 have Cshow_share:Cy l.prog w K mg base 1 "show_share" ["cover"] (QD (A8.mk Ab Ae Ad Ah Ao Ax Ay Am) Al Ba An Aq As Bb):=D_show_share.cal λf fd F=>Xn F T L;have Cshow_cover:Cy l.prog w K mg base 202 "show_cover" ["cover"] (NU (A8.mk Ab Ae Ad Ah Ao Ax Ay Am) Al Ba An Aq As Bb):=D_show_cover.cal λf fd F=>Yi F T L Cshow_condition Mcw Cshow_share;have Cshow_book:Cy l.prog w K mg base 203 "show_book" ["book"] (OY (A8.mk Ab Ae Ad Ah Ao Ax Ay Am) Al Ba An Aq As Bb Bd):=D_show_book.cal λf fd F=>F7 F T L Cshow_cover;have C_law_cell:Cy l.prog w K mg base 1 "_law_cell" ["_law_script","_law_k"] (Te K):=D__law_cell.cal λf fd F=>M5 F T;have C_law_spread:Cy l.prog w K mg base 1 "_law_spread" ["_law_cell_here"] Kk:=D__law_spread.cal λf fd F=>Wq F T;have C_law_names:Cy l.prog w K mg base 1 "_law_names" ["_law_cell_here","_law_many"] J2:=D__law_names.cal λf fd F=>Ym F T;have C_law_amount:Cy l.prog w K mg base 1 "_law_amount" ["_law_digit","_law_unit_here"] BB:=D__law_amount.cal λf fd F=>Vs F T;have C_law_unit:Cy l.prog w K mg base 2 "_law_unit" ["_law_script"] (W7 K):=D__law_unit.cal λf fd F=>M0 F T C_law_cell C_law_spread;have C_law_world:Cy l.prog w K mg base 2 "_law_world" ["_law_script"] (E6 K):=D__law_world.cal λf fd F=>Ya F T C_law_cell C_law_spread C_law_names;have C_law_drawn_clause:Cy l.prog w K mg base 2 "_law_drawn_clause" ["_law_cell_here","_law_unit_here"] NV:=D__law_drawn_clause.cal λf fd F=>Ni F T C_law_amount;have C_law_cond:Cy l.prog w K mg base 2 "_law_cond" ["_law_cell_here","_law_things","_law_causes","_law_unit_here"] AF:=D__law_cond.cal λf fd F=>D8 F T C_law_amount
 have C_law_houses:Cy l.prog w K mg base 1 "_law_houses" ["_law_cell_here","_law_pool"] NR:=D__law_houses.cal λf fd F=>Wj F T;have C_law_covers:Cy l.prog w K mg base 3 "_law_covers" ["_law_script","_law_start","_law_names_here","_law_things","_law_causes","_law_unit_here","_law_pool"] (W5 K):=D__law_covers.cal λf fd F=>Ws F T C_law_cell C_law_spread C_law_drawn_clause C_law_cond C_law_houses;have C_law_money:Cy l.prog w K mg base 1 "_law_money" ["_law_cents_here"] Jx:=D__law_money.cal λf fd F=>Yk F T;have C_law_text:∀ m,Cy l.prog w K mg base (2*m+1) "_law_text" ["_law_cond_here"] (Z5 m):=by
  intro m
  induction m with
  |zero=>exact D__law_text.cal λf fd F=>JY λ_ _ _ _=>QT
  |succ m ih=>
   have C_law_bracketed:Cy l.prog w K mg base (2*m+1+1) "_law_bracketed" ["_law_cond_here","_law_least"] (NT m):=D__law_bracketed.cal λf fd F=>Rc F ih;exact D__law_text.cal λf fd F=>L7 F T C_law_money C_law_bracketed
 have C_law_clause_row:Cy l.prog w K mg base 2 "_law_clause_row" ["_law_clause"] N6:=D__law_clause_row.cal λf fd F=>Qc F T C_law_money;have C_law_cover_rows:Cy l.prog w K mg base 12 "_law_cover_rows" ["_law_cover"] IH:=D__law_cover_rows.cal λf fd F=>Qg F T (C_law_text 5) C_law_clause_row;have C_law_rows:Cy l.prog w K mg base 13 "_law_rows" ["_law_covers_here"] IP:=D__law_rows.cal λf fd F=>C2 F T C_law_cover_rows;have C_law_drawn_rows:Cy l.prog w K mg base 12 "_law_drawn_rows" ["_law_cover","_law_cell_here"] ON:=D__law_drawn_rows.cal λf fd F=>Pp F T (C_law_text 5) C_law_clause_row;have C_law_same:Cy l.prog w K mg base 202 "_law_same" ["_law_found","_law_cover"] (X8 (A8.mk Ab Ae Ad Ah Ao Ax Ay Am) Al Ba An Aq As Bb):=D__law_same.cal λf fd F=>L0 F T L Cshow_condition (C_law_text 5) Mcw C_law_clause_row;exact PZ F52 T L C_law_cell C_law_spread C_law_unit C_law_world C_law_covers C_law_drawn_rows C_law_rows C_law_same Cread_book Cshow_book
def walk {l:PySem.W.OpenLaw} {q:Program} {loose:List Str} {XP:(Str->Option Value)->Heap->Prop} {YP:World->Heap->Prop} {d:DefRec} {K:Params->zAb} (hn:l.most=some 63) (hdf:d.params.defaults=[])
  (hY:∀ (w:World) (h:Heap),YP w h->(K w.params).In h)
  (F:∀ (w:World) (mg:Str->Option Value) (fa:Addr) (h:Heap),(K w.params).In h->h.Ns zCi mg->mg d.name=some (.ref fa) ->
   ∃ fd:zCh,(∀ (s:Shared) (u:Value),BindsTo s fd ⟨[u],[]⟩ [("_law_script",u)])/\∀ base:Heap,(K w.params).In base->base.Ns zCi mg->WN l.prog w (K w.params) mg base Do 204 fa fd ["_law_script"] (BC (K w.params))) :
  PySem.W.WalkO q loose XP YP l.row.toRowW d [] (λf vs=>PySem.call f vs):=
 L2.walk_of (n:=63) (k:=204) (x:="_law_script") (CX:=λ_=>Do) (sp:=λw=>BC (K w.params)) hn (by decide) hdf ⟨rfl,by decide,by decide⟩ hY F (λ_ _ a ns hl _ hS=>⟨a,ns,rfl,hS,hl,λ_=>rfl⟩) λ_ _ _ _ _ z=>z
end CRL
open PySem PySem.W PyProof.Rows
set_option tactic.hygienic true in
set_option maxRecDepth 100000 in
set_option maxHeartbeats 0 in
theorem PySem.Challenge.cw_coverroll_k91_books_read_and_shown_holds : PySem.Challenge.rw_coverroll_k91_books_read_and_shown.Holds := by
 refine Zhd ?_
 k_fill
 refine CRL.walk (l:=PySem.Challenge.rw_coverroll_k91_books_read_and_shown) rfl rfl (λw h (Y:_/\_)=>Y.1) ?F
 case F=>
  intro w mg fa h KX G hmg
  refine' CRL.all_mk KX G hmg ?d0 ?d1 ?d2 ?d3 ?d4 ?d5 ?d6 ?d7 ?d8 ?d9 ?d10 ?d11 ?d12 ?d13 ?d14 ?d15 ?d16 ?d17 ?d18 ?d19 ?d20 ?d21 ?d22 ?d23 ?d24 ?d25 ?d26 ?d27 ?d28 ?d29 ?d30 ?d31 ?d32 ?d33 ?d34 ?d35 ?d36 ?d37 ?d38 ?d39 ?d40 ?d41 ?d42 ?d43 ?d44 ?d45 ?d46 ?d47 ?d48 ?d49 ?d50 ?d51 ?d52 ?q_Condition ?q_CauseIs ?na_CauseIs_name ?q_ThingIs ?na_ThingIs_name ?q_DaysIn ?na_DaysIn_first ?na_DaysIn_last ?q_Over ?na_Over_cents ?q_Not ?na_Not_part ?q_All ?na_All_several ?q_Some ?na_Some_several ?q_Clause ?na_Clause_by ?q_Own ?na_Own_cents ?na_Own_by ?q_Layer ?na_Layer_first ?na_Layer_upto ?na_Layer_by ?q_Limit ?na_Limit_most ?na_Limit_by ?q_Deal ?na_Deal_wheel ?na_Deal_weights ?q_Cover ?na_Cover_name ?na_Cover_condition ?na_Cover_clauses ?na_Cover_houses ?na_Cover_deal ?na_Cover_waits ?q_Book ?na_Book_covers ?na_Book_asking ?ha_Book ?hm_Book ?gs ?tk ?q_Reader ?na_Reader_row ?na_Reader_place ?na_Reader_depth ?q_Draft ?na_Draft_name ?na_Draft_condition ?na_Draft_clauses ?na_Draft_shares ?na_Draft_waits ?kt_Book_Book ?nd_C ?a_Condition_rank ?iCondition_rank ?a_Condition_words ?iCondition_words ?a_CauseIs___init__ ?iCauseIs___init__ ?a_CauseIs_words ?iCauseIs_words ?a_ThingIs___init__ ?iThingIs___init__ ?a_ThingIs_words ?iThingIs_words ?a_DaysIn___init__ ?iDaysIn___init__ ?a_DaysIn_words ?iDaysIn_words ?a_Over___init__ ?iOver___init__ ?a_Over_words ?iOver_words ?a_Not___init__ ?iNot___init__ ?a_Not_words ?iNot_words ?a_All___init__ ?iAll___init__ ?a_All_rank ?iAll_rank ?a_All_words ?iAll_words ?a_Some___init__ ?iSome___init__ ?a_Some_rank ?iSome_rank ?a_Some_words ?iSome_words ?a_Clause___init__ ?iClause___init__ ?a_Own___init__ ?iOwn___init__ ?a_Own_words ?iOwn_words ?a_Layer___init__ ?iLayer___init__ ?a_Layer_words ?iLayer_words ?a_Limit___init__ ?iLimit___init__ ?a_Limit_words ?iLimit_words ?a_Deal___init__ ?iDeal___init__ ?a_Cover___init__ ?iCover___init__ ?lCover___init__ ?cCover___init__ ?kCover___init__ ?dlCover___init__ ?a_Book___init__ ?iBook___init__ ?a_Reader___init__ ?iReader___init__ ?a_Reader_ahead ?iReader_ahead ?a_Reader_step ?iReader_step ?a_Reader_read_rows ?iReader_read_rows ?a_Reader_read_row ?iReader_read_row ?a_Reader_goes_on ?iReader_goes_on ?a_Reader_read_piece ?iReader_read_piece ?a_Reader_read_deeper ?iReader_read_deeper ?a_Reader_read_bracket ?iReader_read_bracket ?a_Reader_read_name ?iReader_read_name ?a_Reader_read_days ?iReader_read_days ?a_Reader_read_day ?iReader_read_day ?a_Reader_read_amount ?iReader_read_amount ?a_Draft___init__ ?iDraft___init__ ?a_Draft_as_cover ?iDraft_as_cover ?a_CauseIs_rank ?a_ThingIs_rank ?a_DaysIn_rank ?a_Over_rank ?a_Not_rank ?bg_Clause___init__ ?br_Clause___init__ ?bf_Clause___init__ ?ni_Condition ?z_WAYS ?lw_WAYS ?z_COVERED_ONE ?z_FIGURES ?z_LAST_DAY ?z_LETTERS ?z_LONGEST_NAME ?z_MOST_CENTS ?z_MOST_CLAUSES ?z_MOST_COVERS ?z_MOST_DAY_FIGURES ?z_MOST_IN_ROW ?z_MOST_OPEN ?z_MOST_PLACES ?z_MOST_TURNS ?z_MOST_WEIGHT_FIGURES ?z_MOST_WHOLE_FIGURES ?z_MOST_WORDS ?z_RANK_OF_ALL ?z_RANK_OF_OTHERS ?z_RANK_OF_SOME ?z_bool ?z_enumerate ?z_int ?z_isinstance ?z_len ?z_list ?z_max ?z_range ?z_set ?z_str ?z_sum ?z_zip ?q_CoverError ?q_NoAmount ?q_NoShares ?q_NoWords ?q_TooDeep ?q_NoClause ?q_NoCover ?q_NoBook ?q_NoText ?q_NoRow
  (case q_Condition|q_CauseIs|q_ThingIs|q_DaysIn|q_Over|q_Not|q_All|q_Some|q_Clause|q_Own|q_Layer|q_Limit|q_Deal|q_Cover|q_Book|q_Reader|q_Draft=>(constructor <;> k_is))
  (case na_CauseIs_name|na_ThingIs_name|na_DaysIn_first|na_DaysIn_last|na_Over_cents|na_Not_part|na_All_several|na_Some_several|na_Clause_by|na_Own_cents|na_Own_by|na_Layer_first|na_Layer_upto|na_Layer_by|na_Limit_most|na_Limit_by|na_Deal_wheel|na_Deal_weights|na_Cover_name|na_Cover_condition|na_Cover_clauses|na_Cover_houses|na_Cover_deal|na_Cover_waits|na_Book_covers|na_Book_asking|ha_Book|hm_Book|gs|tk|na_Reader_row|na_Reader_place|na_Reader_depth|na_Draft_name|na_Draft_condition|na_Draft_clauses|na_Draft_shares|na_Draft_waits|a_Condition_rank|a_Condition_words|a_CauseIs___init__|a_CauseIs_words|a_ThingIs___init__|a_ThingIs_words|a_DaysIn___init__|a_DaysIn_words|a_Over___init__|a_Over_words|a_Not___init__|a_Not_words|a_All___init__|a_All_rank|a_All_words|a_Some___init__|a_Some_rank|a_Some_words|a_Clause___init__|a_Own___init__|a_Own_words|a_Layer___init__=>k_is)
  (case a_Layer_words|a_Limit___init__|a_Limit_words|a_Deal___init__|a_Cover___init__|iCover___init__|lCover___init__|cCover___init__|kCover___init__|dlCover___init__|a_Book___init__|a_Reader___init__|a_Reader_ahead|a_Reader_step|a_Reader_read_rows|a_Reader_read_row|a_Reader_goes_on|a_Reader_read_piece|a_Reader_read_deeper|a_Reader_read_bracket|a_Reader_read_name|a_Reader_read_days|a_Reader_read_day|a_Reader_read_amount|a_Draft___init__|a_Draft_as_cover|a_CauseIs_rank|a_ThingIs_rank|a_DaysIn_rank|a_Over_rank|a_Not_rank|bg_Clause___init__|br_Clause___init__|bf_Clause___init__|ni_Condition|z_WAYS|lw_WAYS|z_COVERED_ONE|z_FIGURES|z_LAST_DAY|z_LETTERS|z_LONGEST_NAME|z_MOST_CENTS|z_MOST_CLAUSES|z_MOST_COVERS|z_MOST_DAY_FIGURES|z_MOST_IN_ROW|z_MOST_OPEN|z_MOST_PLACES|z_MOST_TURNS|z_MOST_WEIGHT_FIGURES|z_MOST_WHOLE_FIGURES|z_MOST_WORDS|z_RANK_OF_ALL|z_RANK_OF_OTHERS|z_RANK_OF_SOME|z_bool|z_enumerate|z_int|z_isinstance=>k_is)
  (case z_len|z_list|z_max|z_range|z_set|z_str|z_sum|z_zip|q_CoverError|q_NoAmount|q_NoShares|q_NoWords|q_TooDeep|q_NoClause|q_NoCover|q_NoBook|q_NoText|q_NoRow=>k_is)
  (case d0|d1|d2|d3|d4|d5|d6|d7|d8|d9|d10|d11|d12|d13|d14|d15|d16|d17|d18|d19|d20|d21|d22|d23|d24|d25|d26|d27|d28|d29|d30|d31|d32|d33|d34|d35|d36|d37|d38|d39|d40|d41|d42|d43|d44|d45|d46|d47|d48|d49|d50|d51|d52=>(apply L2.DfIn.of <;> k_is))
  (case iCondition_rank|iCondition_words|iCauseIs___init__|iCauseIs_words|iThingIs___init__|iThingIs_words|iDaysIn___init__|iDaysIn_words|iOver___init__|iOver_words|iNot___init__|iNot_words|iAll___init__|iAll_rank|iAll_words|iSome___init__|iSome_rank|iSome_words|iClause___init__|iOwn___init__|iOwn_words|iLayer___init__|iLayer_words|iLimit___init__|iLimit_words|iDeal___init__|iBook___init__|iReader___init__|iReader_ahead|iReader_step|iReader_read_rows|iReader_read_row|iReader_goes_on|iReader_read_piece|iReader_read_deeper|iReader_read_bracket|iReader_read_name|iReader_read_days|iReader_read_day|iReader_read_amount|iDraft___init__|iDraft_as_cover=>(apply L2.MtIn.of <;> k_is))
  (case kt_Book_Book=>kit_is)
  (case nd_C=>decide)
